import PyProof.Rows.All
import Wide.All
import OpenK.AllK
import Wide.FinOn
import PyProof.Rows.SortShellAny
import HandS.Base
import HandS.Call
import HandS.List
import HandS.Comp
import HandS.Set
import HandS.SetFor
import HandS.SetBool
import HandS.ForMost
import HandS.Star
import HandS.Conv
import HandS.Codes
import HandS.IsInst
import HandS.TupAny
import HandS.Text
import HandS.Style
import HandS.FStr
import HandS.More
import HandS.Iter
import HandS.StrMore
import PySem.Challenge.RW_finitestructures_k02_formulas_are_writte
set_option Elab.async false
set_option linter.all false
set_option maxRecDepth 100000
set_option maxHeartbeats 4000000
/-! Sets of texts: what one is, put in, made of a sequence, sorted. -/
namespace Tx
open PySem PySem.Spec PyProof.Rows L2

/-- the object of a fresh set -/
abbrev s0 (w : World) : Obj := { cls := .type "set", dict := none, data := .set #[] 0 (.fresh 0 0 (!w.params.followText "set-order")) }
def txt (e : Int × Value) : Str := match e.2 with | .str x _ => x | _ => Str.empty
def GoodT (w : World) (e : Int × Value) : Prop := ∃ x u, e.2 = Value.str x u ∧ e.1 = hashStr w x
/-- at a stands a set whose members are those of l -/
structure TS0 (w : World) (l : List Str) (o : Obj) (es : Array (Int × Value)) (ep : Nat) (t : SetTable) : Prop where
  exact_ : o.ExactSet
  data : o.data = .set es ep t
  good : ∀ e ∈ es.toList, GoodT w e
  once : (es.toList.map txt).Nodup
  mem : ∀ x, x ∈ l ↔ x ∈ es.toList.map txt
  few : es.size ≤ l.length
  size : es.size < scanBound
  fits : t.fits es.size = true
  ris : Ris t.place.toList
  led : w.params.followText "set-order" = true ∨ t.led = true
def TSet (w : World) (h : Heap) (a : Addr) (l : List Str) : Prop := ∃ o es ep t, h.get? a = some o ∧ TS0 w l o es ep t
theorem TSet.at {w : World} {h h' : Heap} {a : Addr} {l : List Str} (R : TSet w h a l) (k : ∀ o, h.get? a = some o → h'.get? a = some o) : TSet w h' a l :=
  let ⟨o, es, ep, t, ho, r⟩ := R; ⟨o, es, ep, t, k o ho, r⟩
theorem TSet.same {w : World} {h : Heap} {a : Addr} {l l' : List Str} (R : TSet w h a l) (m : ∀ x, x ∈ l' ↔ x ∈ l) (n : l.length ≤ l'.length) : TSet w h a l' :=
  let ⟨o, es, ep, t, ho, r⟩ := R
  ⟨o, es, ep, t, ho, { r with mem := fun x => (m x).trans (r.mem x), few := Nat.le_trans r.few n }⟩

section
variable {P : Program} {w : World}
theorem kind_is (x : Str) (u : Tok) : (PySem.strKind P w).is x (.str x u) = true := by
  show Value.isStrOf x (.str x u) = true
  simp [Value.isStrOf]
theorem elems {l : List (Int × Value)} (g : ∀ e ∈ l, GoodT w e) : ElemsOf (PySem.strKind P w) l := fun e he => by
  obtain ⟨x, u, e1, e2⟩ := g e he
  refine ⟨⟨x, ?_, e2⟩, ?_⟩
  · rw [e1]; exact kind_is x u
  · rw [e1]; rfl
theorem is_txt {e : Int × Value} (g : GoodT w e) (x : Str) : (PySem.strKind P w).is x e.2 = true ↔ txt e = x := by
  obtain ⟨y, u, e1, _⟩ := g
  unfold txt
  rw [e1]
  constructor
  · intro q
    exact (PySem.strKind P w).inj (.str y u) y x (kind_is y u) q
  · intro q
    have q' : y = x := q
    rw [← q']; exact kind_is y u
theorem mem_txt {l : List (Int × Value)} (g : ∀ e ∈ l, GoodT w e) (x : Str) : x ∈ l.map txt ↔ ∃ e ∈ l, (PySem.strKind P w).is x e.2 = true := by
  rw [List.mem_map]
  exact ⟨fun ⟨e, he, q⟩ => ⟨e, he, (is_txt (g e he) x).mpr q⟩, fun ⟨e, he, q⟩ => ⟨e, he, (is_txt (g e he) x).mp q⟩⟩
end

section
variable {P : Program} {w : World} {A : Around} {E : Value → Shared → Prop} {s : Shared} {a : Addr}
/-- the set is stored, and laid anew where it has grown full -/
theorem add_end {gv : Bool → Sem Unit} (hg : ∀ (b : Bool) (s1 : Shared) (Z : Unit → Shared → Prop), Z () s1 → wpAny (model P w) A (gv b) Z E s1) {l : List Str}
    {o : Obj} {es : Array (Int × Value)} {ep : Nat} {t : SetTable} (ho : s.heap.get? a = some o) (hd : o.data = .set es ep t) {es1 : Array (Int × Value)} {t1 : SetTable} {dummy : Bool}
    (R1 : ∀ ep1, TS0 w l { o with data := .set es1 ep1 t1 } es1 ep1 t1) {Z : Option Bool → Shared → Prop}
    (hZ : ∀ h', Heap.SameBut a s.heap h' → TSet w h' a l → Z (some true) { s with heap := h' }) :
    wpAny (model P w) A (do
        storeSet a es1 t1
        if (!dummy && t1.tooFull) = true then do
            gv (relayAll t1 es1 (SetTable.grown es1.size)).2.2
            storeSet a (relayAll t1 es1 (SetTable.grown es1.size)).1 (relayAll t1 es1 (SetTable.grown es1.size)).2.1
            pure (some true)
          else pure (some true)) Z E s := by
  have r1 := R1 (ep + 1)
  refine wpAny_bind (wpAny_storeSet_of ho hd ?_ (fits_of_scanBound r1.size))
  have ho1 := store_at (es' := es1) (t' := t1) ho hd
  have sb := Heap.SameBut.update s.heap a (Obj.putSet es1 t1)
  by_cases full : (!dummy && t1.tooFull) = true
  · rw [if_pos full]
    have e1 := relayAll_perm t1 es1 (SetTable.grown es1.size)
    have e2 := relayAll_fits t1 es1 (SetTable.grown es1.size)
    have e3 := relayAll_ris t1 es1 (SetTable.grown es1.size)
    have e4 := relayAll_led t1 es1 (SetTable.grown es1.size)
    generalize relayAll t1 es1 (SetTable.grown es1.size) = N at e1 e2 e3 e4 ⊢
    obtain ⟨es2, t2, gave⟩ := N
    dsimp only at e1 e2 e3 e4 ⊢
    have n2 : es2.size = es1.size := by
      have q := e1.length_eq
      rwa [Array.length_toList, Array.length_toList] at q
    refine wpAny_bind (hg _ _ _ (wpAny_bind (wpAny_storeSet_of ho1 rfl ?_ (fits_of_scanBound (by rw [n2]; exact r1.size)))))
    have ho2 := store_at (es' := es2) (t' := t2) ho1 rfl
    refine wpAny_pure (hZ _ (sb.trans (Heap.SameBut.update _ a _)) ⟨_, es2, ep + 1 + 1, t2, ho2, ?_⟩)
    exact { exact_ := r1.exact_, data := rfl, good := fun e he => r1.good e (e1.mem_iff.mp he), once := (e1.map txt).nodup_iff.mpr r1.once, mem := fun x => (r1.mem x).trans (e1.map txt).mem_iff.symm,
            few := by rw [n2]; exact r1.few, size := by rw [n2]; exact r1.size, fits := e2, ris := e3, led := r1.led.imp id fun z => by rw [e4]; exact z }
  · rw [if_neg full]
    exact wpAny_pure (hZ _ sb ⟨_, es1, ep + 1, t1, ho1, r1⟩)
/-- the hashed text is put in -/
theorem add_hashed {x : Str} {u : Tok} {l : List Str} {Z : Bool → Shared → Prop} (R : TSet w s.heap a l) (room : l.length + 1 < scanBound)
    (hZ : ∀ b h', Heap.SameBut a s.heap h' → TSet w h' a (l ++ [x]) → Z b { s with heap := h' }) : wpAny (model P w) A (setAddHashed a (.str x u) (hashStr w x)) Z E s := by
  obtain ⟨o, es, ep, t, ho, r⟩ := R
  have hkey : (PySem.strKind P w).is x (.str x u) = true := kind_is x u
  have hsc : (Value.str x u).scannable = true := rfl
  have hel : ElemsOf (PySem.strKind P w) es.toList := elems r.good
  unfold setAddHashed setAddHashedIn
  refine wpAny_holding (wpAny_bind (wpAny_setState_of ho r.data r.fits ?_))
  dsimp only
  rw [byScan_of hsc r.size hel]
  simp only [↓reduceIte]
  unfold setAddByScan
  refine wpAny_bind (wpAny_bind (wpAny_rule (wpAny_bind (wpAny_setScan_of hkey ho r.data r.fits hel ?_))))
  cases found : List.findIdx? (fun e => (PySem.strKind P w).is x e.2) es.toList with
  | some j =>
    dsimp only
    obtain ⟨hj, pj, _⟩ := List.findIdx?_eq_some_iff_getElem.mp found
    have hx : x ∈ l := (r.mem x).mpr ((mem_txt (P := P) r.good x).mpr ⟨es.toList[j], List.getElem_mem hj, pj⟩)
    refine wpAny_pure (wpAny_pure (hZ false s.heap (Heap.SameBut.refl a s.heap) ?_))
    refine TSet.same (l := l) ⟨o, es, ep, t, ho, r⟩ (fun y => ?_) (by rw [List.length_append]; exact Nat.le_add_right _ _)
    rw [List.mem_append, List.mem_singleton]
    exact ⟨fun z => z.elim id fun e => e ▸ hx, .inl⟩
  | none =>
    dsimp only
    have hx : x ∉ es.toList.map txt := fun z => by
      obtain ⟨e, he, q⟩ := (mem_txt (P := P) r.good x).mp z
      have no := List.findIdx?_eq_none_iff.mp found e he
      rw [q] at no
      cases no
    have e1 := layNew_perm t es (hashStr w x) (.str x u)
    have e2 := layNew_fits t es (hashStr w x) (.str x u)
    have e3 := layNew_ris t es (hashStr w x) (.str x u) r.ris
    have e4 := layNew_led t es (hashStr w x) (.str x u)
    show wpAny _ _ (_ >>= _) _ _ _
    generalize hN : layNew t es (hashStr w x) (.str x u) = N at e1 e2 e3 e4 ⊢
    have hN' : layNew t es ((PySem.strKind P w).hash x) (.str x u) = N := hN
    try rw [hN']
    obtain ⟨es1, t1, dummy, gave⟩ := N
    dsimp only at e1 e2 e3 e4 ⊢
    rw [Array.toList_push] at e1
    have pc := e1.trans (List.perm_append_singleton _ _)
    have pk := pc.map txt
    have n1 : es1.size = es.size + 1 := by
      have q := pc.length_eq
      rwa [Array.length_toList, List.length_cons, Array.length_toList] at q
    have hn : es1.size < scanBound := by have := r.few; omega
    have mk : ∀ (t2 : SetTable), t2.fits es1.size = true → Ris t2.place.toList → t2.led = t1.led → ∀ ep1, TS0 w (l ++ [x]) { o with data := .set es1 ep1 t2 } es1 ep1 t2 := fun t2 f2 i2 d2 ep1 =>
      { exact_ := r.exact_, data := rfl
        good := fun e he => (List.mem_cons.mp (pc.mem_iff.mp he)).elim (fun z => by rw [z]; exact ⟨x, u, rfl, rfl⟩) (r.good e)
        once := pk.nodup_iff.mpr (List.nodup_cons.mpr ⟨hx, r.once⟩)
        mem := fun y => by
          rw [pk.mem_iff, List.map_cons, List.mem_cons, List.mem_append, List.mem_singleton, r.mem y]
          exact or_comm
        few := by rw [n1, List.length_append]; exact Nat.succ_le_succ r.few
        size := hn, fits := f2, ris := i2
        led := r.led.imp id fun z => by rw [d2, e4]; exact z }
    have gw : ∀ (b : Bool) (s1 : Shared) (Z' : Unit → Shared → Prop), Z' () s1 → wpAny (model P w) A (match b with | true => rule "set.scan.the-table-gave-way" | false => pure ()) Z' E s1 :=
      fun b s1 Z' q => by cases b <;> first | exact wpAny_pure q | exact wpAny_rule q
    refine wpAny_bind ((gw _ _ _ ?_))
    split
    · refine wpAny_bind ?_
      rw [hashByValue_scannable 8 hsc]
      refine wpAny_pure ?_
      refine add_end (l := l ++ [x]) ?_ ho r.data ?_ ?_
      · intro b s1 Z' q
        cases b <;> first | exact wpAny_pure q | exact wpAny_rule q
      · intro ep1
        first
          | (split <;> first | exact mk _ e2 e3 rfl ep1 | exact mk _ (SetTable.fits_plain_off e2) e3 rfl ep1)
          | exact mk _ (SetTable.fits_plain_off e2) e3 rfl ep1
      · intro h' sb q
        dsimp only
        exact wpAny_pure (hZ true h' sb q)
    · refine wpAny_bind (wpAny_pure ?_)
      simp only [↓reduceIte]
      refine add_end (l := l ++ [x]) ?_ ho r.data (mk _ e2 e3 rfl) ?_
      · intro b s1 Z' q
        cases b <;> first | exact wpAny_pure q | exact wpAny_rule q
      · intro h' sb q
        dsimp only
        exact wpAny_pure (hZ true h' sb q)

/-! ### made, put in, walked -/
theorem fresh_at {h : Heap} (ho : h.get? a = some (s0 w)) : TSet w h a [] := by
  refine ⟨_, #[], 0, .fresh 0 0 (!w.params.followText "set-order"), ho, ?_⟩
  refine { exact_ := ⟨rfl, rfl, rfl⟩, data := rfl, good := fun e he => ?_, once := ?_, mem := fun x => ?_, few := ?_, size := ?_, fits := ?_, ris := ?_, led := ?_ }
  · simp at he
  · simp
  · simp
  · simp
  · show 0 < scanBound
    decide
  · rfl
  · exact List.Pairwise.nil
  · show _ ∨ (!w.params.followText "set-order") = true
    cases w.params.followText "set-order" with
    | false => exact .inr rfl
    | true => exact .inl rfl
theorem put_in {x : Str} {u : Tok} {l : List Str} {Z : Bool → Shared → Prop} (R : TSet w s.heap a l) (room : l.length + 1 < scanBound)
    (hZ : ∀ b h', Heap.SameBut a s.heap h' → TSet w h' a (l ++ [x]) → Z b { s with heap := h', toks := s.toks + 1 }) : wpAny (model P w) A (setAdd a (.str x u)) Z E s := by
  unfold setAdd
  exact wpAny_holding (wpAny_bind ((PySem.strKind P w).pyHash (kind_is x u) (add_hashed (s := { s with toks := s.toks + 1 }) R room hZ)))
/-- found.add(x) -/
theorem call_add {x : Str} {u : Tok} {l : List Str} {Q : Value → Shared → Prop} (R : TSet w s.heap a l) (room : l.length + 1 < scanBound)
    (hQ : ∀ h', Heap.SameBut a s.heap h' → TSet w h' a (l ++ [x]) → Q .none { s with heap := h', toks := s.toks + 1 }) : wpAny (model P w) A (call (.builtin "set.add") [.ref a, .str x u]) Q E s := by
  have hT : s.TypeIs (.ref a) "set" := let ⟨o, _, _, _, ho, r⟩ := R; ⟨o, ho, r.exact_.1⟩
  refine wpAny_call_entry PySem.F.slot_set_add hT PySem.F.entry_set_add ?_ (PySem.F.args_set_add_2 _ _)
  unfold Builtin.«set.add» Builtin.Frozenset.oneOther
  simp only [List.isEmpty_nil, bind_assoc]
  unfold Builtin.Frozenset.addrOf
  refine wpAny_bind (wpAny_pure ?_)
  try dsimp only
  refine wpAny_bind (wpAny_pure ?_)
  try dsimp only
  refine wpAny_bind (put_in R room fun b h' sb q => ?_)
  show wpAny _ _ (ret Value.none) _ _ _
  exact wpAny_pure ⟨_, rfl, hQ h' sb q⟩
/-- the loop of set.update over what yields the texts xs -/
theorem update_loop {I : Addr} {fp wr : List Addr} {G : Array GenState → Array GenState → Prop} {n : Nat} {Pv : Nat → Value → Prop} {St : Nat → Shared → Prop} {R : Result → Shared → Prop}
    (W : WalksS P w A.in1 I fp wr G n Pv St) (S : Addr) (hS : S ∉ fp) (xs : List Str) (hn : n = xs.length) (hb : xs.length + 1 < scanBound) (hv : ∀ i v, Pv i v → ∃ x u, xs[i]? = some x ∧ v = .str x u) :
    ∀ (k i : Nat) (s : Shared), n = i + k → St i s → TSet w s.heap S (xs.take i) →
      (∀ s', Moved (S :: wr) G s s' → TSet w s'.heap S xs → R (.ok (.ret .none)) s') →
      codeAny (model P w) A (.builtin "set.update.loop" ⟨[.ref S, .ref I], []⟩) R s := by
  have nS : S ∉ wr := fun h => hS (W.sub _ h)
  have wide : ∀ b ∈ wr, b ∈ S :: wr := fun b hb => List.mem_cons_of_mem _ hb
  intro k
  induction k with
  | zero =>
    intro i s hi st hT hR
    have e : i = n := by omega
    subst e
    refine codeAny_builtin PyProof.Rows.F.entry_set_update_loop ?_
    rw [Around.under_plainId PyProof.Rows.F.plain_set_update_loop _]
    show wpAny _ A.in1 (pyNext (.ref I) >>= _) _ _ s
    refine wpAny_bind (W.done s _ _ st fun s' hm => ?_)
    show wpAny _ A.in1 (ret Value.none) _ _ s'
    rw [hn, List.take_length] at hT
    exact wpAny_pure (hR s' (hm.mono wide) (hT.at fun o e => hm.heap S o nS e))
  | succ k ih =>
    intro i s hi st hT hR
    have lt : i < n := by omega
    refine codeAny_builtin PyProof.Rows.F.entry_set_update_loop ?_
    rw [Around.under_plainId PyProof.Rows.F.plain_set_update_loop _]
    show wpAny _ A.in1 (pyNext (.ref I) >>= _) _ _ s
    refine wpAny_bind (W.item i s _ _ lt st fun v s' hP st' hm => ?_)
    obtain ⟨x, u, hx, rfl⟩ := hv i v hP
    have hT' : TSet w s'.heap S (xs.take i) := hT.at fun o e => hm.heap S o nS e
    show wpAny _ A.in1 (holding [Value.str x u] (setAdd S (.str x u)) >>= _) _ _ s'
    refine wpAny_bind (wpAny_holding (put_in hT' (by rw [List.length_take]; omega) fun b h' sb q => ?_))
    have q' : TSet w h' S (xs.take (i + 1)) := by
      rw [List.take_succ, hx]
      exact q
    refine wpAny_pure ⟨plainId_quiet PyProof.Rows.F.plain_set_update_loop _, ih (i + 1) _ (by omega) (W.frame _ s' _ _ st' (Nat.le_succ _) fun b hb o e => ?_) q' fun s2 hm2 hT2 => ?_⟩
    · rw [sb.2 b (fun z => hS (z ▸ hb))]
      exact e
    · refine hR s2 (Moved.trans W.gtrans ((hm.mono wide).then_heap (Nat.le_succ _) fun b o hb e => ?_) hm2) hT2
      rw [sb.2 b (fun z => hb (z ▸ List.mem_cons_self))]
      exact e
end
end Tx

set_option Elab.async false
set_option linter.all false
set_option maxRecDepth 100000
set_option maxHeartbeats 4000000
namespace Tx
open PySem PySem.Spec PyProof.Rows L2
section
variable {P : Program} {w : World} {A : Around} {E : Value → Shared → Prop} {s : Shared} {a : Addr}
/-- what a new set of the texts xs leaves -/
def Made (w : World) (s : Shared) (xs : List Str) (s' : Shared) : Prop :=
  ∃ h' tk, s' = { s with heap := h', toks := tk } ∧ TSet w h' s.heap.objs.size xs ∧ ∀ b o, s.heap.get? b = some o → h'.get? b = some o
/-- set(xs), by what its __init__ does -/
theorem call_set {l : Addr} {xs : List Str} {Q : Value → Shared → Prop} (hl : ∃ o, s.heap.get? l = some o)
    (init : ∀ (Z : PySem.Fin → Shared → Prop), (∀ s', Made w s xs s' → Z (.done (.ret .none)) s') →
      wpAny (model P w) A.in1.in1 (Builtin.«set.__init__» ⟨[.ref s.heap.objs.size, .ref l], []⟩) Z E { s with heap := s.heap.push (s0 w) })
    (hQ : ∀ s', Made w s xs s' → Q (.ref s.heap.objs.size) s') : wpAny (model P w) A (call (.type "set") [.ref l]) Q E s := by
  obtain ⟨mroC, mroT, mroE⟩ := PySem.F.called_set.mro
  have made := PySem.F.called_set.made
  have below := PySem.F.called_set.sub
  refine wpAny_call (codeAny_of_tree ?_)
  show wpAny _ _ (callAny (.type "set") _) _ _ _
  refine wpAny_pure ⟨Code.quiet_builtin _ (by decide +kernel), codeAny_builtin PySem.F.entry_type_call ?_⟩
  rw [Around.under_plain (weight_type_call_type "set" [.ref l] []) rfl]
  have f1 := PySem.F.called_set.notType
  have f2 := PySem.F.called_set.canCreate
  have f3 := PySem.F.typeCall_set_1 (.ref l)
  repeat (any_goals (first | assumption | wp_step))

  refine codeAny_mono (code_set_led1 (.ref l) (E := E) (Q₁ := fun r s1 => r = .ref s.heap.objs.size ∧ s1 = { s with heap := s.heap.push (s0 w) }) ⟨rfl, rfl⟩) fun r s1 hr => ?_
  cases r with
  | error e => exact hr
  | ok f =>
    cases f with
    | ret v =>
      obtain ⟨rfl, rfl⟩ := hr
      have hT : Shared.TypeIs { s with heap := s.heap.push (s0 w) } (.ref s.heap.objs.size) "set" := ⟨_, Heap.get?_push_size _ rfl, rfl⟩
      have g1 := PySem.F.called_set.init.lookup
      have g2 := PySem.F.called_set.init.bind (.ref s.heap.objs.size)
      repeat (any_goals (first | assumption | wp_step))

      refine codeAny_mono (codeAny_call_builtin (R := wants (fun r s2 => r = .none ∧ Made w s xs s2) E) PySem.F.called_set.init.plain PySem.F.entry_set_init (check_set_init_1 hT ?_)) fun r s2 hr => ?_
      · exact init _ fun s' m => ⟨rfl, m⟩
      · cases r with
        | error e => exact hr
        | ok f2 =>
          cases f2 with
          | ret v =>
            obtain ⟨rfl, m⟩ := hr
            repeat (any_goals (first | assumption | wp_step))
            exact hQ _ m
          | _ => exact hr.elim
    | _ => exact hr.elim
end
end Tx

set_option Elab.async false
set_option linter.all false
set_option maxRecDepth 100000
set_option maxHeartbeats 4000000
namespace Tx
open PySem PySem.Spec PyProof.Rows L2
section
variable {P : Program} {w : World} {A : Around} {E : Value → Shared → Prop} {s : Shared} {a : Addr}
theorem strs_at : ∀ {us : List Value} {xs : List Str}, StrsAre us xs → ∀ (i : Nat) (v : Value), us[i]? = some v → ∃ x u, xs[i]? = some x ∧ v = .str x u
  | _, _, .nil, i, v, h => by simp at h
  | _, _, .cons x u r, 0, v, h => ⟨x, u, rfl, by simpa using h.symm⟩
  | _, _, .cons x u r, i + 1, v, h => strs_at r i v (by simpa using h)
theorem strs_len : ∀ {us : List Value} {xs : List Str}, StrsAre us xs → us.length = xs.length
  | _, _, .nil => rfl
  | _, _, .cons x u r => congrArg Nat.succ (strs_len r)
/-- behind the loop -/
theorem ends {xs : List Str} {Z : PySem.Fin → Shared → Prop} {I : Addr} (hI : s.heap.objs.size + 1 ≤ I) {h1 : Heap} (k1 : ∀ b o, s.heap.get? b = some o → h1.get? b = some o) {s' : Shared} (hm : Moved [s.heap.objs.size, I] (fun a b => b = a) { s with heap := h1 } s') (hT : TSet w s'.heap s.heap.objs.size xs)
    (hZ : ∀ s', Made w s xs s' → Z (.done (.ret .none)) s') : Z (.done (.ret .none)) s' := by
  refine hZ s' ⟨s'.heap, s'.toks, ?_, hT, fun b o e => hm.heap b o (fun z => ?_) (k1 b o e)⟩
  · obtain ⟨h', g, d, tk, os⟩ := s'
    have e1 : g = s.gens := hm.gens
    have e2 : d = s.drawn := hm.drawn
    have e3 : os = s.os := hm.os
    subst e1 e2 e3
    rfl
  · have lt := Heap.lt_size e
    rcases List.mem_cons.mp z with z | z
    · exact absurd lt (z ▸ Nat.lt_irrefl _)
    · rw [List.mem_singleton.mp z] at lt
      exact absurd (Nat.lt_of_lt_of_le lt (Nat.le_of_succ_le hI)) (Nat.lt_irrefl _)
theorem init_list {l : Addr} {its : Array Value} {xs : List Str} (hh : A.handled = none) (hl : s.heap.IsList l its) (hi : StrsAre its.toList xs) (hb : xs.length + 1 < scanBound) (Z : PySem.Fin → Shared → Prop) (hZ : ∀ s', Made w s xs s' → Z (.done (.ret .none)) s') :
    wpAny (model P w) A (Builtin.«set.__init__» ⟨[.ref s.heap.objs.size, .ref l], []⟩) Z E { s with heap := s.heap.push (s0 w) } := by
  have hlen : its.size = xs.length := by rw [← strs_len hi, Array.length_toList]
  obtain ⟨ol, hol, hcl, nl, hdl⟩ := hl
  obtain ⟨ocls, odict, odata, oslots⟩ := ol
  simp only at hcl hdl
  subst hcl; subst hdl
  have hT : Shared.TypeIs { s with heap := s.heap.push (s0 w) } (.ref s.heap.objs.size) "set" := ⟨_, Heap.get?_push_size _ rfl, rfl⟩
  have hS : (s.heap.push (s0 w)).get? s.heap.objs.size = some (s0 w) := Heap.get?_push_size _ rfl
  have hol' : (s.heap.push (s0 w)).get? l = some { cls := .type "list", dict := odict, data := .seq its nl, slots := oslots } := Heap.get?_push_of_some _ hol
  have f1 := PySem.F.sub_list_set
  have f2 := PySem.F.sub_list_frozenset
  have f3 : (Value.type "list" == Value.type "dict") = false := by decide
  have hl1 : (s.heap.push (s0 w)).IsList l its := ⟨_, hol', rfl, nl, rfl⟩
  have lt : l < s.heap.objs.size := Heap.lt_size hol
  have sz : (s.heap.push (s0 w)).objs.size = s.heap.objs.size + 1 := Heap.size_push ..
  unfold Builtin.«set.__init__» noKeywords Builtin.Frozenset.updateFrom
  generalize hPI : pyIter = PI
  wp_walk
  subst hPI
  refine wpAny_pyIter_list hl1 ?_
  refine wpAny_bind (wpAny_runValue ?_)
  have hne : l ≠ (s.heap.push (s0 w)).objs.size := by rw [sz]; exact Nat.ne_of_lt (Nat.lt_succ_of_lt lt)
  have hSf : s.heap.objs.size ∉ [(s.heap.push (s0 w)).objs.size, l] := by
    rw [sz]
    simp only [List.mem_cons, List.mem_singleton, List.not_mem_nil, or_false, not_or]
    exact ⟨Nat.ne_of_lt (Nat.lt_succ_self _), Nat.ne_of_gt lt⟩
  refine update_loop ((Walks.list (A := A.in1) (by simp [hh]) _ l hne its).toS) s.heap.objs.size hSf xs hlen hb (fun i v hv => strs_at hi i v (by rw [Array.getElem?_toList]; exact hv)) its.size 0 _ (by omega)
    ⟨⟨_, Heap.get?_push_size _ rfl, rfl, rfl⟩, hl1.push _⟩ (fresh_at (Heap.get?_push_of_some _ hS)) fun s' hm q => ?_
  refine wpAny_pure ?_
  show wpAny _ _ (ret Value.none) _ _ _
  exact wpAny_pure (ends (Nat.le_of_eq sz.symm) (fun b o e => Heap.get?_push_of_some _ (Heap.get?_push_of_some _ e)) hm q hZ)
theorem init_tuple {l : Addr} {its : Array Value} {xs : List Str} (hh : A.handled = none) (hl : s.heap.IsTuple l its) (hi : StrsAre its.toList xs) (hb : xs.length + 1 < scanBound) (Z : PySem.Fin → Shared → Prop) (hZ : ∀ s', Made w s xs s' → Z (.done (.ret .none)) s') :
    wpAny (model P w) A (Builtin.«set.__init__» ⟨[.ref s.heap.objs.size, .ref l], []⟩) Z E { s with heap := s.heap.push (s0 w) } := by
  have hlen : its.size = xs.length := by rw [← strs_len hi, Array.length_toList]
  obtain ⟨ol, hol, hcl, nl, hdl⟩ := hl
  obtain ⟨ocls, odict, odata, oslots⟩ := ol
  simp only at hcl hdl
  subst hcl; subst hdl
  have hT : Shared.TypeIs { s with heap := s.heap.push (s0 w) } (.ref s.heap.objs.size) "set" := ⟨_, Heap.get?_push_size _ rfl, rfl⟩
  have hS : (s.heap.push (s0 w)).get? s.heap.objs.size = some (s0 w) := Heap.get?_push_size _ rfl
  have hol' : (s.heap.push (s0 w)).get? l = some { cls := .type "tuple", dict := odict, data := .seq its nl, slots := oslots } := Heap.get?_push_of_some _ hol
  have f1 := F.sub_tuple_set
  have f2 := F.sub_tuple_frozenset
  have f3 : (Value.type "tuple" == Value.type "dict") = false := by decide
  have hl1 : (s.heap.push (s0 w)).IsTuple l its := ⟨_, hol', rfl, nl, rfl⟩
  have lt : l < s.heap.objs.size := Heap.lt_size hol
  have sz : (s.heap.push (s0 w)).objs.size = s.heap.objs.size + 1 := Heap.size_push ..
  unfold Builtin.«set.__init__» noKeywords Builtin.Frozenset.updateFrom
  generalize hPI : pyIter = PI
  wp_walk
  subst hPI
  refine wpAny_pyIter_tuple hl1 ?_
  refine wpAny_bind (wpAny_runValue ?_)
  have hne : l ≠ (s.heap.push (s0 w)).objs.size := by rw [sz]; exact Nat.ne_of_lt (Nat.lt_succ_of_lt lt)
  have hSf : s.heap.objs.size ∉ [(s.heap.push (s0 w)).objs.size, l] := by
    rw [sz]
    simp only [List.mem_cons, List.mem_singleton, List.not_mem_nil, or_false, not_or]
    exact ⟨Nat.ne_of_lt (Nat.lt_succ_self _), Nat.ne_of_gt lt⟩
  refine update_loop ((Walks.tuple (A := A.in1) (by simp [hh]) _ l hne its).toS) s.heap.objs.size hSf xs hlen hb (fun i v hv => strs_at hi i v (by rw [Array.getElem?_toList]; exact hv)) its.size 0 _ (by omega)
    ⟨⟨_, Heap.get?_push_size _ rfl, rfl, rfl⟩, hl1.push _⟩ (fresh_at (Heap.get?_push_of_some _ hS)) fun s' hm q => ?_
  refine wpAny_pure ?_
  show wpAny _ _ (ret Value.none) _ _ _
  exact wpAny_pure (ends (Nat.le_of_eq sz.symm) (fun b o e => Heap.get?_push_of_some _ (Heap.get?_push_of_some _ e)) hm q hZ)
end
end Tx

set_option Elab.async false
set_option linter.all false
set_option maxRecDepth 100000
set_option maxHeartbeats 4000000
namespace Tx
open PySem PySem.Spec PyProof.Rows L2
/-! ### the order of texts -/
def Lt (x y : Str) : Prop := x.cps.toList < y.cps.toList
def Le (x y : Str) : Prop := ¬ y.cps.toList < x.cps.toList
theorem le_trans {x y z : Str} (h : Le x y) (k : Le y z) : Le x z := fun q => by
  have h' : x.cps.toList ≤ y.cps.toList := List.not_lt.mp h
  rcases List.le_iff_lt_or_eq.mp h' with e | e
  · exact k (List.lt_trans q e)
  · exact k (e ▸ q)
theorem rising_all : ∀ (l : List Str) (p : Str), risingS p l = true → (∀ y ∈ l, Le p y) ∧ l.Pairwise Le
  | [], _, _ => ⟨fun y hy => (by cases hy), .nil⟩
  | x :: r, p, h => by
    have h' : (!ltCps x.cps.toList p.cps.toList && risingS x r) = true := h
    rw [Bool.and_eq_true] at h'
    obtain ⟨h1, h2⟩ := h'
    obtain ⟨h3, h4⟩ := rising_all r x h2
    have h5 : Le p x := fun q => by
      rw [ltCps_eq, decide_eq_true q] at h1
      cases h1
    exact ⟨fun y hy => (List.mem_cons.mp hy).elim (fun z => z ▸ h5) fun z => le_trans h5 (h3 y z), List.pairwise_cons.mpr ⟨h3, h4⟩⟩
theorem sorted_all : ∀ (l : List Str), sortedS l = true → l.Pairwise Le
  | [], _ => .nil
  | x :: r, h => List.pairwise_cons.mpr (rising_all r x h)
theorem str_ext {x y : Str} (h : x.cps.toList = y.cps.toList) : x = y := by
  cases x; cases y
  simp only at h
  exact congrArg Str.mk (Array.ext' h)
theorem up_of : ∀ {l : List Str}, l.Pairwise Le → l.Nodup → l.Pairwise Lt
  | [], _, _ => .nil
  | x :: r, h, d => by
    obtain ⟨h1, h2⟩ := List.pairwise_cons.mp h
    obtain ⟨d1, d2⟩ := List.nodup_cons.mp d
    refine List.pairwise_cons.mpr ⟨fun y hy => ?_, up_of h2 d2⟩
    have q : x.cps.toList ≤ y.cps.toList := List.not_lt.mp (h1 y hy)
    rcases List.le_iff_lt_or_eq.mp q with z | z
    · exact z
    · exact absurd (str_ext z ▸ hy) d1
/-- rising lists of the same members are one -/
theorem up_one : ∀ {l m : List Str}, l.Pairwise Lt → m.Pairwise Lt → (∀ x, x ∈ l ↔ x ∈ m) → l = m
  | [], [], _, _, _ => rfl
  | [], y :: m, _, _, h => by simpa using (h y).mpr List.mem_cons_self
  | x :: l, [], _, _, h => by simpa using (h x).mp List.mem_cons_self
  | x :: l, y :: m, a, b, h => by
    obtain ⟨a1, a2⟩ := List.pairwise_cons.mp a
    obtain ⟨b1, b2⟩ := List.pairwise_cons.mp b
    have irr : ∀ z : Str, ¬ Lt z z := fun z q => List.lt_irrefl _ q
    have asy : ∀ z u : Str, Lt z u → Lt u z → False := fun z u p q => irr z (List.lt_trans p q)
    have e : x = y := by
      rcases List.mem_cons.mp ((h x).mp List.mem_cons_self) with p | p
      · exact p
      · rcases List.mem_cons.mp ((h y).mpr List.mem_cons_self) with q | q
        · exact q.symm
        · exact (asy _ _ (a1 y q) (b1 x p)).elim
    subst e
    refine congrArg _ (up_one a2 b2 fun z => ⟨fun hz => ?_, fun hz => ?_⟩)
    · rcases List.mem_cons.mp ((h z).mp (List.mem_cons_of_mem _ hz)) with p | p
      · exact absurd (p ▸ a1 z hz) (irr _)
      · exact p
    · rcases List.mem_cons.mp ((h z).mpr (List.mem_cons_of_mem _ hz)) with p | p
      · exact absurd (p ▸ b1 z hz) (irr _)
      · exact p

section
variable {P : Program} {w : World} {A : Around} {E : Value → Shared → Prop} {s : Shared} {a : Addr}
theorem strs_map : ∀ (l : List (Int × Value)), (∀ e ∈ l, GoodT w e) → StrsAre (l.map (·.2)) (l.map txt)
  | [], _ => .nil
  | e :: l, h => by
    obtain ⟨x, u, e1, _⟩ := h e List.mem_cons_self
    have q : txt e = x := by unfold txt; rw [e1]
    show StrsAre (e.2 :: l.map (·.2)) (txt e :: l.map txt)
    rw [e1, q]
    exact .cons x u (strs_map l fun b hb => h b (List.mem_cons_of_mem _ hb))
theorem strs_perm {vs us : List Value} {xs : List Str} (p : vs.Perm us) (h : StrsAre us xs) : ∃ ys, StrsAre vs ys ∧ ys.Perm xs := by
  have m := p.map strOf
  refine ⟨vs.map strOf, ?_, ?_⟩
  · exact strsAre_map vs fun v hv => h.all v (p.mem_iff.mp hv)
  · rw [h.strs] at m
    exact m
/-- sorted(a set of texts) -/
theorem call_sorted {l : List Str} {Q : Value → Shared → Prop} (R : TSet w s.heap a l) (hh : A.handled = none)
    (hQ : ∀ s' p (out : Array Value) (c : Nat) (ys : List Str), (∀ b o, s.heap.get? b = some o → s'.heap.get? b = some o) → s'.gens = s.gens → s'.os = s.os → s.heap.objs.size ≤ p →
      s'.heap.get? p = some (seqObj "list" out c) → StrsAre out.toList ys → ys.Pairwise Lt → (∀ x, x ∈ ys ↔ x ∈ l) → ys.length < scanBound → ys.length ≤ l.length → Q (.ref p) s') :
    wpAny (model P w) A (call (.builtin "sorted") [.ref a]) Q E s := by
  obtain ⟨o, es, ep, t, ho, r⟩ := R
  refine Calls.call_function_entry kind_sorted plain_sorted entry_sorted (args_sorted1 _) ?_
  unfold Builtin.«sorted»
  refine wpAny_bind (m := checkCount "sorted" 1 1 _) (wpAny_pure ?_)
  refine wpAny_bind (collect_set (A := A.in1) hh ⟨o, ho, r.exact_.1, r.data⟩ r.fits r.size r.ris r.led fun s1 vs k1 hz g1 o1 pm => ?_)
  obtain ⟨xs, hx, px⟩ := strs_perm pm (strs_map es.toList r.good)
  have hvl : vs.length = es.size := by rw [pm.length_eq, List.length_map, Array.length_toList]
  have few : vs.length ≤ sizeLine := by rw [hvl]; exact fits_of_scanBound r.size
  refine wpAny_bind (wpAny_newList ?_ few)
  have hoL : (s1.heap.push (seqObj "list" vs.toArray 0)).get? s1.heap.objs.size = some (seqObj "list" vs.toArray 0) := Heap.get?_push_size _ rfl
  refine wpAny_bind (wpAny_holding (wpAny_call_entry slot_list_sort ⟨_, hoL, rfl⟩ entry_list_sort
    (list_sort_treeKAny strKind_oneLt hoL hx.keysOf (fun v1 v2 rest e => keyKind_strs (by rw [← e]; exact hx)) few fun st hp hs => ⟨_, rfl, ?_⟩) (args_list_sort _)))
  obtain ⟨ys, b1, b2, b3⟩ := sorted_out_str hx hp hs
  obtain ⟨c, hc⟩ := sortedHeap_at (vs := vs) (out := (arrOf st).map (·.2)) hoL
  have pk : ys.Perm (es.toList.map txt) := b2.trans px
  refine wpAny_pure ⟨_, rfl, hQ _ s1.heap.objs.size _ c ys (fun b u e => ?_) g1 o1 hz hc b1 (up_of (sorted_all ys b3) (pk.nodup_iff.mpr r.once)) (fun x => by rw [pk.mem_iff, ← r.mem x]) ?_ ?_⟩
  · have q := k1 b u e
    have lt := Heap.lt_size q
    show (sortedHeap (s1.heap.push (seqObj "list" vs.toArray 0)) s1.heap.objs.size vs _).get? b = some u
    rw [sortedHeap_old (Nat.ne_of_lt lt) (by rw [size_push']; exact Nat.lt_succ_of_lt lt)]
    exact Heap.get?_push_of_some _ q
  · rw [pk.length_eq, List.length_map, Array.length_toList]
    exact r.size
  · rw [pk.length_eq, List.length_map, Array.length_toList]
    exact r.few
end
end Tx

set_option Elab.async false
set_option linter.all false
set_option maxRecDepth 100000
set_option maxHeartbeats 4000000
namespace Tx
open PySem PySem.Spec PyProof.Rows L2
/-- the set of the texts l, as a tracked thing -/
def TSO (w : World) (a : Addr) (l : List Str) : HO := .ext fun h => TSet w h a l
theorem tso_ok {w : World} {P : Program} {H : Hp} {h : Heap} {a : Addr} {l : List Str} (R : TSet w h a l) : ObjOk P w H h a (TSO w a l) :=
  ⟨R, (let ⟨o, _, _, _, ho, _⟩ := R; ⟨o, ho⟩), fun _ _ p k => TSet.at p k⟩
section
variable {X : Cx}
theorem tso_get {pins : List (Addr × Obj)} {σ : L2.St} {H : Hp} {s : Shared} {a : Addr} {l : List Str} (I : Inv X pins σ H s) (ha : H a = some (TSO X.w a l)) : TSet X.w s.heap a l := (I.hok a _ ha).1
/-- set(a list or a tuple of texts) -/
def rSetTx (K : PySem.W.Frag) (w : World) : List V → Hp → VK → Prop := fun vs H Q => ∃ (p : Addr) (xs : List Str), vs = [.ref p] ∧ (SqL K H p (xs.map V.str) ∨ SqT K H p (xs.map V.str)) ∧ xs.length + 1 < scanBound ∧
  ∀ a, H a = none → Q (.ref a) (upd H a (TSO w a xs))
theorem cr_setTx (hc : X.calm = true) : CallR X (.type "set") (rSetTx X.K X.w) := by
  intro pins s σ H vs us Q I r h
  obtain ⟨p, xs, rfl, hp, hb, q⟩ := h
  rw [Vals.ref1 r]
  have fin : ∀ s', Made X.w s xs s' → EP X pins σ Q (.ref s.heap.objs.size) s' := fun s' ⟨h', tk, e, hT, k⟩ => by
    subst e
    exact ⟨.ref _, _, I.laid (t' := tk) k (Nat.le_refl _) (tso_ok hT), rfl, q _ (I.hok.fresh (Nat.le_refl _))⟩
  have hh := I.ok.hd hc
  rcases hp with hp | hp
  · obtain ⟨its, rv, pl, hz⟩ := I.list hp
    have st := rv.strs
    obtain ⟨o, ho, hq⟩ := pl.isList
    exact call_set ⟨o, ho⟩ (fun Z hZ => init_list (by simpa using hh) pl.isList (by simpa using st) hb Z hZ) fin
  · obtain ⟨its, rv, pl, hz⟩ := I.tuple hp
    have st := rv.strs
    obtain ⟨o, ho, hq⟩ := id pl
    exact call_set ⟨o, ho⟩ (fun Z hZ => init_tuple (by simpa using hh) pl (by simpa using st) hb Z hZ) fin
/-- sorted(a set of texts) -/
def rSortTx (w : World) : List V → Hp → VK → Prop := fun vs H Q => ∃ (a : Addr) (l : List Str), vs = [.ref a] ∧ H a = some (TSO w a l) ∧
  ∀ (ys : List Str) (p : Addr), ys.Pairwise Lt → (∀ x, x ∈ ys ↔ x ∈ l) → ys.length ≤ l.length → H p = none → Q (.ref p) (upd H p (.lst (ys.map V.str)))
theorem cr_sortTx (hc : X.calm = true) : CallR X (.builtin "sorted") (rSortTx X.w) := by
  intro pins s σ H vs us Q I r h
  obtain ⟨a, l, rfl, ha, q⟩ := h
  rw [Vals.ref1 r]
  refine call_sorted (tso_get I ha) (I.ok.hd hc) fun s' p out c ys k g o hp hg hi hs hm hn hn' => ?_
  have hz : (ys.map V.str).length ≤ sizeLine := by
    rw [List.length_map]
    exact fits_of_scanBound hn
  have no : H p = none := I.hok.fresh hp
  have J : Inv X pins σ (upd H p (.lst (ys.map V.str))) { s with heap := s'.heap, gens := s'.gens, drawn := s'.drawn, toks := s'.toks } :=
    I.call (ch := []) (Un.laid k hp no) (I.hok.laid k hp ⟨hz, out.toList, c, vals_of_strs hi, hg⟩) (by rw [g]; exact I.bare) (fun _ z => nomatch z)
  have e : s' = { s with heap := s'.heap, gens := s'.gens, drawn := s'.drawn, toks := s'.toks } := by
    cases s'
    cases s
    cases o
    rfl
  rw [e]
  exact ⟨.ref p, _, J, rfl, q ys p hs hm hn' no⟩
/-- xs.extend(a list or a tuple) -/
def rExt (K : PySem.W.Frag) : V → List V → Hp → VK → Prop := fun x vs H Q => ∃ l b xs zs, x = .ref l ∧ vs = [.ref b] ∧ H l = some (.lst xs) ∧ (SqL K H b zs ∨ SqT K H b zs) ∧ xs.length + zs.length ≤ sizeLine ∧ Q .non (upd H l (.lst (xs ++ zs)))
theorem mt_ext : MtM X "list.extend" (rExt X.K) := by
  intro pins s σ H x vs v us Q I rx rv h
  obtain ⟨l, b, xs, zs, rfl, rfl, hH, hB, hz, q⟩ := h
  cases rx
  obtain ⟨u, rfl, ru⟩ := rv.one
  cases ru
  obtain ⟨z, its, n, r, hl, e⟩ := I.lstM hH
  have main : ∀ (T : String) (its2 : List Value) (o : Obj) (n2 : Nat), (T = "list" ∨ T = "tuple") → Vals zs its2 → s.heap.get? b = some o → o.cls = .type T → o.data = .seq its2.toArray n2 →
      wpAny (model X.prog X.w) X.A (call (.builtin "list.extend") [.ref l, .ref b]) (EP X pins σ Q) X.xe s := fun T its2 o n2 hT r2 ho hcl hd => by
    have hl2 := r2.length
    have few : its.toArray.size + its2.toArray.size ≤ sizeLine := by rw [List.size_toArray, List.size_toArray]; omega
    have long : ¬ (!its.toArray.isEmpty && Builtin.List.listTooLong (its.toArray.size + its2.toArray.size)) = true := by
      rw [notLongL few, Bool.and_false]
      exact Bool.false_ne_true
    refine wpAny_call_entry PySem.F.slot_list_extend ⟨_, e, rfl⟩ PySem.F.entry_list_extend ?_ (PySem.F.args_list_extend_2 _ _)
    show wpAny _ _ (Builtin.List.listExtendWith (.ref l) (.ref b) .none) _ _ s
    unfold Builtin.List.listExtendWith
    refine wpAny_bind (wpAny_typeOf ⟨o, ho, hcl⟩ ?_)
    have h1 : (Builtin.List.listSameRef (.ref l) (.ref b) || Value.type T == Value.type "list" || Value.type T == Value.type "tuple") = true := by
      rcases hT with rfl | rfl <;> simp
    simp only [h1, if_true]
    unfold Builtin.List.listItems
    refine wpAny_bind (wpAny_bind (wpAny_seqItems ho hd (wpAny_pure ?_)))
    refine wpAny_bind (wpAny_bind (wpAny_seqItems e rfl (wpAny_pure ?_)))
    rw [if_neg long]
    show wpAny _ _ (updateSeq l (· ++ its2.toArray) >>= fun _ => ret Value.none) _ _ s
    refine wpAny_bind (wpAny_updateSeq e rfl ?_ (hz := by rw [List.size_toArray]; omega) (_hz' := by rw [Array.size_append]; omega))
    refine wpAny_pure ⟨_, rfl, .non, _, I.lset (t' := s.toks) (its' := its ++ its2) hH e (by simp) (r.append r2) (by rw [List.length_append]; exact hz), rfl, q⟩
  rcases hB with hB | hB
  · obtain ⟨its2, r2, pl, _⟩ := I.list hB
    obtain ⟨o, ho, hcl, n2, hd⟩ := pl.isList
    exact main "list" its2 o n2 (.inl rfl) r2 ho hcl hd
  · obtain ⟨its2, r2, ⟨o, ho, hcl, n2, hd⟩, _⟩ := I.tuple hB
    exact main "tuple" its2 o n2 (.inr rfl) r2 ho hcl hd
end
end Tx

set_option Elab.async false
set_option linter.all false
set_option maxRecDepth 100000
set_option maxHeartbeats 4000000
/-! {elt for a in .. for b in ..}, elt a text -/
namespace Tx
open PySem PySem.Spec PyProof.Rows L2
abbrev two (elt t0 i0 t1 i1 : Expr) (sc : Scope) (pos : Pos) : Expr := .SetComp elt [⟨t0, i0, [], 0⟩, ⟨t1, i1, [], 0⟩] sc pos
theorem turn_out (elt t0 i0 t1 i1 : Expr) (sc : Scope) (pos : Pos) (it acc : Value) (env : Env) :
    compTurn (two elt t0 i0 t1 i1 sc pos) 0 it acc env = (do
      standAt i0.pos
      match ← pyNext it with
      | none => pure (.done .next)
      | some v =>
        letOwnedTupleGo t0 it v
        assign t0 env v
        let x ← eval i1 env
        standAt i1.pos
        let x ← foldedSetIterable i1 env x
        let _ ← runOwn (.compStart (two elt t0 i0 t1 i1 sc pos) 1 (← holding [x] (pyIter x)) acc env) env
        again (.compLoop (two elt t0 i0 t1 i1 sc pos) 0 it acc env)) := by rfl
theorem turn_in (elt t0 i0 t1 i1 : Expr) (sc : Scope) (pos : Pos) (it acc : Value) (env : Env) :
    compTurn (two elt t0 i0 t1 i1 sc pos) 1 it acc env = (do
      standAt i1.pos
      match ← pyNext it with
      | none => pure (.done .next)
      | some v =>
        letOwnedTupleGo t1 it v
        assign t1 env v
        (do let v ← eval elt env; standAt elt.pos; let _ ← call (.builtin "set.add") [acc, v])
        again (.compLoop (two elt t0 i0 t1 i1 sc pos) 1 it acc env)) := by rfl
section
variable {prog : Program} {w : World} {A : Around} {R : Result → Shared → Prop} {s : Shared} {elt t0 i0 t1 i1 : Expr} {sc : Scope} {pos : Pos} {it acc : Value} {env : Env}
/-- the first clause's loop -/
theorem loop_out (hs : ∀ x, foldedSetIterable i1 env x = pure x) (I : Nat → Shared → Prop)
    (turn : ∀ n s, I n s → wpAny (model prog w) A (pyNext it) (fun r s1 => match r with
      | none => R (.ok .next) s1
      | some v => wpAny (model prog w) A (letOwnedTupleGo t0 it v) (fun _ s2 => wpAny (model prog w) A (assign t0 env v) (fun _ s3 =>
          wpAny (model prog w) A (eval i1 env) (fun x s4 => wpAny (model prog w) A (pyIter x) (fun j s5 =>
              codeAny (model prog w) A (.compStart (two elt t0 i0 t1 i1 sc pos) 1 j acc env) (fun r s' => match r with
                | .ok _ => ∃ m, m < n ∧ I m s'
                | .error _ => False) s5) (notedBy (model prog w) A env fun e s' => R (.error e) s') s4) (notedBy (model prog w) A env fun e s' => R (.error e) s') s3)
            (notedBy (model prog w) A env fun e s' => R (.error e) s') s2) (notedBy (model prog w) A env fun e s' => R (.error e) s') s1) (notedBy (model prog w) A env fun e s' => R (.error e) s') s)
    (n : Nat) (h : I n s) : codeAny (model prog w) A (.compLoop (two elt t0 i0 t1 i1 sc pos) 0 it acc env) R s := by
  refine codeAny_loop rfl I (fun n s hI => ?_) n h
  show wpAny _ A ((compTurn (two elt t0 i0 t1 i1 sc pos) 0 it acc env).onRaise (fun x => do noteFrame x env; theTreesLotGoes x)) _ _ s
  refine wpAny_noted ?_
  rw [turn_out]
  refine wpAny_bind (wpAny_standAt (wpAny_bind (wpAny_mono (turn n s hI) (fun r s1 h1 => ?_) fun _ _ z => z)))
  cases r with
  | none => exact wpAny_pure h1
  | some v =>
    refine wpAny_bind (wpAny_mono h1 (fun _ s2 h2 => ?_) fun _ _ z => z)
    refine wpAny_bind (wpAny_mono h2 (fun _ s3 h3 => ?_) fun _ _ z => z)
    refine wpAny_bind (wpAny_mono h3 (fun x s4 h4 => ?_) fun _ _ z => z)
    refine wpAny_bind (wpAny_standAt (wpAny_bind (wpAny_of_eq (hs x) (wpAny_bind (wpAny_holding (wpAny_mono h4 (fun j s5 h5 => ?_) fun _ _ z => z))))))
    refine wpAny_bind (wpAny_runOwn ?_)
    rw [Around.mark_none]
    refine codeAny_mono h5 fun r s' hr => ?_
    cases r with
    | error e => exact hr.elim
    | ok f =>
      first
        | exact wpAny_pure ⟨rfl, hr⟩
        | exact wpAny_bind (wpAny_pure (wpAny_pure ⟨rfl, hr⟩))
/-- the second clause's loop -/
theorem loop_in (I : Nat → Shared → Prop)
    (turn : ∀ n s, I n s → wpAny (model prog w) A (pyNext it) (fun r s1 => match r with
      | none => R (.ok .next) s1
      | some v => wpAny (model prog w) A (letOwnedTupleGo t1 it v) (fun _ s2 => wpAny (model prog w) A (assign t1 env v) (fun _ s3 =>
          wpAny (model prog w) A (eval elt env) (fun x s4 => wpAny (model prog w) A (call (.builtin "set.add") [acc, x]) (fun _ s5 => ∃ m, m < n ∧ I m s5) (notedBy (model prog w) A env fun e s' => R (.error e) s') s4)
            (notedBy (model prog w) A env fun e s' => R (.error e) s') s3) (notedBy (model prog w) A env fun e s' => R (.error e) s') s2) (notedBy (model prog w) A env fun e s' => R (.error e) s') s1)
        (notedBy (model prog w) A env fun e s' => R (.error e) s') s)
    (n : Nat) (h : I n s) : codeAny (model prog w) A (.compLoop (two elt t0 i0 t1 i1 sc pos) 1 it acc env) R s := by
  refine codeAny_loop rfl I (fun n s hI => ?_) n h
  show wpAny _ A ((compTurn (two elt t0 i0 t1 i1 sc pos) 1 it acc env).onRaise (fun x => do noteFrame x env; theTreesLotGoes x)) _ _ s
  refine wpAny_noted ?_
  rw [turn_in]
  refine wpAny_bind (wpAny_standAt (wpAny_bind (wpAny_mono (turn n s hI) (fun r s1 h1 => ?_) fun _ _ z => z)))
  cases r with
  | none => exact wpAny_pure h1
  | some v =>
    refine wpAny_bind (wpAny_mono h1 (fun _ s2 h2 => ?_) fun _ _ z => z)
    refine wpAny_bind (wpAny_mono h2 (fun _ s3 h3 => ?_) fun _ _ z => z)
    exact wpAny_bind (wpAny_bind (wpAny_mono h3 (fun x s4 h4 => wpAny_bind (wpAny_standAt (wpAny_bind (wpAny_mono h4 (fun _ s5 h5 => wpAny_pure (wpAny_pure ⟨rfl, h5⟩)) fun _ _ z => z)))) fun _ _ z => z))
theorem start_in (h0 : codeAny (model prog w) A (.compLoop (two elt t0 i0 t1 i1 sc pos) 1 it acc env) R s)
    (h : wpAny (model prog w) A (pyIter it) (fun j s' => codeAny (model prog w) A (.compLoop (two elt t0 i0 t1 i1 sc pos) 1 j acc env) R s') (notedBy (model prog w) A env fun x s' => R (.error x) s') s) :
    codeAny (model prog w) A (.compStart (two elt t0 i0 t1 i1 sc pos) 1 it acc env) R s := by
  refine codeAny_of_tree ?_
  show wpAny _ _ ((compStart (two elt t0 i0 t1 i1 sc pos) 1 it acc env).onRaise (fun x => do noteFrame x env; standAt theWindowsPlace)) _ _ s
  refine wpAny_notedAt ?_
  unfold compStart
  show wpAny _ _ (ask >>= _) _ _ s
  refine wpAny_bind (wpAny_askSetting (wpAny_ite ?_))
  split
  · first
      | exact wpAny_bind (wpAny_pure (wpAny_pure (And.intro rfl h0)))
      | exact wpAny_pure (And.intro rfl h0)
  · first
      | exact wpAny_bind (wpAny_rule (wpAny_bind (wpAny_standAt (wpAny_bind (wpAny_mono h (fun _ _ z => wpAny_pure (And.intro rfl z)) fun _ _ x => x)))))
      | (refine wpAny_bind (wpAny_rule ?_); show wpAny _ _ (standAt i1.pos >>= _) _ _ s; exact wpAny_bind (wpAny_standAt (wpAny_bind (wpAny_mono h (fun _ _ z => wpAny_pure (And.intro rfl z)) fun _ _ x => x))))
end
end Tx

set_option Elab.async false
set_option linter.all false
set_option maxRecDepth 100000
set_option maxHeartbeats 4000000
namespace Tx
open PySem PySem.Spec PyProof.Rows L2
section
variable {X : Cx}
/-- a text put into a tracked set -/
theorem put_ok {pins : List (Addr × Obj)} {σ : L2.St} {H : Hp} {s : Shared} {E : Value → Shared → Prop} {D : Addr} {l : List Str} {x : Str} {u : Tok} {Q : Value → Shared → Prop} (I : Inv X pins σ H s) (hD : H D = some (TSO X.w D l)) (room : l.length + 1 < scanBound)
    (h : ∀ s', Inv X pins σ (upd H D (TSO X.w D (l ++ [x]))) s' → Q .none s') : wpAny (model X.prog X.w) X.A (call (.builtin "set.add") [.ref D, .str x u]) Q E s := by
  refine call_add (tso_get I hD) room fun h' sb q => ?_
  have he : ∃ u, h'.get? D = some u := let ⟨o, _, _, _, ho, _⟩ := q; ⟨o, ho⟩
  exact h _ (I.write (e := D) (t' := s.toks + 1) (by rw [hD]; trivial) (.inl rfl) (fun b u hb hu => (sb.2 b hb).trans hu) he (tso_ok q))
/-- what {elt for g in wi for g1 in wi1} asks: vs the block's slots, vs1 those of the second target -/
def tSc2 (w : World) (wi : TI) (g : TG) (wi1 : TI) (g1 : TG) (te : TE) (vs vs1 : List Nat) : TE := fun σ H Q => wi σ H fun J H1 => ∀ D, H1 D = none → ∃ W : Nat → Nat → Hp → Prop, (∃ m, W 0 m (upd H1 D (TSO w D []))) ∧ ∀ i m H, W i m H →
  (J.stop i H ∧ Q (.ref D) H) ∨ (J.go i H ∧ ∃ Nx : Hp → Prop, (∀ H', Nx H' → ∃ m', m' < m ∧ W (i + 1) m' H') ∧ ∀ x H', J.yld i H x H' → g x (wipe σ vs) H' fun σ2 H2 => wipe σ2 vs = wipe σ vs ∧
    wi1 σ2 H2 fun J1 H4 => ∃ W1 : Nat → Nat → Hp → Prop, (∃ m, W1 0 m H4) ∧ ∀ j k H, W1 j k H →
      (J1.stop j H ∧ Nx H) ∨ (J1.go j H ∧ ∃ Nx1 : Hp → Prop, (∀ H', Nx1 H' → ∃ k', k' < k ∧ W1 (j + 1) k' H') ∧ ∀ x H', J1.yld j H x H' → g1 x (wipe σ2 vs1) H' fun σ3 H5 => wipe σ3 vs1 = wipe σ2 vs1 ∧
        te σ3 H5 fun y H7 => ∃ t l, y = .str t ∧ H7 D = some (TSO w D l) ∧ l.length + 1 < scanBound ∧ Nx1 (upd H7 D (TSO w D (l ++ [t])))))
theorem pe_sc2 {elt t0 i0 t1 i1 : Expr} {sc : Scope} {own : List (Str × Nat)} {vs1 : List Nat} {pos : Pos} {wi wi1 : TI} {g g1 : TG} {te : TE} (hc : X.calm = true) (hN : X.N.Nodup) (hi : PI X t0 i0 wi) (ok : BlkOk X.N X.env.scope sc own) (hv : ∀ i ∈ vs1, i ∈ own.map (·.2))
    (hg : ∀ (s : Shared) (H : Hp) (C : Addr) (cl : List (Str × Addr)) (fp : List Addr), PG (X.blk s H sc (compEnvC sc cl C X.env) fp) t0 g)
    (hi1 : ∀ (s : Shared) (H : Hp) (C : Addr) (cl : List (Str × Addr)) (fp : List Addr), PI (X.blk s H sc (compEnvC sc cl C X.env) fp) t1 i1 wi1)
    (hg1 : ∀ (s : Shared) (H : Hp) (C : Addr) (cl : List (Str × Addr)) (fp : List Addr), PG (X.blk s H sc (compEnvC sc cl C X.env) fp) t1 g1)
    (he : ∀ (s : Shared) (H : Hp) (C : Addr) (cl : List (Str × Addr)) (fp : List Addr), PE (X.blk s H sc (compEnvC sc cl C X.env) fp) elt te)
    (hs : ∀ x, foldedSetIterable i0 X.env x = pure x := by intro _; rfl) (hs1 : ∀ env x, foldedSetIterable i1 env x = pure x := by intro _ _; rfl) :
    PE X (two elt t0 i0 t1 i1 sc pos) (tSc2 X.w wi g wi1 g1 te (own.map (·.2)) vs1) := by
  refine ⟨fun pins s σ H Q I h => ?_⟩
  rw [show eval (two elt t0 i0 t1 i1 sc pos) X.env = comprehension (two elt t0 i0 t1 i1 sc pos) sc X.env (firstIterPos [⟨t0, i0, [], 0⟩, ⟨t1, i1, [], 0⟩] pos) (newSet (.type "set")) false (eval i0 X.env) none from rfl]
  have frees : ∀ y ∈ sc.names, y.2 = .free → ∃ c, X.env.cells.lookup y.1 = some c := fun y hy e => I.ok.has _ (ok.free y hy e)
  refine wpAny_comprehension_free (use := none) rfl hs (closure_ok frees) ok.kind (fun y hy e => by rw [ok.uniq y hy, e]) (thn (hi.run pins s σ H _ I h) fun _ s1 hx => thn hx fun _ s2 h2 => ?_)
  obtain ⟨it, fp, tn, J, H2, rfl, I2, T, st2, f2, q⟩ := h2
  refine PpSet.newSet_ok (newEnv_comp ?_)
  obtain ⟨D, hD⟩ : ∃ D, s2.heap.objs.size = D := ⟨_, rfl⟩
  rw [hD]
  have hDn : H2 D = none := I2.hok.fresh (Nat.le_of_eq hD)
  obtain ⟨W, ⟨m0, w0⟩, turn⟩ := q D hDn
  obtain ⟨s3, hs3⟩ : ∃ s3 : Shared, ({ s2 with heap := s2.heap.push (s0 X.w) } : Shared) = s3 := ⟨_, rfl⟩
  have h3 : s3.heap = s2.heap.push (s0 X.w) := by rw [← hs3]
  have I3 : Inv X pins σ (upd H2 D (TSO X.w D [])) s3 := by
    rw [← hs3]
    refine I2.laid (t' := s2.toks) (fun b o e => Heap.get?_push_of_some _ e) (Nat.le_of_eq hD) (tso_ok (fresh_at ?_))
    rw [← hD]
    exact Heap.get?_push_size _ rfl
  have f3 : ∀ b ∈ fp, FpOk X pins (upd H2 D (TSO X.w D [])) b ∧ b < s3.heap.objs.size := fun b hb => by
    obtain ⟨o, eo, _⟩ := T.obj _ _ st2 b hb
    have lt : b < s2.heap.objs.size := Heap.lt_size eo
    refine ⟨⟨?_, (f2 b hb).2⟩, by rw [h3, Heap.size_push]; exact Nat.lt_succ_of_lt lt⟩
    rw [upd_ne (by rw [← hD]; exact Nat.ne_of_lt lt)]
    exact (f2 b hb).1
  have st3 : tn 0 s3.heap := T.keep _ _ _ st2 fun b _ o e => by rw [h3]; exact Heap.get?_push_of_some _ e
  have I4 := block_start I3 ok hN f3
  show codeAny _ _ (.compStart (two elt t0 i0 t1 i1 sc pos) 0 (.ref it) (.ref D) _) (compPost (model X.prog X.w) X.A X.xe none (EP X pins σ Q) (.ref D) _) _
  rw [hs3]
  have pg := hg s3 (upd H2 D (TSO X.w D [])) s3.heap.objs.size (cellsFrom (s3.heap.objs.size + 1) sc.names (cloFrom X.env.cells sc.names [])) fp
  have pe := he s3 (upd H2 D (TSO X.w D [])) s3.heap.objs.size (cellsFrom (s3.heap.objs.size + 1) sc.names (cloFrom X.env.cells sc.names [])) fp
  have pi1 := hi1 s3 (upd H2 D (TSO X.w D [])) s3.heap.objs.size (cellsFrom (s3.heap.objs.size + 1) sc.names (cloFrom X.env.cells sc.names [])) fp
  have pg1 := hg1 s3 (upd H2 D (TSO X.w D [])) s3.heap.objs.size (cellsFrom (s3.heap.objs.size + 1) sc.names (cloFrom X.env.cells sc.names [])) fp
  have none3 : ∀ b ∈ fp, (upd H2 D (TSO X.w D [])) b = none := fun b hb => (f3 b hb).1.1
  show codeAny _ _ (.compStart (two elt t0 i0 t1 i1 sc pos) 0 (.ref it) (.ref D) (compEnvC sc (cellsFrom (s3.heap.objs.size + 1) sc.names (cloFrom X.env.cells sc.names [])) s3.heap.objs.size X.env))
    (compPost (model X.prog X.w) X.A X.xe none (EP X pins σ Q) (.ref D) s3.heap.objs.size) { s3 with heap := pushCells (s3.heap.push { cls := .type "dict", data := .dict #[] }) sc.names }
  generalize hce : compEnvC sc (cellsFrom (s3.heap.objs.size + 1) sc.names (cloFrom X.env.cells sc.names [])) s3.heap.objs.size X.env = ce at I4 pg pe pi1 pg1 ⊢
  have cL : ce.locals = s3.heap.objs.size := by subst hce; rfl
  generalize hH3 : upd H2 D (TSO X.w D []) = H3 at I3 I4 pg pe pi1 pg1 w0 none3 f3
  generalize hs4 : ({ s3 with heap := pushCells (s3.heap.push { cls := .type "dict", data := .dict #[] }) sc.names } : Shared) = s4 at I4 ⊢
  have st4 : tn 0 s4.heap := T.keep _ _ _ st3 fun b _ o e => by rw [← hs4]; exact pushCells_keeps _ _ _ _ (Heap.get?_push_of_some _ e)
  let B := X.blk s3 H3 sc ce fp
  let σ0 := wipe σ (own.map (·.2))
  let Goal : Nat → Shared → Prop := fun n s' => ∃ i H', Inv B [] σ0 H' s' ∧ tn i s'.heap ∧ (∀ b ∈ fp, H' b = none) ∧ W i n H'
  have stat : ∀ {σ' : L2.St} {H' : Hp} {s' : Shared}, Inv B [] σ' H' s' → (∀ b ∈ fp, H' b = none) → ∀ b ∈ fp, FpOk B [] H' b := fun {σ' H' s'} I' hn b hb =>
    ⟨hn b hb, (I'.ok.exf b hb).1, I'.ok.exfs b hb, .inl hb, fun x c e => (I'.ok.exf b hb).2 x c e, fun p hp => absurd (show p ∈ ([] : List (Addr × Obj)) ++ [] from hp) (by simp)⟩
  have loop : codeAny (model X.prog X.w) X.A (.compLoop (two elt t0 i0 t1 i1 sc pos) 0 (.ref it) (.ref D) ce) (compPost (model X.prog X.w) X.A X.xe none (EP X pins σ Q) (.ref D) s3.heap.objs.size) s4 := by
    refine loop_out (hs1 ce) Goal ?_ m0 ⟨0, H3, I4, st4, none3, w0⟩
    rintro n s5 ⟨i, H5, I5, st5, n5, w5⟩
    rcases turn i n H5 w5 with ⟨stop, qq⟩ | ⟨go, Nx, hNx, step⟩
    · refine thnF (T.done B rfl rfl rfl hc i [] s5 _ H5 (fun _ _ => False) I5 (stat I5 n5) st5 stop) fun r s6 ⟨hr, I6⟩ => ?_
      subst hr
      have I7 : Inv X pins σ H5 s6 := I3.call' (ch := fp) I6.os I6.base I6.hok I6.bare fun b hb => ⟨(f3 b hb).1.2.2.2.1, (f3 b hb).1.2.1, (f3 b hb).1.2.2.2.2.1, (f3 b hb).1.2.2.2.2.2⟩
      have noC : H5 s3.heap.objs.size = none := by
        have z : H5 ce.locals = none := I6.free
        rwa [cL] at z
      obtain ⟨mm, hn, _⟩ := I6.loc
      have hn : s6.heap.Ns ce.locals mm := hn
      rw [cL] at hn
      obtain ⟨g0, g1', g2, g3, g4, g5⟩ := I3.fpOk (Nat.le_refl _) noC
      exact ⟨mm, hn, fun h'' sb => ⟨.ref D, H5, I7.turned (t' := s6.toks) (fun b o hb e => (sb.2 b hb).trans e) g0 g1' g3 g4 g5, rfl, qq⟩⟩
    · refine thnF (T.item B rfl rfl rfl hc i [] s5 _ H5 (fun _ _ => False) I5 (stat I5 n5) st5 go) fun r s6 ⟨u, hr, h6⟩ => ?_
      subst hr
      refine thnF h6 fun _ s7 ⟨x, H7, I7, r7, y7, st7, n7⟩ => ?_
      refine thnF (pg.run _ s7 _ H7 x u _ (I7.pinned (stat I7 n7) (T.obj _ _ st7)) r7 (step x H7 y7)) fun _ s8 ⟨σ8, H8, I8, hw8, q8⟩ => ?_
      have back : ∀ {σ9 : L2.St} {s' : Shared} {H' : Hp}, Inv B ([] ++ pinsAt fp s7.heap) σ9 H' s' → σ0.length = σ9.length → (∀ (j : Nat) v, σ0[j]? = some (some v) → σ9[j]? = some (some v)) → Nx H' → ∃ m, m < n ∧ Goal m s' := fun {σ9 s' H'} I' hl hk nx => by
        obtain ⟨m', hm, w'⟩ := hNx H' nx
        have still : ∀ b ∈ fp, ∀ o, s7.heap.get? b = some o → s'.heap.get? b = some o ∧ H' b = none := fun b hb o e =>
          let z := I'.pin (b, o) (List.mem_append_right _ (List.mem_append_right _ (mem_pinsAt hb e)))
          ⟨z.1, z.2.1⟩
        refine ⟨m', hm, i + 1, H', (I'.unpinned (pins := [])).weak hl hk, T.keep _ _ _ st7 fun b hb o e => (still b hb o e).1, fun b hb => ?_, w'⟩
        obtain ⟨o, e, _⟩ := T.obj _ _ st7 b hb
        exact (still b hb o e).2
      have l8 : σ0.length = σ8.length := by rw [← wipe_length σ8 (own.map (·.2)), hw8]
      have k9 : ∀ (j : Nat) v, σ0[j]? = some (some v) → (wipe σ8 vs1)[j]? = some (some v) := fun j v e => by
        have e' : (wipe σ8 (own.map (·.2)))[j]? = some (some v) := by rw [hw8]; exact e
        obtain ⟨e1, e2⟩ := wipe_some e'
        rw [wipe_out fun z => e2 (hv j z)]
        exact e1
      refine thnF (pi1.run _ s8 σ8 H8 _ I8 q8) fun _ s10 hx => thnF hx fun _ s11 h11 => ?_
      obtain ⟨it1, fp1, tn1, J1, H11, rfl, I11, T1, st11, f11, W1, ⟨m1, w1⟩, turn1⟩ := h11
      have stat1 : ∀ {H' : Hp}, (∀ b ∈ fp1, H' b = none) → ∀ b ∈ fp1, FpOk B ([] ++ pinsAt fp s7.heap) H' b := fun hn b hb => ⟨hn b hb, (f11 b hb).2⟩
      let Inner : Nat → Shared → Prop := fun k s' => ∃ j H', Inv B ([] ++ pinsAt fp s7.heap) (wipe σ8 vs1) H' s' ∧ tn1 j s'.heap ∧ (∀ b ∈ fp1, H' b = none) ∧ W1 j k H'
      have loop1 : codeAny (model X.prog X.w) X.A (.compLoop (two elt t0 i0 t1 i1 sc pos) 1 (.ref it1) (.ref D) ce) (fun r s' => match r with
          | .ok _ => ∃ m, m < n ∧ Goal m s'
          | .error _ => False) s11 := by
        refine loop_in Inner ?_ m1 ⟨0, H11, I11.weak (wipe_length _ _) (fun j v e => (wipe_some e).1), st11, fun b hb => (f11 b hb).1, w1⟩
        rintro k s12 ⟨j, H12, I12, st12, n12, w12⟩
        rcases turn1 j k H12 w12 with ⟨stop1, nx1⟩ | ⟨go1, Nx1, hNx1, step1⟩
        · refine thnF (T1.done B rfl rfl rfl hc j _ s12 (wipe σ8 vs1) H12 (fun _ _ => False) I12 (stat1 n12) st12 stop1) fun r s13 ⟨hr, I13⟩ => ?_
          subst hr
          exact back I13 (l8.trans (wipe_length σ8 vs1).symm) k9 nx1
        · refine thnF (T1.item B rfl rfl rfl hc j _ s12 (wipe σ8 vs1) H12 (fun _ _ => False) I12 (stat1 n12) st12 go1) fun r s13 ⟨u1, hr, h13⟩ => ?_
          subst hr
          refine thnF h13 fun _ s14 ⟨x1, H14, I14, r14, y14, st14, n14⟩ => ?_
          refine thnF (pg1.run _ s14 (wipe σ8 vs1) H14 x1 u1 _ (I14.pinned (stat1 n14) (T1.obj _ _ st14)) r14 (step1 x1 H14 y14)) fun _ s15 ⟨σ15, H15, I15, hw15, q15⟩ => ?_
          refine thnF (pe.run _ s15 σ15 H15 _ I15 q15) fun z s17 ⟨yv, H17, I17, r17, tx, l, ey, hD17, hz17, nx⟩ => ?_
          subst ey
          obtain ⟨tk, rfl⟩ := (show ∃ tk, z = Value.str tx tk from r17)
          refine put_ok (X := B) I17 hD17 hz17 fun s18 I18 => ?_
          obtain ⟨m', hm, w'⟩ := hNx1 _ nx
          have still1 : ∀ b ∈ fp1, ∀ o, s14.heap.get? b = some o → s18.heap.get? b = some o ∧ (upd H17 D (TSO X.w D (l ++ [tx]))) b = none := fun b hb o e =>
            let z := I18.pin (b, o) (List.mem_append_right _ (List.mem_append_right _ (mem_pinsAt hb e)))
            ⟨z.1, z.2.1⟩
          refine ⟨m', hm, j + 1, _, I18.unpinned.weak (by rw [← wipe_length σ15 vs1, hw15]) (fun i v e => by rw [← hw15] at e; exact (wipe_some e).1), T1.keep _ _ _ st14 fun b hb o e => (still1 b hb o e).1, fun b hb => ?_, w'⟩
          obtain ⟨o, e, _⟩ := T1.obj _ _ st14 b hb
          exact (still1 b hb o e).2
      exact start_in loop1 (T1.self X.A 0 _ _ _ st11 loop1)
  exact PpSet.codeAny_compStart_set loop (T.self X.A 0 _ _ _ st4 loop)
end
end Tx

set_option Elab.async false
set_option linter.all false
set_option maxRecDepth 100000
set_option maxHeartbeats 4000000
/-! Formulas as data, and as tuples of tuples in the heap. -/
namespace Fo
open PySem L2
/-- a formula: con true: and; con false: or; qu true: some; qu false: all -/
inductive Fm where
  | rel (n : Str) (xs : List Str)
  | same (x y : Str)
  | neg (f : Fm)
  | con (b : Bool) (fs : List Fm)
  | qu (b : Bool) (x : Str) (f : Fm)
namespace Fm
def kids : Fm → List Fm
  | .rel _ _ => []
  | .same _ _ => []
  | .neg f => [f]
  | .con _ fs => fs
  | .qu _ _ f => [f]
/-- the names that it tells itself -/
def own : Fm → List Str
  | .rel _ xs => xs
  | .same x y => [x, y]
  | .neg _ => []
  | .con _ _ => []
  | .qu _ x _ => [x]
mutual
/-- how many formulas stand in it -/
def ct : Fm → Nat
  | .rel _ _ => 1
  | .same _ _ => 1
  | .neg f => 1 + ct f
  | .con _ fs => 1 + cts fs
  | .qu _ _ f => 1 + ct f
def cts : List Fm → Nat
  | [] => 0
  | f :: fs => ct f + cts fs
end
mutual
def dp : Fm → Nat
  | .rel _ _ => 0
  | .same _ _ => 0
  | .neg f => 1 + dp f
  | .con _ fs => dps fs
  | .qu _ _ f => 1 + dp f
/-- one more than the greatest depth of these, 0 if there is none -/
def dps : List Fm → Nat
  | [] => 0
  | f :: fs => max (1 + dp f) (dps fs)
end
mutual
/-- all names that stand in it -/
def nm : Fm → List Str
  | .rel _ xs => xs
  | .same x y => [x, y]
  | .neg f => nm f
  | .con _ fs => nms fs
  | .qu _ x f => x :: nm f
def nms : List Fm → List Str
  | [] => []
  | f :: fs => nm f ++ nms fs
end
mutual
def fr : Fm → List Str
  | .rel _ xs => xs
  | .same x y => [x, y]
  | .neg f => fr f
  | .con _ fs => frs fs
  | .qu _ x f => (fr f).filter (fun y => decide (y ≠ x))
def frs : List Fm → List Str
  | [] => []
  | f :: fs => fr f ++ frs fs
end
mutual
def rk : Fm → Nat
  | .rel _ _ => 0
  | .same _ _ => 0
  | .neg f => rk f
  | .con _ fs => rks fs
  | .qu _ _ f => 1 + rk f
def rks : List Fm → Nat
  | [] => 0
  | f :: fs => max (rk f) (rks fs)
end
theorem ct_pos : ∀ f : Fm, 1 ≤ ct f
  | .rel _ _ => by rw [ct]; omega
  | .same _ _ => by rw [ct]; omega
  | .neg f => by rw [ct]; omega
  | .con _ fs => by rw [ct]; omega
  | .qu _ _ f => by rw [ct]; omega
theorem ct_kids (f : Fm) : ct f = 1 + cts f.kids := by
  cases f <;> simp only [ct, kids, cts] <;> omega
theorem cts_append : ∀ (a b : List Fm), cts (a ++ b) = cts a + cts b
  | [], b => by simp [cts]
  | f :: a, b => by rw [List.cons_append, cts, cts, cts_append a b]; omega
theorem cts_mem : ∀ {fs : List Fm} {f : Fm}, f ∈ fs → ct f ≤ cts fs
  | g :: fs, f, h => by
    rw [cts]
    rcases List.mem_cons.mp h with e | e
    · rw [e]; omega
    · have := cts_mem e; omega
theorem len_cts : ∀ (fs : List Fm), fs.length ≤ cts fs
  | [] => Nat.le_refl _
  | f :: fs => by rw [cts, List.length_cons]; have := len_cts fs; have := ct_pos f; omega
theorem nms_append : ∀ (a b : List Fm), nms (a ++ b) = nms a ++ nms b
  | [], b => by simp [nms]
  | f :: a, b => by rw [List.cons_append, nms, nms, nms_append a b, List.append_assoc]
theorem mem_nms : ∀ {fs : List Fm} {x : Str}, x ∈ nms fs ↔ ∃ f ∈ fs, x ∈ nm f
  | [], x => by simp [nms]
  | f :: fs, x => by
    rw [nms, List.mem_append, mem_nms]
    simp only [List.mem_cons, exists_eq_or_imp]
theorem nm_kids (f : Fm) (x : Str) : x ∈ nm f ↔ x ∈ f.own ∨ x ∈ nms f.kids := by
  cases f <;> simp [nm, own, kids, nms]
theorem mem_frs : ∀ {fs : List Fm} {x : Str}, x ∈ frs fs ↔ ∃ f ∈ fs, x ∈ fr f
  | [], x => by simp [frs]
  | f :: fs, x => by
    rw [frs, List.mem_append, mem_frs]
    simp only [List.mem_cons, exists_eq_or_imp]
theorem nm_len (f : Fm) : (nm f).length = f.own.length + (nms f.kids).length := by
  cases f <;> simp [nm, own, kids, nms] <;> omega
theorem nms_len_mem : ∀ {fs : List Fm} {f : Fm}, f ∈ fs → (nm f).length ≤ (nms fs).length
  | g :: fs, f, h => by
    rw [nms, List.length_append]
    rcases List.mem_cons.mp h with e | e
    · rw [e]; omega
    · have := nms_len_mem e; omega
mutual
theorem fr_nm : ∀ (f : Fm), (fr f).length ≤ (nm f).length
  | .rel _ xs => Nat.le_refl _
  | .same _ _ => Nat.le_refl _
  | .neg f => fr_nm f
  | .con _ fs => frs_nms fs
  | .qu _ x f => by
    rw [fr, nm, List.length_cons]
    exact Nat.le_succ_of_le (Nat.le_trans (List.length_filter_le _ _) (fr_nm f))
theorem frs_nms : ∀ (fs : List Fm), (frs fs).length ≤ (nms fs).length
  | [] => Nat.le_refl _
  | f :: fs => by
    rw [frs, nms, List.length_append, List.length_append]
    exact Nat.add_le_add (fr_nm f) (frs_nms fs)
end
theorem dps_mem : ∀ {fs : List Fm} {f : Fm}, f ∈ fs → 1 + dp f ≤ dps fs
  | g :: fs, f, h => by
    rw [dps]
    rcases List.mem_cons.mp h with e | e
    · rw [e]; exact Nat.le_max_left _ _
    · exact Nat.le_trans (dps_mem e) (Nat.le_max_right _ _)
theorem dps_le : ∀ {fs : List Fm} {n : Nat}, (∀ f ∈ fs, 1 + dp f ≤ n) → dps fs ≤ n
  | [], n, _ => Nat.zero_le _
  | f :: fs, n, h => by
    rw [dps]
    exact Nat.max_le.mpr ⟨h f List.mem_cons_self, dps_le fun g hg => h g (List.mem_cons_of_mem _ hg)⟩
theorem dp_kids {f g : Fm} (h : g ∈ f.kids) : dp g < dp f := by
  cases f with
  | rel n xs => cases h
  | same x y => cases h
  | neg k => rw [List.mem_singleton.mp h, dp]; omega
  | con b fs =>
    have q := dps_mem (fs := fs) h
    rw [dp]; omega
  | qu b x k => rw [List.mem_singleton.mp h, dp]; omega
theorem rks_mem : ∀ {fs : List Fm} {f : Fm}, f ∈ fs → rk f ≤ rks fs
  | g :: fs, f, h => by
    rw [rks]
    rcases List.mem_cons.mp h with e | e
    · rw [e]; exact Nat.le_max_left _ _
    · exact Nat.le_trans (rks_mem e) (Nat.le_max_right _ _)
theorem rks_is : ∀ {fs : List Fm} {m : Nat}, (∀ f ∈ fs, rk f ≤ m) → (m = 0 ∨ ∃ f ∈ fs, rk f = m) → rks fs = m
  | [], m, _, h => by
    rcases h with e | ⟨f, hf, _⟩
    · rw [e]; rfl
    · cases hf
  | f :: fs, m, h, k => by
    have up : rks (f :: fs) ≤ m := by
      rw [rks]
      refine Nat.max_le.mpr ⟨h f List.mem_cons_self, ?_⟩
      have : ∀ gs : List Fm, (∀ g ∈ gs, rk g ≤ m) → rks gs ≤ m := fun gs => by
        induction gs with
        | nil => intro _; exact Nat.zero_le _
        | cons g gs ih => intro hh; rw [rks]; exact Nat.max_le.mpr ⟨hh g List.mem_cons_self, ih fun a ha => hh a (List.mem_cons_of_mem _ ha)⟩
      exact this fs fun g hg => h g (List.mem_cons_of_mem _ hg)
    refine Nat.le_antisymm up ?_
    rcases k with e | ⟨g, hg, e⟩
    · omega
    · rw [← e]; exact rks_mem hg
end Fm

/-! ### in the heap -/
def cn (b : Bool) : Str := if b = true then "and" else "or"
def qn (b : Bool) : Str := if b = true then "some" else "all"
mutual
def FmAt (K : PySem.W.Frag) (H : Hp) : V → Fm → Prop
  | v, .rel n xs => ∃ a t, v = .ref a ∧ SqT K H a [.str "rel", .str n, .ref t] ∧ SqT K H t (xs.map V.str)
  | v, .same x y => ∃ a, v = .ref a ∧ SqT K H a [.str "same", .str x, .str y]
  | v, .neg f => ∃ a u, v = .ref a ∧ SqT K H a [.str "not", u] ∧ FmAt K H u f
  | v, .con b fs => ∃ a t us, v = .ref a ∧ SqT K H a [.str (cn b), .ref t] ∧ SqT K H t us ∧ FmsAt K H us fs
  | v, .qu b x f => ∃ a u, v = .ref a ∧ SqT K H a [.str (qn b), .str x, u] ∧ FmAt K H u f
def FmsAt (K : PySem.W.Frag) (H : Hp) : List V → List Fm → Prop
  | us, [] => us = []
  | us, f :: fs => ∃ u r, us = u :: r ∧ FmAt K H u f ∧ FmsAt K H r fs
end
/-- the tuples stay -/
def Tk (K : PySem.W.Frag) (H H' : Hp) : Prop := ∀ a xs, SqT K H a xs → SqT K H' a xs
theorem Tk.refl {K : PySem.W.Frag} (H : Hp) : Tk K H H := fun _ _ h => h
theorem Tk.trans {K : PySem.W.Frag} {H H1 H2 : Hp} (a : Tk K H H1) (b : Tk K H1 H2) : Tk K H H2 := fun p xs h => b p xs (a p xs h)
theorem Tk.of_same {K : PySem.W.Frag} {H H' : Hp} (e : Same H H') : Tk K H H' := fun a xs h => by
  rcases h with (h | ⟨o, h⟩) | h
  · exact .inl (.inl (e _ _ h))
  · exact .inl (.inr ⟨o, e _ _ h⟩)
  · exact .inr h
mutual
theorem FmAt.tk {K : PySem.W.Frag} {H H' : Hp} (k : Tk K H H') : ∀ {v : V} {f : Fm}, FmAt K H v f → FmAt K H' v f
  | v, .rel n xs, h => by
    rw [FmAt] at h ⊢
    obtain ⟨a, t, e, h1, h2⟩ := h
    exact ⟨a, t, e, k _ _ h1, k _ _ h2⟩
  | v, .same x y, h => by
    rw [FmAt] at h ⊢
    obtain ⟨a, e, h1⟩ := h
    exact ⟨a, e, k _ _ h1⟩
  | v, .neg f, h => by
    rw [FmAt] at h ⊢
    obtain ⟨a, u, e, h1, h2⟩ := h
    exact ⟨a, u, e, k _ _ h1, FmAt.tk k h2⟩
  | v, .con b fs, h => by
    rw [FmAt] at h ⊢
    obtain ⟨a, t, us, e, h1, h2, h3⟩ := h
    exact ⟨a, t, us, e, k _ _ h1, k _ _ h2, FmsAt.tk k h3⟩
  | v, .qu b x f, h => by
    rw [FmAt] at h ⊢
    obtain ⟨a, u, e, h1, h2⟩ := h
    exact ⟨a, u, e, k _ _ h1, FmAt.tk k h2⟩
theorem FmsAt.tk {K : PySem.W.Frag} {H H' : Hp} (k : Tk K H H') : ∀ {us : List V} {fs : List Fm}, FmsAt K H us fs → FmsAt K H' us fs
  | us, [], h => by
    rw [FmsAt] at h ⊢
    exact h
  | us, f :: fs, h => by
    rw [FmsAt] at h ⊢
    obtain ⟨u, r, e, h1, h2⟩ := h
    exact ⟨u, r, e, FmAt.tk k h1, FmsAt.tk k h2⟩
end
theorem FmsAt.nil {K : PySem.W.Frag} {H : Hp} : FmsAt K H [] [] := by rw [FmsAt]
theorem FmsAt.cons {K : PySem.W.Frag} {H : Hp} {u : V} {us : List V} {f : Fm} {fs : List Fm} (h : FmAt K H u f) (t : FmsAt K H us fs) : FmsAt K H (u :: us) (f :: fs) := by
  rw [FmsAt]
  exact ⟨u, us, rfl, h, t⟩
theorem FmsAt.uncons {K : PySem.W.Frag} {H : Hp} {us : List V} {f : Fm} {fs : List Fm} (h : FmsAt K H us (f :: fs)) : ∃ u r, us = u :: r ∧ FmAt K H u f ∧ FmsAt K H r fs := by
  rw [FmsAt] at h
  exact h
theorem FmsAt.unnil {K : PySem.W.Frag} {H : Hp} {us : List V} (h : FmsAt K H us []) : us = [] := by
  rw [FmsAt] at h
  exact h
theorem FmsAt.length {K : PySem.W.Frag} {H : Hp} : ∀ {us : List V} {fs : List Fm}, FmsAt K H us fs → us.length = fs.length
  | us, [], h => by rw [h.unnil]; rfl
  | us, f :: fs, h => by
    obtain ⟨u, r, rfl, _, h2⟩ := h.uncons
    exact congrArg Nat.succ h2.length
theorem FmsAt.append {K : PySem.W.Frag} {H : Hp} {ws : List V} {gs : List Fm} (k : FmsAt K H ws gs) : ∀ {us : List V} {fs : List Fm}, FmsAt K H us fs → FmsAt K H (us ++ ws) (fs ++ gs)
  | us, [], h => by rw [h.unnil]; exact k
  | us, f :: fs, h => by
    obtain ⟨u, r, rfl, h1, h2⟩ := h.uncons
    exact .cons h1 (FmsAt.append k h2)
theorem FmsAt.get {K : PySem.W.Frag} {H : Hp} : ∀ {us : List V} {fs : List Fm}, FmsAt K H us fs → ∀ {i : Nat} {u : V}, us[i]? = some u → ∃ f, fs[i]? = some f ∧ FmAt K H u f
  | us, [], h, i, u, e => by rw [h.unnil] at e; simp at e
  | us, f :: fs, h, i, u, e => by
    obtain ⟨v, r, rfl, h1, h2⟩ := h.uncons
    cases i with
    | zero =>
      have e' : v = u := Option.some.inj e
      exact ⟨f, rfl, e' ▸ h1⟩
    | succ i => exact h2.get (i := i) e
/-- the last of a list -/
theorem FmsAt.unsnoc {K : PySem.W.Frag} {H : Hp} {us : List V} {fs : List Fm} (h : FmsAt K H us fs) (n : fs ≠ []) : ∃ vs u gs f, us = vs ++ [u] ∧ fs = gs ++ [f] ∧ FmsAt K H vs gs ∧ FmAt K H u f := by
  induction fs generalizing us with
  | nil => exact absurd rfl n
  | cons f fs ih =>
    obtain ⟨u, r, rfl, h1, h2⟩ := h.uncons
    cases fs with
    | nil =>
      rw [h2.unnil]
      exact ⟨[], u, [], f, rfl, rfl, .nil, h1⟩
    | cons g fs =>
      obtain ⟨vs, w, gs, k, e1, e2, h3, h4⟩ := ih h2 (by simp)
      exact ⟨u :: vs, w, f :: gs, k, by rw [e1]; rfl, by rw [e2]; rfl, .cons h1 h3, h4⟩
/-- a new object, and a list written, leave the tuples -/
theorem same_new {H : Hp} {p : Addr} (h : H p = none) (o : HO) : Same H (upd H p o) := fun b u q => by rw [upd_ne (ne_of_none q h)]; exact q
theorem tk_new {K : PySem.W.Frag} {H : Hp} {p : Addr} (h : H p = none) (o : HO) : Tk K H (upd H p o) := .of_same (same_new h o)
theorem tk_lst {K : PySem.W.Frag} {H : Hp} {p : Addr} {xs : List V} (h : H p = some (.lst xs)) (o : HO) : Tk K H (upd H p o) := fun a ys q => by
  rcases q with (q | ⟨u, q⟩) | q
  · exact .inl (.inl (by rw [upd_ne (ne_of q h (by intro z; cases z))]; exact q))
  · exact .inl (.inr ⟨u, by rw [upd_ne (ne_of q h (by intro z; cases z))]; exact q⟩)
  · exact .inr q
end Fo

set_option Elab.async false
set_option linter.all false
set_option maxRecDepth 100000
set_option maxHeartbeats 4000000
/-! Lists item by item; formulas turned, and what is true of them. -/
namespace Fo
open PySem L2
inductive All2 {α β : Type} (R : α → β → Prop) : List α → List β → Prop where
  | nil : All2 R [] []
  | cons {a : α} {b : β} {as : List α} {bs : List β} : R a b → All2 R as bs → All2 R (a :: as) (b :: bs)
namespace All2
variable {α β : Type} {R S : α → β → Prop}
theorem length {as : List α} {bs : List β} (h : All2 R as bs) : as.length = bs.length := by
  induction h with
  | nil => rfl
  | cons _ _ ih => exact congrArg Nat.succ ih
theorem imp {as : List α} {bs : List β} (h : All2 R as bs) (k : ∀ a b, R a b → S a b) : All2 S as bs := by
  induction h with
  | nil => exact .nil
  | cons r _ ih => exact .cons (k _ _ r) ih
theorem append {as cs : List α} {bs ds : List β} (h : All2 R as bs) (k : All2 R cs ds) : All2 R (as ++ cs) (bs ++ ds) := by
  induction h with
  | nil => exact k
  | cons r _ ih => exact .cons r ih
theorem snoc {as : List α} {bs : List β} {a : α} {b : β} (h : All2 R as bs) (r : R a b) : All2 R (as ++ [a]) (bs ++ [b]) := h.append (.cons r .nil)
theorem unsnoc {as : List α} {bs : List β} (h : All2 R as bs) (n : as ≠ []) : ∃ cs a ds b, as = cs ++ [a] ∧ bs = ds ++ [b] ∧ All2 R cs ds ∧ R a b := by
  induction h with
  | nil => exact absurd rfl n
  | @cons a b as bs r t ih =>
    cases t with
    | nil => exact ⟨[], a, [], b, rfl, rfl, .nil, r⟩
    | @cons a' b' as bs r' t' =>
      obtain ⟨cs, x, ds, y, e1, e2, h1, h2⟩ := ih (by simp)
      exact ⟨a :: cs, x, b :: ds, y, by rw [e1]; rfl, by rw [e2]; rfl, .cons r h1, h2⟩
theorem get {as : List α} {bs : List β} (h : All2 R as bs) : ∀ {i : Nat} {a : α}, as[i]? = some a → ∃ b, bs[i]? = some b ∧ R a b := by
  induction h with
  | nil => intro i a e; simp at e
  | @cons x y as bs r t ih =>
    intro i a e
    cases i with
    | zero => exact ⟨y, rfl, (Option.some.inj e) ▸ r⟩
    | succ i => exact ih (i := i) e
end All2
theorem Fm.cts_single (f : Fm) : Fm.cts [f] = f.ct := by simp [Fm.cts]
theorem Fm.nms_single (f : Fm) : Fm.nms [f] = f.nm := by simp [Fm.nms]
/-- the last item is popped -/
theorem drop_last {α : Type} (xs : List α) (x : α) : (xs ++ [x]).dropLast = xs := by simp
theorem at_last {α : Type} (xs : List α) (x : α) : (xs ++ [x])[(xs ++ [x]).length - 1]? = some x := by simp
theorem over_list {K : PySem.W.Frag} {a : Addr} {xs : List V} {H0 : Hp} {Qd : Hp → Prop} {step : V → Hp → (Hp → Prop) → Prop} (Pv : Nat → Hp → Prop) (h0 : Pv 0 H0) (hl : ∀ i H, i ≤ xs.length → Pv i H → SqL K H a xs)
    (hs : ∀ i x H, xs[i]? = some x → Pv i H → step x H (Pv (i + 1))) (hd : ∀ H, Pv xs.length H → Qd H) :
    ∃ W : Nat → Nat → Hp → Prop, (∃ m, W 0 m H0) ∧ ∀ i m H, W i m H → ((Itl K a).stop i H ∧ Qd H) ∨ ((Itl K a).go i H ∧ ∃ Nx : Hp → Prop, (∀ H', Nx H' → ∃ m', m' < m ∧ W (i + 1) m' H') ∧ ∀ x H', (Itl K a).yld i H x H' → step x H' Nx) := by
  refine ⟨fun i m H => m = xs.length - i ∧ i ≤ xs.length ∧ Pv i H, ⟨_, rfl, Nat.zero_le _, h0⟩, ?_⟩
  rintro i m H ⟨rfl, hi, p⟩
  rcases Nat.lt_or_ge i xs.length with lt | ge
  · refine .inr ⟨⟨xs, xs[i], hl i H hi p, List.getElem?_eq_getElem lt⟩, Pv (i + 1), fun H' p' => ⟨_, by omega, rfl, lt, p'⟩, fun x H' y => ?_⟩
    obtain ⟨rfl, y⟩ := y
    exact hs i x _ (y xs (hl i _ hi p)) p
  · obtain rfl : i = xs.length := by omega
    exact .inl ⟨⟨xs, hl _ H hi p, Nat.le_refl _⟩, hd H p⟩
theorem over_tup {K : PySem.W.Frag} {a : Addr} {xs : List V} {H0 : Hp} {Qd : Hp → Prop} {step : V → Hp → (Hp → Prop) → Prop} (Pv : Nat → Hp → Prop) (h0 : Pv 0 H0) (hl : ∀ i H, i ≤ xs.length → Pv i H → SqT K H a xs)
    (hs : ∀ i x H, xs[i]? = some x → Pv i H → step x H (Pv (i + 1))) (hd : ∀ H, Pv xs.length H → Qd H) :
    ∃ W : Nat → Nat → Hp → Prop, (∃ m, W 0 m H0) ∧ ∀ i m H, W i m H → ((Itt K a).stop i H ∧ Qd H) ∨ ((Itt K a).go i H ∧ ∃ Nx : Hp → Prop, (∀ H', Nx H' → ∃ m', m' < m ∧ W (i + 1) m' H') ∧ ∀ x H', (Itt K a).yld i H x H' → step x H' Nx) := by
  refine ⟨fun i m H => m = xs.length - i ∧ i ≤ xs.length ∧ Pv i H, ⟨_, rfl, Nat.zero_le _, h0⟩, ?_⟩
  rintro i m H ⟨rfl, hi, p⟩
  rcases Nat.lt_or_ge i xs.length with lt | ge
  · refine .inr ⟨⟨xs, xs[i], hl i H hi p, List.getElem?_eq_getElem lt⟩, Pv (i + 1), fun H' p' => ⟨_, by omega, rfl, lt, p'⟩, fun x H' y => ?_⟩
    obtain ⟨rfl, y⟩ := y
    exact hs i x _ (y xs (hl i _ hi p)) p
  · obtain rfl : i = xs.length := by omega
    exact .inl ⟨⟨xs, hl _ H hi p, Nat.le_refl _⟩, hd H p⟩
theorem inV_strs (x : Str) : ∀ (bs : List Str), inV (.str x) (bs.map V.str) = decide (x ∈ bs)
  | [] => by simp [inV]
  | b :: bs => by
    have ih := inV_strs x bs
    unfold inV at ih ⊢
    rw [List.map_cons, List.any_cons, ih]
    show ((b == x) || decide (x ∈ bs)) = decide (x ∈ b :: bs)
    by_cases e : b = x
    · subst e; simp
    · have e' : ¬ x = b := fun q => e q.symm
      simp [e, e']
theorem flat_strs : ∀ (bs : List Str), (bs.map V.str).all flatV = true
  | [] => rfl
  | b :: bs => by rw [List.map_cons, List.all_cons, flat_strs bs]; rfl
namespace Fm
/-- parts of these -/
def pct {α : Type} : List (Fm × α) → Nat
  | [] => 0
  | p :: ps => p.1.ct + pct ps
theorem pct_append {α : Type} : ∀ (a b : List (Fm × α)), pct (a ++ b) = pct a + pct b
  | [], b => by simp [pct]
  | p :: a, b => by rw [List.cons_append, pct, pct, pct_append a b]; omega
theorem pct_map {α : Type} (d : α) : ∀ (fs : List Fm), pct (fs.map fun k => (k, d)) = cts fs
  | [] => rfl
  | f :: fs => by rw [List.map_cons, pct, cts, pct_map d fs]
theorem len_pct {α : Type} : ∀ (ps : List (Fm × α)), ps.length ≤ pct ps
  | [] => Nat.le_refl _
  | p :: ps => by rw [pct, List.length_cons]; have := len_pct ps; have := ct_pos p.1; omega
end Fm

theorem cts_take {fs : List Fm} {i : Nat} {g : Fm} (h : fs[i]? = some g) : Fm.cts (fs.take (i + 1)) = Fm.cts (fs.take i) + g.ct := by
  rw [List.take_succ, h]
  show Fm.cts (fs.take i ++ [g]) = _
  rw [Fm.cts_append, Fm.cts_single]
namespace Fm
mutual
def tr : Fm → Bool → Fm
  | .rel n xs, d => if d = true then .neg (.rel n xs) else .rel n xs
  | .same x y, d => if d = true then .neg (.same x y) else .same x y
  | .neg f, d => tr f (!d)
  | .con b fs, d => .con (b != d) (trs fs d)
  | .qu b x f, d => .qu (b != d) x (tr f d)
def trs : List Fm → Bool → List Fm
  | [], _ => []
  | f :: fs, d => tr f d :: trs fs d
end
def bel (f : Fm) (d : Bool) : Bool := match f with | .neg _ => !d | _ => d
mutual
def pre : Fm → Bool → List (Fm × Bool)
  | .rel n xs, d => [(.rel n xs, d)]
  | .same x y, d => [(.same x y, d)]
  | .neg f, d => (.neg f, d) :: pre f (!d)
  | .con b fs, d => (.con b fs, d) :: pres fs d
  | .qu b x f, d => (.qu b x f, d) :: pre f d
def pres : List Fm → Bool → List (Fm × Bool)
  | [], _ => []
  | f :: fs, d => pre f d ++ pres fs d
end
def flat (ps : List (Fm × Bool)) : List (Fm × Bool) := (ps.map fun p => pre p.1 p.2).flatten
theorem flat_nil : flat [] = [] := rfl
theorem flat_cons (p : Fm × Bool) (ps : List (Fm × Bool)) : flat (p :: ps) = pre p.1 p.2 ++ flat ps := rfl
theorem flat_append (a b : List (Fm × Bool)) : flat (a ++ b) = flat a ++ flat b := by
  unfold flat
  rw [List.map_append, List.flatten_append]
theorem pres_flat (d : Bool) : ∀ fs : List Fm, pres fs d = flat (fs.map fun k => (k, d))
  | [] => rfl
  | f :: fs => by rw [pres, pres_flat d fs]; rfl
theorem pre_kids (f : Fm) (d : Bool) : pre f d = (f, d) :: flat (f.kids.map fun k => (k, bel f d)) := by
  cases f with
  | rel n xs => rfl
  | same x y => rfl
  | neg f => rw [pre]; show _ = (Fm.neg f, d) :: (pre f (!d) ++ []); rw [List.append_nil]
  | con b fs => rw [pre, pres_flat]; rfl
  | qu b x f => rw [pre]; show _ = (Fm.qu b x f, d) :: (pre f d ++ []); rw [List.append_nil]
theorem flat_head (p : Fm × Bool) (ps : List (Fm × Bool)) : flat (p :: ps) = p :: flat ((p.1.kids.map fun k => (k, bel p.1 p.2)) ++ ps) := by
  rw [flat_cons, pre_kids, flat_append]
  rfl
theorem pct_kids (p : Fm × Bool) : p.1.ct = 1 + pct (p.1.kids.map fun k => (k, bel p.1 p.2)) := by rw [pct_map, ct_kids]
/-- behind a formula stand its parts -/
theorem flat_mid (g : Fm) (d : Bool) (X : List (Fm × Bool)) : ∀ (n : Nat) (A ps : List (Fm × Bool)), pct ps ≤ n → flat ps = A ++ (g, d) :: X → ∃ Y, X = flat (g.kids.map fun k => (k, bel g d)) ++ Y
  | n, A, [], _, h => by simp [flat] at h
  | 0, A, p :: ps, hn, _ => by
    have := ct_pos p.1
    rw [pct] at hn
    omega
  | n + 1, A, p :: ps, hn, h => by
    rw [flat_head] at h
    have ck := pct_kids p
    rw [pct] at hn
    cases A with
    | nil =>
      rw [List.nil_append] at h
      injection h with e1 e2
      subst e1
      exact ⟨flat ps, by rw [← e2, flat_append]⟩
    | cons a A =>
      rw [List.cons_append] at h
      injection h with e1 e2
      exact flat_mid g d X n A _ (by rw [pct_append]; omega) e2
theorem flat_cut : ∀ (ks ts Y : List (Fm × Bool)), flat ts = flat ks ++ Y → ∃ ts2, ts = ks ++ ts2 ∧ flat ts2 = Y
  | [], ts, Y, h => ⟨ts, rfl, h⟩
  | k :: ks, [], Y, h => by rw [flat_head] at h; simp [flat] at h
  | k :: ks, t :: ts, Y, h => by
    have h' := h
    rw [flat_head, flat_head, List.cons_append] at h
    injection h with e1 e2
    subst e1
    rw [flat_cons, flat_cons, List.append_assoc] at h'
    obtain ⟨ts2, e3, e4⟩ := flat_cut ks ts Y (List.append_cancel_left h')
    exact ⟨ts2, by rw [e3]; rfl, e4⟩
mutual
theorem pre_len : ∀ (f : Fm) (d : Bool), (pre f d).length = f.ct
  | .rel n xs, d => rfl
  | .same x y, d => rfl
  | .neg f, d => by rw [pre, List.length_cons, pre_len f, ct]; omega
  | .con b fs, d => by rw [pre, List.length_cons, pres_len fs, ct]; omega
  | .qu b x f, d => by rw [pre, List.length_cons, pre_len f, ct]; omega
theorem pres_len : ∀ (fs : List Fm) (d : Bool), (pres fs d).length = cts fs
  | [], d => rfl
  | f :: fs, d => by rw [pres, List.length_append, pre_len f, pres_len fs, cts]
end
theorem trs_map (d : Bool) : ∀ fs : List Fm, trs fs d = fs.map fun k => tr k d
  | [] => rfl
  | f :: fs => by rw [trs, trs_map d fs]; rfl
/-- a formula turned, from its parts turned -/
def one (g : Fm) (d : Bool) (rs : List Fm) : Option Fm := match g, rs with
  | .rel n xs, _ => some (if d = true then .neg (.rel n xs) else .rel n xs)
  | .same x y, _ => some (if d = true then .neg (.same x y) else .same x y)
  | .neg _, [r] => some r
  | .con b _, rs => some (.con (b != d) rs)
  | .qu b x _, [r] => some (.qu (b != d) x r)
  | _, _ => none
theorem one_tr (g : Fm) (d : Bool) : one g d (g.kids.map fun k => tr k (bel g d)) = some (tr g d) := by
  cases g with
  | rel n xs => rfl
  | same x y => rfl
  | neg f => rfl
  | con b fs => rw [tr, trs_map]; rfl
  | qu b x f => rfl
/-- truth -/
def rows : List (Str × List (List Int)) → Str → Option (List (List Int))
  | [], _ => none
  | r :: rs, n => if r.1 = n then some r.2 else rows rs n
def holds (rs : List (Str × List (List Int))) (n : Str) (t : List Int) : Bool := match rows rs n with | none => false | some ts => (ts.map fun z : List Int => PyData.tuple (z.map PyData.int)).any fun z => PyData.eqv z (.tuple (t.map PyData.int))
def set1 (e : Str → Int) (x : Str) (i : Int) : Str → Int := fun y => if y = x then i else e y
mutual
def tv (m : Nat) (rs : List (Str × List (List Int))) : Fm → (Str → Int) → Bool
  | .rel n xs, e => holds rs n (xs.map e)
  | .same x y, e => decide (e x = e y)
  | .neg f, e => !tv m rs f e
  | .con b fs, e => tvs m rs b fs e
  | .qu b x f, e => if (List.range m).any (fun i => tv m rs f (set1 e x i) != !b) = true then b else !b
def tvs (m : Nat) (rs : List (Str × List (List Int))) (b : Bool) : List Fm → (Str → Int) → Bool
  | [], _ => b
  | f :: fs, e => if (tv m rs f e != b) = true then !b else tvs m rs b fs e
end
mutual
theorem tv_tr (m : Nat) (rs : List (Str × List (List Int))) : ∀ (f : Fm) (d : Bool) (e : Str → Int), tv m rs (tr f d) e = (tv m rs f e != d)
  | .rel n xs, d, e => by cases d <;> simp [tr, tv]
  | .same x y, d, e => by cases d <;> simp [tr, tv]
  | .neg f, d, e => by rw [tr, tv_tr m rs f, tv]; cases tv m rs f e <;> cases d <;> rfl
  | .con b fs, d, e => by rw [tr, tv, tv]; exact tvs_tr m rs b fs d e
  | .qu b x f, d, e => by
    rw [tr, tv, tv]
    have z : (fun i : Nat => tv m rs (tr f d) (set1 e x i) != !(b != d)) = (fun i : Nat => tv m rs f (set1 e x i) != !b) := by
      funext i
      rw [tv_tr m rs f]
      cases tv m rs f (set1 e x i) <;> cases b <;> cases d <;> rfl
    rw [z]
    split <;> cases b <;> cases d <;> rfl
theorem tvs_tr (m : Nat) (rs : List (Str × List (List Int))) (b : Bool) : ∀ (fs : List Fm) (d : Bool) (e : Str → Int), tvs m rs (b != d) (trs fs d) e = (tvs m rs b fs e != d)
  | [], d, e => by rw [trs, tvs, tvs]
  | f :: fs, d, e => by
    rw [trs, tvs, tvs, tv_tr m rs f, tvs_tr m rs b fs]
    cases tv m rs f e <;> cases b <;> cases d <;> simp
end
mutual
def bd : Fm → Nat
  | .rel _ _ => 0
  | .same _ _ => 0
  | .neg f => bd f
  | .con _ fs => bds fs
  | .qu _ _ f => 1 + bd f
def bds : List Fm → Nat
  | [] => 0
  | f :: fs => bd f + bds fs
end
mutual
theorem bd_tr : ∀ (f : Fm) (d : Bool), bd (tr f d) = bd f
  | .rel n xs, d => by cases d <;> rfl
  | .same x y, d => by cases d <;> rfl
  | .neg f, d => by rw [tr, bd_tr f, bd]
  | .con b fs, d => by rw [tr, bd, bd, bds_tr fs]
  | .qu b x f, d => by rw [tr, bd, bd, bd_tr f]
theorem bds_tr : ∀ (fs : List Fm) (d : Bool), bds (trs fs d) = bds fs
  | [], d => rfl
  | f :: fs, d => by rw [trs, bds, bds, bd_tr f, bds_tr fs]
end
theorem bds_append : ∀ (a b : List Fm), bds (a ++ b) = bds a + bds b
  | [], b => by simp [bds]
  | f :: a, b => by rw [List.cons_append, bds, bds, bds_append a b]; omega
mutual
def nnf : Fm → Bool
  | .rel _ _ => true
  | .same _ _ => true
  | .neg (.rel _ _) => true
  | .neg (.same _ _) => true
  | .neg _ => false
  | .con _ fs => nnfs fs
  | .qu _ _ f => nnf f
def nnfs : List Fm → Bool
  | [] => true
  | f :: fs => nnf f && nnfs fs
end
mutual
theorem nnf_tr : ∀ (f : Fm) (d : Bool), nnf (tr f d) = true
  | .rel n xs, d => by cases d <;> rfl
  | .same x y, d => by cases d <;> rfl
  | .neg f, d => by rw [tr]; exact nnf_tr f _
  | .con b fs, d => by rw [tr, nnf]; exact nnfs_tr fs d
  | .qu b x f, d => by rw [tr, nnf]; exact nnf_tr f d
theorem nnfs_tr : ∀ (fs : List Fm) (d : Bool), nnfs (trs fs d) = true
  | [], d => rfl
  | f :: fs, d => by rw [trs, nnfs, nnf_tr f, nnfs_tr fs]; rfl
end
theorem nnfs_mem : ∀ {fs : List Fm} {f : Fm}, nnfs fs = true → f ∈ fs → nnf f = true
  | g :: fs, f, h, hm => by
    rw [nnfs, Bool.and_eq_true] at h
    rcases List.mem_cons.mp hm with e | e
    · rw [e]; exact h.1
    · exact nnfs_mem h.2 e
mutual
theorem fr_tr : ∀ (f : Fm) (d : Bool), fr (tr f d) = fr f
  | .rel n xs, d => by cases d <;> rfl
  | .same x y, d => by cases d <;> rfl
  | .neg f, d => by rw [tr, fr_tr f, fr]
  | .con b fs, d => by rw [tr, fr, fr, frs_tr fs]
  | .qu b x f, d => by rw [tr, fr, fr, fr_tr f]
theorem frs_tr : ∀ (fs : List Fm) (d : Bool), frs (trs fs d) = frs fs
  | [], d => rfl
  | f :: fs, d => by rw [trs, frs, frs, fr_tr f, frs_tr fs]
end
mutual
theorem nm_tr : ∀ (f : Fm) (d : Bool), nm (tr f d) = nm f
  | .rel n xs, d => by cases d <;> rfl
  | .same x y, d => by cases d <;> rfl
  | .neg f, d => by rw [tr, nm_tr f, nm]
  | .con b fs, d => by rw [tr, nm, nm, nms_tr fs]
  | .qu b x f, d => by rw [tr, nm, nm, nm_tr f]
theorem nms_tr : ∀ (fs : List Fm) (d : Bool), nms (trs fs d) = nms fs
  | [], d => rfl
  | f :: fs, d => by rw [trs, nms, nms, nm_tr f, nms_tr fs]
end
mutual
theorem ct_tr : ∀ (f : Fm) (d : Bool), ct (tr f d) ≤ 2 * ct f
  | .rel n xs, d => by cases d <;> simp [tr, ct]
  | .same x y, d => by cases d <;> simp [tr, ct]
  | .neg f, d => by rw [tr, ct]; have := ct_tr f (!d); omega
  | .con b fs, d => by rw [tr, ct, ct]; have := cts_tr fs d; omega
  | .qu b x f, d => by rw [tr, ct, ct]; have := ct_tr f d; omega
theorem cts_tr : ∀ (fs : List Fm) (d : Bool), cts (trs fs d) ≤ 2 * cts fs
  | [], d => Nat.le_refl _
  | f :: fs, d => by rw [trs, cts, cts]; have := ct_tr f d; have := cts_tr fs d; omega
end
mutual
theorem dp_tr : ∀ (f : Fm) (d : Bool), dp (tr f d) ≤ dp f + 1
  | .rel n xs, d => by cases d <;> simp [tr, dp]
  | .same x y, d => by cases d <;> simp [tr, dp]
  | .neg f, d => by rw [tr, dp]; have := dp_tr f (!d); omega
  | .con b fs, d => by rw [tr, dp, dp]; exact dps_tr fs d
  | .qu b x f, d => by rw [tr, dp, dp]; have := dp_tr f d; omega
theorem dps_tr : ∀ (fs : List Fm) (d : Bool), dps (trs fs d) ≤ dps fs + 1
  | [], d => Nat.zero_le _
  | f :: fs, d => by
    rw [trs, dps, dps]
    have := dp_tr f d
    have := dps_tr fs d
    omega
end
end Fm
end Fo

set_option Elab.async false
set_option linter.all false
set_option maxRecDepth 100000
set_option maxHeartbeats 4000000
/-! Formulas as texts. -/
namespace Fo
open PySem L2
theorem s_e (a : Str) : Str.empty ++ a = a := by
  show Str.append _ _ = _
  simp [Str.append, Str.empty]
theorem s_ae (a : Str) : a ++ Str.empty = a := by
  show Str.append _ _ = _
  simp [Str.append, Str.empty]
theorem s_len (a b : Str) : (a ++ b).length = a.length + b.length := by
  show (Str.append a b).length = _
  simp [Str.append, Str.length]
/-- one behind the other -/
def cat : List Str → Str
  | [] => Str.empty
  | x :: r => x ++ cat r
theorem cat_append : ∀ a b : List Str, cat (a ++ b) = cat a ++ cat b
  | [], b => (s_e _).symm
  | x :: a, b => by rw [List.cons_append, cat, cat, cat_append a b, Str.append_assoc]
/-- with a sign between -/
def jn (s : Str) : List Str → Str
  | [] => Str.empty
  | [x] => x
  | x :: y :: r => x ++ (s ++ jn s (y :: r))
theorem fold_cat (g : Array Nat) : ∀ (r : List Str) (acc : Array Nat), List.foldl (fun acc (p : Str) => acc ++ g ++ p.cps) acc r = acc ++ (cat (r.map fun p => (⟨g⟩ : Str) ++ p)).cps
  | [], acc => by simp [cat, Str.empty]
  | p :: r, acc => by
    rw [List.foldl_cons, fold_cat g r, List.map_cons, cat]
    show _ = acc ++ (Str.append (Str.append ⟨g⟩ p) _).cps
    simp [Str.append]
theorem jn_cat (s : Str) : ∀ (x : Str) (r : List Str), jn s (x :: r) = x ++ cat (r.map fun p => s ++ p)
  | x, [] => by rw [jn, List.map_nil, cat, s_ae]
  | x, y :: r => by rw [jn, jn_cat s y r, List.map_cons, cat, Str.append_assoc]
theorem join_jn (s : Str) : ∀ ys : List Str, Txt.join s ys = jn s ys
  | [] => rfl
  | x :: r => by
    rw [jn_cat]
    show Builtin.Str.glued s (x :: r) = _
    rw [Builtin.Str.glued.eq_1, fold_cat]
    rfl
theorem jn_empty : ∀ ys : List Str, jn Str.empty ys = cat ys
  | [] => rfl
  | [x] => by rw [jn, cat, cat, s_ae]
  | x :: y :: r => by rw [jn, jn_empty (y :: r), s_e]; rfl
namespace Fm
mutual
def bare : Fm → Fm
  | .con b fs => bareL b fs
  | .rel n xs => .rel n xs
  | .same x y => .same x y
  | .neg f => .neg f
  | .qu b x f => .qu b x f
def bareL (b : Bool) : List Fm → Fm
  | [] => .con b []
  | f :: fs => match fs with
    | [] => bare f
    | _ :: _ => .con b (f :: fs)
end
def wide : Fm → Bool
  | .qu _ _ _ => true
  | .con _ (_ :: _) => true
  | _ => false
/-- no and, no or of one row -/
def isB : Fm → Bool
  | .con _ [_] => false
  | _ => true
theorem bare_one (b : Bool) (f : Fm) : bare (.con b [f]) = bare f := rfl
mutual
theorem bare_is : ∀ f : Fm, isB (bare f) = true
  | .con b fs => bareL_is b fs
  | .rel n xs => rfl
  | .same x y => rfl
  | .neg f => rfl
  | .qu b x f => rfl
theorem bareL_is (b : Bool) : ∀ fs : List Fm, isB (bareL b fs) = true
  | [] => rfl
  | [f] => bare_is f
  | f :: g :: fs => rfl
end
theorem bare_id {f : Fm} (h : isB f = true) : bare f = f := by
  cases f with
  | con b fs =>
    match fs, h with
    | [], _ => rfl
    | _ :: _ :: _, _ => rfl
  | rel n xs => rfl
  | same x y => rfl
  | neg f => rfl
  | qu b x f => rfl
mutual
theorem bare_ct : ∀ f : Fm, ct (bare f) ≤ ct f
  | .con b fs => by
    have := bareL_ct b fs
    rw [bare]
    rw [ct]
    exact this
  | .rel n xs => Nat.le_refl _
  | .same x y => Nat.le_refl _
  | .neg f => Nat.le_refl _
  | .qu b x f => Nat.le_refl _
theorem bareL_ct (b : Bool) : ∀ fs : List Fm, ct (bareL b fs) ≤ 1 + cts fs
  | [] => Nat.le_refl _
  | [f] => by
    have := bare_ct f
    show ct (bare f) ≤ 1 + (ct f + 0)
    omega
  | f :: g :: fs => Nat.le_refl _
end
mutual
theorem bare_dp : ∀ f : Fm, dp (bare f) ≤ dp f
  | .con b fs => bareL_dp b fs
  | .rel n xs => Nat.le_refl _
  | .same x y => Nat.le_refl _
  | .neg f => Nat.le_refl _
  | .qu b x f => Nat.le_refl _
theorem bareL_dp (b : Bool) : ∀ fs : List Fm, dp (bareL b fs) ≤ dps fs
  | [] => Nat.le_refl _
  | [f] => by
    have := bare_dp f
    show dp (bare f) ≤ max (1 + dp f) 0
    omega
  | f :: g :: fs => Nat.le_refl _
end
def word (b : Bool) : Str := if b = true then "true" else "false"
def sgn (b : Bool) : Str := if b = true then " & " else " | "
mutual
def txt : Fm → Str
  | .rel n xs => n ++ ("(" ++ (jn "," xs ++ ")"))
  | .same x y => x ++ ("=" ++ y)
  | .neg f => "~" ++ (if wide (bare f) = true then "(" ++ (txt f ++ ")") else txt f)
  | .con b fs => txtL b fs
  | .qu b x f => qn b ++ (" " ++ (x ++ (": " ++ txt f)))
def txtL (b : Bool) : List Fm → Str
  | [] => word b
  | f :: fs => match fs with
    | [] => txt f
    | _ :: _ => jn (sgn b) ((if wide (bare f) = true then "(" ++ (txt f ++ ")") else txt f) :: helds fs)
def helds : List Fm → List Str
  | [] => []
  | f :: fs => (if wide (bare f) = true then "(" ++ (txt f ++ ")") else txt f) :: helds fs
end
def held (f : Fm) : Str := if wide (bare f) = true then "(" ++ (txt f ++ ")") else txt f
theorem helds_map : ∀ fs : List Fm, helds fs = fs.map held
  | [] => by rw [helds]; rfl
  | f :: fs => by rw [helds, helds_map fs]; rfl
mutual
theorem txt_bare : ∀ f : Fm, txt (bare f) = txt f
  | .con b fs => by rw [bare, txt]; exact txtL_bare b fs
  | .rel n xs => rfl
  | .same x y => rfl
  | .neg f => rfl
  | .qu b x f => rfl
theorem txtL_bare (b : Bool) : ∀ fs : List Fm, txt (bareL b fs) = txtL b fs
  | [] => by show txt (.con b []) = _; rw [txt]
  | [f] => by
    show txt (bare f) = txtL b [f]
    rw [txt_bare f, txtL]
  | f :: g :: fs => by
    show txt (.con b (f :: g :: fs)) = _
    rw [txt]
end
theorem txt_many (b : Bool) (f g : Fm) (fs : List Fm) : txt (.con b (f :: g :: fs)) = held f ++ cat ((g :: fs).map fun k => sgn b ++ held k) := by
  rw [txt, txtL]
  show jn (sgn b) (held f :: helds (g :: fs)) = _
  rw [jn_cat, helds_map, List.map_map]
  rfl
theorem txt_neg (f : Fm) : txt (.neg f) = "~" ++ held f := by rw [txt]; rfl
/-- what is still to be written -/
def wt : Fm → Nat := fun f => 5 * ct f - 3
mutual
def plain : Fm → Fm
  | .rel n xs => .rel n xs
  | .same x y => .same x y
  | .neg f => .neg (plain f)
  | .con b fs => plainL b fs
  | .qu b x f => .qu b x (plain f)
def plainL (b : Bool) : List Fm → Fm
  | [] => .con b []
  | f :: fs => match fs with
    | [] => plain f
    | _ :: _ => .con b (plain f :: plains fs)
def plains : List Fm → List Fm
  | [] => []
  | f :: fs => plain f :: plains fs
end
theorem plains_map : ∀ fs : List Fm, plains fs = fs.map plain
  | [] => by rw [plains]; rfl
  | f :: fs => by rw [plains, plains_map fs]; rfl
mutual
theorem plain_bare : ∀ f : Fm, plain (bare f) = plain f
  | .con b fs => by rw [bare, plain]; exact plainL_bare b fs
  | .rel n xs => rfl
  | .same x y => rfl
  | .neg f => rfl
  | .qu b x f => rfl
theorem plainL_bare (b : Bool) : ∀ fs : List Fm, plain (bareL b fs) = plainL b fs
  | [] => by show plain (.con b []) = _; rw [plain]
  | [f] => by
    show plain (bare f) = plainL b [f]
    rw [plain_bare f, plainL]
  | f :: g :: fs => by
    show plain (.con b (f :: g :: fs)) = _
    rw [plain]
end
theorem plain_many (b : Bool) (f g : Fm) (fs : List Fm) : plain (.con b (f :: g :: fs)) = .con b ((f :: g :: fs).map plain) := by
  rw [plain, plainL, plains_map]
  rfl
end Fm
end Fo

set_option Elab.async false
set_option linter.all false
set_option maxRecDepth 100000
set_option maxHeartbeats 4000000
/-! t[::-1] of a tuple -/
namespace Rv
open PySem PySem.Spec PyProof.Rows L2
section
variable {P : Program} {w : World} {A : Around} {E : Value → Shared → Prop} {s : Shared}
theorem applied {sl : Addr} {a b c : Value} {n : Nat} {Q : Int × Int × Nat → Shared → Prop} (hs : s.heap.IsSliceOf sl a b c) (pa : IsPart a none) (pb : IsPart b none) (pc : IsPart c (some (-1))) (h : Q ((n : Int) - 1, -1, n) s) :
    wpAny (model P w) A (Builtin.Slice.sliceApplied (.ref sl) (pure (n : Int))) Q E s := by
  obtain ⟨os, hos, hcs, hds⟩ := id hs
  unfold Builtin.Slice.sliceApplied Builtin.Slice.sliceFields
  refine wpAny_bind (wpAny_bind (wpAny_field hos hds (x := a) rfl (wpAny_bind (wpAny_field hos hds (x := b) rfl (wpAny_bind (wpAny_field hos hds (x := c) rfl (wpAny_pure ?_)))))))
  refine wpAny_bind (HT.slicePart_ pc ?_)
  show wpAny _ _ (if ((-1 : Int) == 0) = true then _ else _) _ _ s
  rw [if_neg (by decide)]
  refine wpAny_bind (HT.slicePart_ pa (wpAny_bind (HT.slicePart_ pb (wpAny_bind (wpAny_pure ?_)))))
  have e1 : Builtin.Slice.sliceAdjust none none (-1) (n : Int) = ((n : Int) - 1, -1) := rfl
  have e2 : Builtin.Slice.slicePlaces ((n : Int) - 1) (-1) (-1) = n := by
    unfold Builtin.Slice.slicePlaces
    rw [if_neg (by decide)]
    by_cases z : (n : Int) - 1 > -1
    · rw [if_pos z, show (-(-1 : Int)) = 1 by decide, Int.ediv_one]
      omega
    · rw [if_neg z]
      omega
  show wpAny _ _ (pure ((n : Int) - 1, (-1 : Int), Builtin.Slice.slicePlaces ((n : Int) - 1) (-1) (-1))) _ _ s
  rw [e2]
  exact wpAny_pure h
theorem fm_congr {α β : Type} {f g : α → Option β} : ∀ (l : List α), (∀ a ∈ l, f a = g a) → l.filterMap f = l.filterMap g
  | [], _ => rfl
  | a :: l, h => by
    rw [List.filterMap_cons, List.filterMap_cons, h a List.mem_cons_self, fm_congr l fun b hb => h b (List.mem_cons_of_mem _ hb)]
theorem picked (xs : Array Value) : ((List.range xs.size).filterMap fun (k : Nat) => xs[((xs.size : Int) - 1 + (k : Int) * (-1)).toNat]?) = xs.toList.reverse := by
  have e : (List.range xs.size).filterMap (fun (k : Nat) => xs[((xs.size : Int) - 1 + (k : Int) * (-1)).toNat]?) = (List.range xs.size).filterMap (fun k => xs[xs.size - 1 - k]?) := by
    refine fm_congr _ fun k hk => ?_
    have lt := List.mem_range.mp hk
    have z : ((xs.size : Int) - 1 + (k : Int) * (-1)).toNat = xs.size - 1 - k := by omega
    rw [z]
  have m : (List.range xs.size).filterMap (fun k => xs[xs.size - 1 - k]?) = ((List.range xs.size).map (fun k => xs.size - 1 - k)).filterMap (xs[·]?) := by
    rw [List.filterMap_map]
    rfl
  rw [e, m, PySem.W.krv_range, List.filterMap_reverse, PySem.W.krv_all]
theorem tup_rev {t sl : Addr} {its : Array Value} {a b c : Value} {Q : Value → Shared → Prop} (ht : IsTup s.heap t its) (hs : s.heap.IsSliceOf sl a b c) (pa : IsPart a none) (pb : IsPart b none) (pc : IsPart c (some (-1)))
    (h : Q (.ref s.heap.objs.size) { s with heap := s.heap.push { cls := .type "tuple", data := .seq its.toList.reverse.toArray } }) (hz : its.size ≤ sizeLine) : wpAny (model P w) A (getItem (.ref t) (.ref sl)) Q E s := by
  have ok : sizeOk (.seq its.toList.reverse.toArray) := by
    show its.toList.reverse.toArray.size ≤ sizeLine
    rw [List.size_toArray, List.length_reverse, Array.length_toList]
    exact hz
  obtain ⟨os, hos, hcs, hds⟩ := id hs
  have hT : s.TypeIs (.ref sl) "slice" := ⟨os, hos, hcs⟩
  unfold getItem
  try with_reducible refine wpAny_holding ?_
  first | refine wpAny_bind (wpAny_pure ?_) | skip
  refine wpAny_bind (wpAny_sequenceKey ht.typeIs (by decide) ?_)
  refine wpAny_bind (wpAny_callSpecial?_slot (name := Str.ofString "__getitem__") ht.typeIs PyProof.Rows.slot_tuple_getitem
    (wpAny_call_entry PyProof.Rows.slot_tuple_getitem ht.typeIs entry_tuple_getitem ?_ (args_tuple_getitem _ _)))
  show wpAny _ _ (Builtin.Tuple.tupleItemsOf (.ref t) >>= _) _ _ s
  refine wpAny_bind (tupleItemsOf_ ht (wpAny_bind (wpAny_typeOf hT ?_)))
  rw [if_pos (by decide)]
  refine wpAny_bind (applied hs pa pb pc ?_)
  have no : ¬ (((its.size : Int) - 1 == 0 && (-1 : Int) == 1 && its.size == its.size) = true) := by
    intro q
    rw [Bool.and_eq_true, Bool.and_eq_true] at q
    exact absurd q.1.2 (by decide)
  show wpAny _ _ (if ((its.size : Int) - 1 == 0 && (-1 : Int) == 1 && its.size == its.size) = true then _ else _) _ _ s
  rw [if_neg no, picked]
  first
    | exact wpAny_bind (m := Builtin.Tuple.tupleExact _) (wpAny_newObj_type (wpAny_pure ⟨_, rfl, wpAny_pure h⟩) ok)
    | exact wpAny_bind (m := Builtin.Tuple.tupleExact _) (wpAny_newObj_type (wpAny_bind (wpAny_pure (wpAny_pure ⟨_, rfl, wpAny_pure h⟩))) ok)
    | exact wpAny_bind (wpAny_bind (m := Builtin.Tuple.tupleExact _) (wpAny_newObj_type (wpAny_pure (wpAny_pure ⟨_, rfl, wpAny_pure h⟩)) ok))
    | exact wpAny_bind (wpAny_bind (m := Builtin.Tuple.tupleExact _) (wpAny_newObj_type (wpAny_pure ⟨_, rfl, wpAny_pure h⟩) ok))
end
def tRevT (K : PySem.W.Frag) (te : TE) : TE := fun σ H Q => te σ H fun x H1 => ∃ a xs, x = .ref a ∧ SqT K H1 a xs ∧ ∀ p, H1 p = none → Q (.ref p) (upd H1 p (.tup xs.reverse))
theorem pe_revT {X : Cx} {e : Expr} {te : TE} {k : Nat} {p1 p2 p3 pos : Pos} (he : PE X e te) : PE X (.Subscript e (.Slice none none (some (.UnaryOp .USub (.Constant (.int 1) k p1) p2)) p3) pos) (tRevT X.K te) := by
  refine ⟨fun pins s σ H Q I h => ?_⟩
  refine Subscript_ (thn (he.run pins s σ H _ I h) fun v s1 ⟨x, H1, I1, r1, a, xs, ex, hx, q⟩ => ?_)
  subst ex
  cases r1
  have third : PO X (some (.UnaryOp .USub (.Constant (.int 1) k p1) p2)) (tPart (tUn (rU fun i => .int (-i)) (tC (.int 1)))) := po_some (pe_un un_neg pe_int)
  refine wpAny_Slice (thn (po_none.run pins s1 σ H1 (fun o G => o = none ∧ G = H1) I1 ⟨rfl, rfl⟩) fun va s2 ⟨oa, G, I2, qa, ea, eG⟩ => ?_)
  subst ea eG
  refine thn (po_none.run pins s2 σ G (fun o G' => o = none ∧ G' = G) I2 ⟨rfl, rfl⟩) fun vb s3 ⟨ob, G', I3, qb, eb, eG'⟩ => ?_
  subst eb eG'
  refine thn (third.run pins s3 σ G' (fun o G2 => o = some (-1) ∧ G2 = G') I3 ⟨1, rfl, -1, rfl, rfl, rfl⟩) fun vc s4 ⟨oc, G2, I4, qc, ec, eG2⟩ => ?_
  subst ec eG2
  have I5 : Inv X pins σ G2 { s4 with heap := s4.heap.push { cls := .type "slice", data := .fields #[va, vb, vc] } } := I4.kept (t' := s4.toks) fun b ob q => Heap.get?_push_of_some _ q
  obtain ⟨its, r, ht, hz⟩ := I5.tuple hx
  have hlen := r.length
  show wpAny (model X.prog X.w) X.A (subscriptTail e (.Slice none none (some (.UnaryOp .USub (.Constant (.int 1) k p1) p2)) p3) (.ref a) (.ref s4.heap.objs.size)) (EP X pins σ Q) X.xe { s4 with heap := s4.heap.push { cls := .type "slice", data := .fields #[va, vb, vc] } }
  refine tail_any (ops := [.ref a, .ref s4.heap.objs.size]) ht.typeIs PyProof.Rows.slot_tuple_getitem.lookup ?_ (by with_unfolding_all rfl)
  refine tup_rev ht (Heap.IsSliceOf.new _ va vb vc) qa qb qc ?_ (by rw [List.size_toArray]; omega)
  refine ⟨.ref _, _, I5.laid (t' := s4.toks) (o := .tup xs.reverse) (fun b ob q => Heap.get?_push_of_some _ q) (Nat.le_refl _) ?_, rfl, q _ (I5.hok.fresh (Nat.le_refl _))⟩
  exact ⟨by rw [List.length_reverse]; exact hz, _, r.reverse, IsTup.new _ _⟩
end Rv

set_option Elab.async false
set_option linter.all false
set_option maxRecDepth 100000
set_option maxHeartbeats 4000000
/-! law k02: the draws -/
namespace K2
open PySem L2 Fo
def top (i : Nat) : Stmt := PySem.Challenge.pw_finitestructures_k02_formulas_are_writte.main.body.getD i (.Pass ⟨0, 0, 0, 0⟩)
abbrev sWrite : Stmt := top 8
abbrev sAlone : Stmt := top 9
abbrev sPieces : Stmt := top 10
abbrev sJoined : Stmt := top 11
abbrev sGuarded : Stmt := top 12
abbrev sRead : Stmt := top 15
abbrev sBinders : Stmt := top 16
abbrev sNots : Stmt := top 17
abbrev sPlain : Stmt := top 18
abbrev sNames : Stmt := top 19
abbrev sClose : Stmt := top 20
abbrev sJoint : Stmt := top 21
abbrev sWhole : Stmt := top 22
abbrev sDenied : Stmt := top 23
abbrev sCell : Stmt := top 25
abbrev sDigits : Stmt := top 26
abbrev sBox : Stmt := top 27
abbrev sDraw : Stmt := top 28
abbrev sName : Stmt := top 29
abbrev sFormula : Stmt := top 30
abbrev sBelow : Stmt := top 31
abbrev sKinds : Stmt := top 32
abbrev sBare : Stmt := top 33
abbrev sHeld : Stmt := top 34
abbrev sText : Stmt := top 35
abbrev sPlainer : Stmt := top 36
abbrev sSame : Stmt := top 37
abbrev sGap : Stmt := top 38
abbrev sLoosePart : Stmt := top 39
abbrev sLoose : Stmt := top 40
abbrev sLaw : Stmt := top 41
/-- which built-ins no name of the module hides -/
structure Bt (mg : Str → Option Value) : Prop where
  len : mg "len" = none
  max : mg "max" = none
  int : mg "int" = none
  tuple : mg "tuple" = none
  list : mg "list" = none
  range : mg "range" = none
  isinstance : mg "isinstance" = none
  bool : mg "bool" = none
  str : mg "str" = none
def N8 : List Str := ["x", "y", "z", "v0", "v1", "s", "t1", "a"]
def R4 : List Str := ["E", "F", "P", "Q"]
section
variable {P : Program} {w : World} {K : PySem.W.Frag} {mg : Str → Option Value} {base : Heap}
/-! ### cell -/
theorem at_int {ns : List Int} {k : Int} (h0 : 0 ≤ k) (h : k < (ns.length : Int)) : ∃ v : Int, atI (ns.map V.int) k = some (.int v) := by
  have hk : k.toNat < ns.length := by omega
  have e : k = ((k.toNat : Nat) : Int) := by omega
  refine ⟨ns[k.toNat], at_of e ?_⟩
  rw [List.getElem?_map, List.getElem?_eq_getElem hk]
  rfl
def spCell (K : PySem.W.Frag) : Sp := fun vs H Q _ => ∃ (a : Addr) (ns : List Int) (k : Int), vs = [.ref a, .int k] ∧ SqL K H a (ns.map V.int) ∧ 0 ≤ k ∧ ∀ z, Q (.int z) H
theorem scCell : FnScope ["script", "k"] ["script", "k"] (defScope sCell) := ⟨rfl, rfl, rfl, by decide +kernel, rfl, by decide +kernel, by decide +kernel⟩
theorem ok_cell {f : Addr} {fd : FuncData} (B : Bt mg) (F : Fun K "_law_cell" "_law_cell" sCell f fd) : FnOk P w K mg base CX0 1 f fd ["script", "k"] (spCell K) := by
  refine F.ok scCell (fun vs H Q E h => ?_) (fun cdv A outer s H vs Q E hr h => ?_)
  · obtain ⟨a, ns, k, rfl, _⟩ := h
    rfl
  obtain ⟨a, ns, k, rfl, hS, h0, q⟩ := h
  refine ⟨_, pss_cons (ps_if (pt_cmpR op_lt (pv 1) (pe_callB call_len_seq rfl B.len PySem.boot_len (pa_cons (pv 0) pa_nil)) (nomark _)) (pss_one (ps_ret (pe_ix ix_list (pv 0) (pv 1) (fun _ _ => rfl)))) pss_nil)
    (pss_one (ps_ret pe_int)), ?_⟩
  refine ⟨_, rfl, _, rfl, a, _, rfl, .inl hS, _, _, rfl, rfl, _, rfl, ?_⟩
  refine ite2 (fun c => ?_) (fun c => ?_)
  · have c' : k < (((ns.map V.int).length : Nat) : Int) := of_decide_eq_true c
    rw [List.length_map] at c'
    obtain ⟨v, hv⟩ := at_int h0 c'
    exact ⟨_, rfl, _, rfl, a, _, _, _, rfl, rfl, hS, hv, q _⟩
  · exact q _
/-! ### draw -/
/-- all but what stands at b is as it was -/
def But (b : Addr) (H H' : Hp) : Prop := ∀ a o, a ≠ b → H a = some o → H' a = some o
theorem But.refl (b : Addr) (H : Hp) : But b H H := fun _ _ _ h => h
theorem But.trans {b : Addr} {H H1 H2 : Hp} (x : But b H H1) (y : But b H1 H2) : But b H H2 := fun a o n h => y a o n (x a o n h)
theorem But.of_same {b : Addr} {H H' : Hp} (x : Same H H') : But b H H' := fun a o _ h => x a o h
/-- a box: a list of a list of ints and a place -/
def BoxAt (H : Hp) (b d : Addr) : Prop := ∃ (ns : List Int) (i : Int), H b = some (.lst [.ref d, .int i]) ∧ H d = some (.lst (ns.map V.int)) ∧ 0 ≤ i ∧ d ≠ b
theorem BoxAt.same {H H' : Hp} {b d : Addr} (x : BoxAt H b d) (e : Same H H') : BoxAt H' b d :=
  let ⟨ns, i, h1, h2, h3, h4⟩ := x; ⟨ns, i, e _ _ h1, e _ _ h2, h3, h4⟩
theorem But.tk {K : PySem.W.Frag} {b d : Addr} {H H' : Hp} (x : But b H H') (y : BoxAt H b d) : Tk K H H' := fun a xs h => by
  obtain ⟨ns, i, h1, _⟩ := y
  rcases h with (h | ⟨o, h⟩) | h
  · exact .inl (.inl (x _ _ (ne_of h h1 (by intro z; cases z)) h))
  · exact .inl (.inr ⟨o, x _ _ (ne_of h h1 (by intro z; cases z)) h⟩)
  · exact .inr h
def spDraw : Sp := fun vs H Q _ => ∃ (b d : Addr) (m : Int), vs = [.ref b, .int m] ∧ BoxAt H b d ∧ 0 < m ∧ ∀ (r : Int) (H' : Hp), 0 ≤ r → r < m → But b H H' → BoxAt H' b d → Q (.int r) H'
theorem scDraw : FnScope ["box", "many", "at"] ["box", "many"] (defScope sDraw) := ⟨rfl, rfl, rfl, by decide +kernel, rfl, by decide +kernel, by decide +kernel⟩
theorem ok_draw {f : Addr} {fd : FuncData} (B : Bt mg) (F : Fun K "_law_draw" "_law_draw" sDraw f fd) : FnOk P w K mg base CX0 1 f fd ["box", "many"] spDraw := by
  refine F.ok scDraw (fun vs H Q E h => ?_) (fun cdv A outer s H vs Q E hr h => ?_)
  · obtain ⟨b, d, m, rfl, _⟩ := h
    rfl
  obtain ⟨b, d, m, rfl, ⟨ns, i, h1, h2, h3, h4⟩, hm, q⟩ := h
  refine ⟨_, pss_cons (ps_set (i := 2) scDraw.nd rfl (.inl rfl) (pe_ix ix_list (pv 0) pe_int (fun _ _ => rfl)))
    (pss_cons (ps_asg (pe_op op_add (pv 2) pe_int) (pg_sub (pv 0) pe_int set_list))
    (pss_cons (ps_if (pt_cmpR op_lt (pv 2) (pe_callB call_len_seq rfl B.len PySem.boot_len (pa_cons (pe_ix ix_list (pv 0) pe_int (fun _ _ => rfl)) pa_nil)) (nomark _))
      (pss_one (ps_ret (pe_op op_mod (pe_callTy call_int1 rfl B.int (by decide +kernel) (pa_cons (pe_ix ix_list (pe_ix ix_list (pv 0) pe_int (fun _ _ => rfl)) (pv 2) (fun _ _ => rfl)) pa_nil)) (pv 1)))) pss_nil)
    (pss_one (ps_ret pe_int)))), ?_⟩
  refine ⟨_, rfl, b, _, _, _, rfl, rfl, SqL.of h1, at_of (j := 1) rfl rfl, ?_⟩
  refine ⟨_, rfl, _, _, rfl, rfl, _, rfl, b, _, 1, 1, rfl, rfl, h1, rfl, ?_⟩
  have g1 : upd H b (.lst ([V.ref d, V.int i].set 1 (.int (i + 1)))) b = some (.lst [.ref d, .int (i + 1)]) := upd_same
  have g2 : upd H b (.lst ([V.ref d, V.int i].set 1 (.int (i + 1)))) d = some (.lst (ns.map V.int)) := by rw [upd_ne h4]; exact h2
  have g3 : But b H (upd H b (.lst ([V.ref d, V.int i].set 1 (.int (i + 1))))) := fun a o n e => by rw [upd_ne n]; exact e
  have g4 : BoxAt (upd H b (.lst ([V.ref d, V.int i].set 1 (.int (i + 1))))) b d := ⟨ns, i + 1, g1, g2, by omega, h4⟩
  refine ⟨_, rfl, _, rfl, b, _, _, _, rfl, rfl, SqL.of g1, at_of (j := 0) rfl rfl, d, _, rfl, .inl (SqL.of g2), _, _, rfl, rfl, _, rfl, ?_⟩
  refine ite2 (fun c => ?_) (fun c => ?_)
  · have c' : i < (((ns.map V.int).length : Nat) : Int) := of_decide_eq_true c
    rw [List.length_map] at c'
    obtain ⟨v, hv⟩ := at_int h3 c'
    refine ⟨_, rfl, b, _, _, _, rfl, rfl, SqL.of g1, at_of (j := 0) rfl rfl, _, rfl, d, _, _, _, rfl, rfl, SqL.of g2, hv, .inl ⟨_, rfl, _, rfl, _, _, rfl, rfl, hm, ?_⟩⟩
    exact q _ _ (Int.emod_nonneg _ (by omega)) (Int.emod_lt_of_pos _ hm) g3 g4
  · exact q _ _ (Int.le_refl 0) hm g3 g4
end
end K2

set_option Elab.async false
set_option linter.all false
set_option maxRecDepth 100000
set_option maxHeartbeats 4000000
namespace K2
open PySem L2 Fo
open C8 (Cal pe_c pss_cut)
section
variable {P : Program} {w : World} {K : PySem.W.Frag} {mg : Str → Option Value} {base : Heap}
theorem cal_of {x : Str} {f : Addr} {fd : FuncData} {ps : List Str} {k : Nat} {sp : Sp} (G : FnOk P w K mg base CX0 k f fd ps sp) (m : mg x = some (.ref f)) (kp : PySem.W.keepIn K (.ref f) = true) (b : Binds K fd ps []) : Cal P w K mg base k x sp [] :=
  ⟨⟨f, fd, ps, [], G, m, kp, b, .nil⟩⟩
/-! ### digits, box -/
def spDigits (K : PySem.W.Frag) : Sp := fun vs H Q _ => ∃ (a : Addr) (ns : List Int), vs = [.ref a, .int 0, .int 63] ∧ SqL K H a (ns.map V.int) ∧
  ∀ (d : Addr) (ms : List Int) (H' : Hp), Same H H' → H d = none → H' d = some (.lst (ms.map V.int)) → Q (.ref d) H'
abbrev nDigits : List Str := ["script", "first", "last", "digits", "k", "cell", "turn", "seed"]
theorem scDigits : FnScope nDigits ["script", "first", "last"] (defScope sDigits) := ⟨rfl, rfl, rfl, by decide +kernel, rfl, by decide +kernel, by decide +kernel⟩
theorem same_to {H H' : Hp} {d : Addr} {o : HO} (s : Same H H') (h : H d = none) : Same H (upd H' d o) := fun b u e => by
  rw [upd_ne (ne_of_none e h)]
  exact s _ _ e
theorem ints_snoc {ms : List Int} {z : Int} : ms.map V.int ++ [V.int z] = (ms ++ [z]).map V.int := by simp
theorem lineOk {n : Nat} (h : n ≤ 10000) : n < sizeLine := Nat.lt_of_le_of_lt h (by decide)
theorem ok_digits {f : Addr} {fd : FuncData} (B : Bt mg) (cCell : Cal P w K mg base 1 "_law_cell" (spCell K) []) (F : Fun K "_law_digits" "_law_digits" sDigits f fd) : FnOk P w K mg base CX0 2 f fd ["script", "first", "last"] (spDigits K) := by
  refine F.ok scDigits (fun vs H Q E h => ?_) (fun cdv A outer s H vs Q E hr h => ?_)
  · obtain ⟨a, ns, rfl, _⟩ := h
    rfl
  obtain ⟨a, ns, rfl, hS, q⟩ := h
  have nd := scDigits.nd
  refine ⟨_, pss_cons (ps_set (i := 3) nd rfl (.inl rfl) (pe_lst pa_nil))
    (pss_cons (ps_for PassesOwn.never rfl (pi_range2 (by rfl) B.range (pa_cons (pv 1) (pa_cons (pv 2) pa_nil))) (pg_name (i := 4) nd rfl (.inl rfl))
      (pss_cons (ps_set (i := 5) nd rfl (.inl rfl) (pe_c cCell hr (by decide) rfl (pa_cons (pv 0) (pa_cons (pv 4) pa_nil))))
      (pss_cut (ps_if (pt_cmpR op_lt (pv 5) pe_int (nomark _)) (pss_one (ps_set (i := 5) nd rfl (.inl rfl) (pe_op op_sub pe_int (pe_op op_mul pe_int (pv 5))))) pss_nil)
      (pss_one (ps_if (pt_cmpR op_ge (pv 5) (pe_op op_pow pe_int pe_int) (nomark _))
        (pss_one (ps_for PassesOwn.never rfl (pi_range1 rfl B.range (pa_cons pe_int pa_nil)) (pg_name (i := 6) nd rfl (.inl rfl))
          (pss_one (ps_if (pt_cmpR op_gt (pv 5) pe_int (nomark _))
            (pss_cons (ps_expr (pe_bm PySem.F.plainAttrs_list PySem.F.slot_list_append PySem.F.type_list_append mt_append (pv 3) (pa_cons (pe_op op_mod (pe_callTy call_int1 rfl B.int (by decide +kernel) (pa_cons (pv 5) pa_nil)) pe_int) pa_nil)))
            (pss_one (ps_set (i := 5) nd rfl (.inl rfl) (pe_op op_fdiv (pv 5) pe_int)))) pss_nil))))
        (pss_cons (ps_set (i := 7) nd rfl (.inl rfl) (pe_op op_mod (pe_callTy call_int1 rfl B.int (by decide +kernel) (pa_cons (pe_op op_add (pe_op op_add (pe_op op_mul (pv 5) pe_int) (pe_op op_mul (pv 4) pe_int)) pe_int) pa_nil)) pe_int))
        (pss_one (ps_for PassesOwn.never rfl (pi_range1 rfl B.range (pa_cons pe_int pa_nil)) (pg_name (i := 6) nd rfl (.inl rfl))
          (pss_cons (ps_set (i := 7) nd rfl (.inl rfl) (pe_op op_mod (pe_callTy call_int1 rfl B.int (by decide +kernel) (pa_cons (pe_op op_add (pe_op op_add (pe_op op_mul (pv 7) pe_int) (pe_op op_mul pe_int (pv 6))) pe_int) pa_nil)) pe_int))
          (pss_one (ps_expr (pe_bm PySem.F.plainAttrs_list PySem.F.slot_list_append PySem.F.type_list_append mt_append (pv 3) (pa_cons (pe_op op_mod (pe_callTy call_int1 rfl B.int (by decide +kernel) (pa_cons (pe_op op_fdiv (pv 7) pe_int) pa_nil)) pe_int) pa_nil)))))))))))))
    (pss_one (ps_ret (pv 3)))), ?_⟩
  refine ⟨Nat.zero_le _, fun D nD => ?_⟩
  refine ⟨_, rfl, _, rfl, 0, 63, rfl, ⟨by decide, by decide, by decide, by decide⟩, for_range (lo := 0) (n := 63) (fun i σ H' => ∃ (ms : List Int) (k c t sd : Option V), σ = [some (.ref a), some (.int 0), some (.int 63), some (.ref D), k, c, t, sd] ∧ Same H H' ∧ H' D = some (.lst (ms.map V.int)) ∧ ms.length ≤ 60 * i)
    ⟨[], none, none, none, none, rfl, same_new nD _, upd_same, Nat.zero_le _⟩ ?_ ?_⟩
  · rintro i σ H1 hi ⟨ms, k, c, t, sd, rfl, s1, hD, hl⟩
    refine ⟨_, rfl, _, rfl, a, ns, 0 + (i : Int), rfl, s1.seq hS, by omega, fun z => ?_⟩
    refine ⟨fun σ' H' => ∃ y : Int, H' = H1 ∧ σ' = [some (.ref a), some (.int 0), some (.int 63), some (.ref D), some (.int (0 + (i : Int))), some (.int y), t, sd], ⟨_, rfl, _, _, rfl, rfl, _, rfl, ite2 (fun _ => ?_) (fun _ => ?_)⟩, ?_⟩
    · exact ⟨_, rfl, _, _, rfl, rfl, .inl ⟨by decide, by decide⟩, _, _, rfl, rfl, _, rfl, rfl⟩
    · exact ⟨z, rfl, rfl⟩
    rintro σ' H' ⟨y, rfl, rfl⟩
    refine ⟨_, rfl, _, _, rfl, rfl, ⟨by decide, by decide, by decide⟩, _, _, rfl, rfl, _, rfl, ite2 (fun _ => ?_) (fun _ => ?_)⟩
    · refine ⟨60, rfl, by decide, by decide, for_range (lo := 0) (n := 60) (fun j σ H2 => ∃ (ms2 : List Int) (y t : Int) (t' : Option V), σ = [some (.ref a), some (.int 0), some (.int 63), some (.ref D), some (.int (0 + (i : Int))), some (.int y), t', sd] ∧ Same H H2 ∧ H2 D = some (.lst (ms2.map V.int)) ∧ ms2.length ≤ 60 * i + j)
        ⟨ms, y, 0, t, rfl, s1, hD, by omega⟩ ?_ ?_⟩
      · rintro j σ H2 hj ⟨ms2, y2, _, t', rfl, s2, hD2, hl2⟩
        refine ⟨_, rfl, _, _, rfl, rfl, _, rfl, ite2 (fun _ => ?_) (fun _ => ?_)⟩
        · refine ⟨_, rfl, .inl ⟨rfl, _, SqL.of hD2⟩, _, rfl, .inl ⟨_, rfl, _, _, rfl, rfl, (by show (0 : Int) < 1000; decide), D, _, _, rfl, rfl, hD2, lineOk (by rw [List.length_map]; omega), _, rfl, _, _, rfl, rfl, ⟨by decide, by decide⟩, ?_⟩⟩
          exact ⟨ms2 ++ [y2 % 1000], _, 0, _, rfl, same_to s2 nD, by rw [upd_same, ints_snoc], by rw [List.length_append, List.length_singleton]; omega⟩
        · exact ⟨ms2, y2, 0, _, rfl, s2, hD2, by omega⟩
      · rintro σ H2 ⟨ms2, y2, _, t', rfl, s2, hD2, hl2⟩
        exact ⟨ms2, _, _, _, _, rfl, s2, hD2, by omega⟩
    · refine ⟨_, rfl, _, _, rfl, rfl, .inr ⟨by decide, by decide⟩, _, rfl, _, _, rfl, rfl, .inr ⟨by decide, by decide⟩, _, _, rfl, rfl, _, _, rfl, rfl, .inl ⟨_, rfl, _, _, rfl, rfl, (by show (0 : Int) < 2147483647; decide), ?_⟩⟩
      refine ⟨12, rfl, by decide, by decide, for_range (lo := 0) (n := 12) (fun j σ H2 => ∃ (ms2 : List Int) (u : Int) (t' : Option V), σ = [some (.ref a), some (.int 0), some (.int 63), some (.ref D), some (.int (0 + (i : Int))), some (.int y), t', some (.int u)] ∧ Same H H2 ∧ H2 D = some (.lst (ms2.map V.int)) ∧ ms2.length ≤ 60 * i + j)
        ⟨ms, _, t, rfl, s1, hD, by omega⟩ ?_ ?_⟩
      · rintro j σ H2 hj ⟨ms2, u2, t', rfl, s2, hD2, hl2⟩
        refine ⟨_, rfl, _, _, rfl, rfl, .inr ⟨by decide, by decide⟩, _, rfl, _, _, rfl, rfl, .inl ⟨by decide, by decide⟩, _, _, rfl, rfl, _, _, rfl, rfl, .inl ⟨_, rfl, _, _, rfl, rfl, (by show (0 : Int) < 2147483647; decide), ?_⟩⟩
        refine ⟨_, rfl, .inl ⟨rfl, _, SqL.of hD2⟩, _, rfl, _, _, rfl, rfl, ⟨by decide, by decide⟩, .inl ⟨_, rfl, _, _, rfl, rfl, (by show (0 : Int) < 1000; decide), D, _, _, rfl, rfl, hD2, lineOk (by rw [List.length_map]; omega), ?_⟩⟩
        exact ⟨ms2 ++ [_], _, _, rfl, same_to s2 nD, by rw [upd_same, ints_snoc], by rw [List.length_append, List.length_singleton]; omega⟩
      · rintro σ H2 ⟨ms2, u2, t', rfl, s2, hD2, hl2⟩
        exact ⟨ms2, _, _, _, _, rfl, s2, hD2, by omega⟩
  · rintro σ H1 ⟨ms, k, c, t, sd, rfl, s1, hD, hl⟩
    exact ⟨_, rfl, q D ms _ s1 nD hD⟩

def spBox (K : PySem.W.Frag) : Sp := fun vs H Q _ => ∃ (a : Addr) (ns : List Int), vs = [.ref a, .int 0, .int 63] ∧ SqL K H a (ns.map V.int) ∧
  ∀ (b d : Addr) (H' : Hp), Same H H' → H b = none → BoxAt H' b d → Q (.ref b) H'
theorem scBox : FnScope ["script", "first", "last"] ["script", "first", "last"] (defScope sBox) := ⟨rfl, rfl, rfl, by decide +kernel, rfl, by decide +kernel, by decide +kernel⟩
theorem ok_box {f : Addr} {fd : FuncData} (cDigits : Cal P w K mg base 2 "_law_digits" (spDigits K) []) (F : Fun K "_law_box" "_law_box" sBox f fd) : FnOk P w K mg base CX0 3 f fd ["script", "first", "last"] (spBox K) := by
  refine F.ok scBox (fun vs H Q E h => ?_) (fun cdv A outer s H vs Q E hr h => ?_)
  · obtain ⟨a, ns, rfl, _⟩ := h
    rfl
  obtain ⟨a, ns, rfl, hS, q⟩ := h
  refine ⟨_, pss_one (ps_ret (pe_lst (pa_cons (pe_c cDigits hr (by decide) rfl (pa_cons (pv 0) (pa_cons (pv 1) (pa_cons (pv 2) pa_nil)))) (pa_cons pe_int pa_nil)))), ?_⟩
  refine ⟨_, rfl, _, rfl, _, rfl, a, ns, rfl, hS, fun d ms H1 s1 n1 h1 => ⟨by show 2 ≤ sizeLine; decide, fun b nb => ?_⟩⟩
  have ne : d ≠ b := ne_of_none h1 nb
  exact q b d _ (s1.trans (same_new nb _)) (s1.free nb) ⟨ms, 0, upd_same, by rw [upd_ne ne]; exact h1, Int.le_refl 0, ne⟩
/-! ### name, kinds -/
def spName : Sp := fun vs H Q _ => ∃ (b d : Addr), vs = [.ref b] ∧ BoxAt H b d ∧ ∀ (x : Str) (H' : Hp), x ∈ N8 → But b H H' → BoxAt H' b d → Q (.str x) H'
theorem scName : FnScope ["box"] ["box"] (defScope sName) := ⟨rfl, rfl, rfl, by decide +kernel, rfl, by decide +kernel, by decide +kernel⟩
theorem item_lt {xs : List V} {r : Int} {n : Nat} (h0 : 0 ≤ r) (h : r < (n : Int)) (hn : xs.length = n) : ∃ v, v ∈ xs ∧ atI xs r = some v := by
  have hk : r.toNat < xs.length := by omega
  have e : r = ((r.toNat : Nat) : Int) := by omega
  exact ⟨xs[r.toNat], List.getElem_mem hk, at_of e (List.getElem?_eq_getElem hk)⟩
theorem ok_name {f : Addr} {fd : FuncData} (cDraw : Cal P w K mg base 1 "_law_draw" spDraw []) (F : Fun K "_law_name" "_law_name" sName f fd) : FnOk P w K mg base CX0 2 f fd ["box"] spName := by
  refine F.ok scName (fun vs H Q E h => ?_) (fun cdv A outer s H vs Q E hr h => ?_)
  · obtain ⟨b, d, rfl, _⟩ := h
    rfl
  obtain ⟨b, d, rfl, hB, q⟩ := h
  refine ⟨_, pss_one (ps_ret (pe_ix ix_list (pe_lst (pa_cons pe_str (pa_cons pe_str (pa_cons pe_str (pa_cons pe_str (pa_cons pe_str (pa_cons pe_str (pa_cons pe_str (pa_cons pe_str pa_nil)))))))))
    (pe_c cDraw hr (by decide) rfl (pa_cons (pv 0) (pa_cons pe_int pa_nil))) (fun _ _ => rfl))), ?_⟩
  refine ⟨by show 8 ≤ sizeLine; decide, fun p hp => ⟨_, rfl, b, d, 8, rfl, hB.same (same_new hp _), by decide, fun r H1 r0 r1 b1 x1 => ?_⟩⟩
  have npb : p ≠ b := fun e => by
    obtain ⟨ns, i, h1, _⟩ := hB
    rw [e, h1] at hp
    cases hp
  obtain ⟨v, hv, ha⟩ := item_lt (xs := [.str "x", .str "y", .str "z", .str "v0", .str "v1", .str "s", .str "t1", .str "a"]) (n := 8) r0 r1 rfl
  refine ⟨p, _, _, v, rfl, rfl, SqL.of (b1 _ _ npb upd_same), ha, ?_⟩
  have sv : ∃ x, v = V.str x ∧ x ∈ N8 := by
    simp only [List.mem_cons, List.not_mem_nil, or_false] at hv
    rcases hv with rfl | rfl | rfl | rfl | rfl | rfl | rfl | rfl <;> exact ⟨_, rfl, by simp [N8]⟩
  obtain ⟨x, rfl, h8⟩ := sv
  exact q x H1 h8 ((But.of_same (same_new hp _)).trans b1) x1
end
end K2

set_option Elab.async false
set_option linter.all false
set_option maxRecDepth 100000
set_option maxHeartbeats 4000000
namespace K2
open PySem L2 Fo
open C8 (Cal pe_c pss_cut)
section
variable {P : Program} {w : World} {K : PySem.W.Frag} {mg : Str → Option Value} {base : Heap}
def PairAt (K : PySem.W.Frag) (H : Hp) (u : V) : Prop := ∃ (p : Addr) (n : Str) (pl : Int), u = .ref p ∧ SqT K H p [.str n, .int pl] ∧ 1 ≤ pl ∧ pl ≤ 2 ∧ n ∈ R4
def KindsAt (K : PySem.W.Frag) (H : Hp) (v : V) : Prop := ∃ (a : Addr) (us : List V), v = .ref a ∧ SqT K H a us ∧ us.length ≤ 2 ∧ ∀ u ∈ us, PairAt K H u
theorem PairAt.tk {H H' : Hp} {u : V} (x : PairAt K H u) (t : Tk K H H') : PairAt K H' u :=
  let ⟨p, n, pl, e, h, l⟩ := x; ⟨p, n, pl, e, t _ _ h, l⟩
theorem KindsAt.tk {H H' : Hp} {v : V} (x : KindsAt K H v) (t : Tk K H H') : KindsAt K H' v :=
  let ⟨a, us, e, h, l, m⟩ := x; ⟨a, us, e, t _ _ h, l, fun u hu => (m u hu).tk t⟩
theorem pair_new {H : Hp} {p : Addr} (n : Str) (pl : Int) (h : 1 ≤ pl ∧ pl ≤ 2 ∧ n ∈ R4) : PairAt K (upd H p (.tup [.str n, .int pl])) (.ref p) := ⟨p, n, pl, rfl, SqT.of upd_same, h⟩
theorem kinds_new {H : Hp} {a : Addr} {us : List V} (hn : H a = none) (l : us.length ≤ 2) (m : ∀ u ∈ us, PairAt K H u) : KindsAt K (upd H a (.tup us)) (.ref a) :=
  ⟨a, us, rfl, SqT.of upd_same, l, fun u hu => (m u hu).tk (tk_new hn _)⟩
def spKinds (K : PySem.W.Frag) : Sp := fun vs H Q _ => ∃ (b d : Addr), vs = [.ref b] ∧ BoxAt H b d ∧ ∀ (v : V) (H' : Hp), But b H H' → BoxAt H' b d → KindsAt K H' v → Q v H'
theorem scKinds : FnScope ["box"] ["box"] (defScope sKinds) := ⟨rfl, rfl, rfl, by decide +kernel, rfl, by decide +kernel, by decide +kernel⟩
theorem l2 : (2 : Nat) ≤ sizeLine := by decide
theorem l1 : (1 : Nat) ≤ sizeLine := by decide
theorem ok_kinds {f : Addr} {fd : FuncData} (cDraw : Cal P w K mg base 1 "_law_draw" spDraw []) (F : Fun K "_law_kinds" "_law_kinds" sKinds f fd) : FnOk P w K mg base CX0 2 f fd ["box"] (spKinds K) := by
  refine F.ok scKinds (fun vs H Q E h => ?_) (fun cdv A outer s H vs Q E hr h => ?_)
  · obtain ⟨b, d, rfl, _⟩ := h
    rfl
  obtain ⟨b, d, rfl, hB, q⟩ := h
  refine ⟨_, pss_one (ps_ret (pe_ix ix_list (pe_lst
      (pa_cons (pe_tup (pa_cons (pe_tup (pa_cons pe_str (pa_cons pe_int pa_nil))) pa_nil))
      (pa_cons (pe_tup (pa_cons (pe_tup (pa_cons pe_str (pa_cons pe_int pa_nil))) (pa_cons (pe_tup (pa_cons pe_str (pa_cons pe_int pa_nil))) pa_nil)))
      (pa_cons (pe_tup (pa_cons (pe_tup (pa_cons pe_str (pa_cons pe_int pa_nil))) (pa_cons (pe_tup (pa_cons pe_str (pa_cons pe_int pa_nil))) pa_nil)))
      (pa_cons (pe_tup (pa_cons (pe_tup (pa_cons pe_str (pa_cons pe_int pa_nil))) (pa_cons (pe_tup (pa_cons pe_str (pa_cons pe_int pa_nil))) pa_nil)))
      (pa_cons (pe_tup pa_nil) pa_nil))))))
    (pe_c cDraw hr (by decide) rfl (pa_cons (pv 0) (pa_cons pe_int pa_nil))) (fun _ _ => rfl))), ?_⟩
  refine ⟨l2, fun p1 n1 => ⟨l1, fun a1 m1 => ?_⟩⟩
  have k1 := kinds_new (K := K) m1 (us := [.ref p1]) (by show 1 ≤ 2; omega) (fun u hu => by rw [List.mem_singleton.mp hu]; exact pair_new "E" 2 ⟨by decide, by decide, by simp [R4]⟩)
  have s1 := (same_new n1 (.tup [.str "E", .int 2])).trans (same_new m1 (.tup [.ref p1]))
  refine ⟨l2, fun p2 n2 => ⟨l2, fun p3 n3 => ⟨l2, fun a2 m2 => ?_⟩⟩⟩
  have t2 := (same_new n2 (.tup [.str "E", .int 2])).trans ((same_new n3 (.tup [.str "P", .int 1])).trans (same_new m2 (.tup [.ref p2, .ref p3])))
  have k2 := kinds_new (K := K) m2 (us := [.ref p2, .ref p3]) (Nat.le_refl 2) (fun u hu => by
    rcases List.mem_cons.mp hu with e | e
    · rw [e]; exact (pair_new "E" 2 ⟨by decide, by decide, by simp [R4]⟩).tk (tk_new n3 _)
    · rw [List.mem_singleton.mp e]; exact pair_new "P" 1 ⟨by decide, by decide, by simp [R4]⟩)
  refine ⟨l2, fun p4 n4 => ⟨l2, fun p5 n5 => ⟨l2, fun a3 m3 => ?_⟩⟩⟩
  have t3 := (same_new n4 (.tup [.str "P", .int 1])).trans ((same_new n5 (.tup [.str "Q", .int 1])).trans (same_new m3 (.tup [.ref p4, .ref p5])))
  have k3 := kinds_new (K := K) m3 (us := [.ref p4, .ref p5]) (Nat.le_refl 2) (fun u hu => by
    rcases List.mem_cons.mp hu with e | e
    · rw [e]; exact (pair_new "P" 1 ⟨by decide, by decide, by simp [R4]⟩).tk (tk_new n5 _)
    · rw [List.mem_singleton.mp e]; exact pair_new "Q" 1 ⟨by decide, by decide, by simp [R4]⟩)
  refine ⟨l2, fun p6 n6 => ⟨l2, fun p7 n7 => ⟨l2, fun a4 m4 => ?_⟩⟩⟩
  have t4 := (same_new n6 (.tup [.str "E", .int 2])).trans ((same_new n7 (.tup [.str "F", .int 2])).trans (same_new m4 (.tup [.ref p6, .ref p7])))
  have k4 := kinds_new (K := K) m4 (us := [.ref p6, .ref p7]) (Nat.le_refl 2) (fun u hu => by
    rcases List.mem_cons.mp hu with e | e
    · rw [e]; exact (pair_new "E" 2 ⟨by decide, by decide, by simp [R4]⟩).tk (tk_new n7 _)
    · rw [List.mem_singleton.mp e]; exact pair_new "F" 2 ⟨by decide, by decide, by simp [R4]⟩)
  refine ⟨Nat.zero_le _, fun a5 m5 => ⟨by show 5 ≤ sizeLine; decide, fun L nL => ?_⟩⟩
  have k5 := kinds_new (K := K) m5 (us := []) (Nat.zero_le 2) (fun u hu => nomatch hu)
  have t5 := same_new m5 (.tup [])
  have tL := same_new nL (.lst [.ref a1, .ref a2, .ref a3, .ref a4, .ref a5])
  have all := s1.trans (t2.trans (t3.trans (t4.trans (t5.trans tL))))
  have k5' := k5.tk (.of_same tL)
  have k4' := k4.tk (.of_same (t5.trans tL))
  have k3' := k3.tk (.of_same (t4.trans (t5.trans tL)))
  have k2' := k2.tk (.of_same (t3.trans (t4.trans (t5.trans tL))))
  have k1' := k1.tk (.of_same (t2.trans (t3.trans (t4.trans (t5.trans tL)))))
  have hB' := hB.same all
  refine ⟨_, rfl, b, d, 5, rfl, hB', by decide, fun r H1 r0 r1 b1 x1 => ?_⟩
  have nLb : L ≠ b := fun e => by
    obtain ⟨ns, i, h1, _⟩ := hB
    have z := (s1.trans (t2.trans (t3.trans (t4.trans t5)))) _ _ h1
    rw [e, z] at nL
    cases nL
  obtain ⟨v, hv, ha⟩ := item_lt (xs := [.ref a1, .ref a2, .ref a3, .ref a4, .ref a5]) (n := 5) r0 r1 rfl
  refine ⟨L, _, _, v, rfl, rfl, SqL.of (b1 _ _ nLb upd_same), ha, q v H1 ((But.of_same all).trans b1) x1 ?_⟩
  have T := b1.tk (K := K) hB'
  simp only [List.mem_cons, List.not_mem_nil, or_false] at hv
  rcases hv with rfl | rfl | rfl | rfl | rfl
  · exact k1'.tk T
  · exact k2'.tk T
  · exact k3'.tk T
  · exact k4'.tk T
  · exact k5'.tk T
end
end K2

set_option Elab.async false
set_option linter.all false
set_option maxRecDepth 100000
set_option maxHeartbeats 4000000
namespace K2
open PySem L2 Fo
open C8 (Cal pe_c pss_cut)
/-- how many parts a formula drawn with room r has at most -/
def cb (r : Nat) : Nat := if r < 2 then 1 else 2 * r
theorem cb_mono {q r : Nat} (h : q ≤ r) : cb q ≤ cb r := by
  unfold cb
  split <;> split <;> omega
mutual
def WF : Fm → Prop
  | .rel n xs => n ∈ R4 ∧ xs ≠ [] ∧ xs.length ≤ 2 ∧ ∀ x ∈ xs, x ∈ N8
  | .same x y => x ∈ N8 ∧ y ∈ N8
  | .neg f => WF f
  | .con _ fs => WFs fs
  | .qu _ x f => x ∈ N8 ∧ WF f
def WFs : List Fm → Prop
  | [] => True
  | f :: fs => WF f ∧ WFs fs
end
theorem WFs.of : ∀ {fs : List Fm}, (∀ f ∈ fs, WF f) → WFs fs
  | [], _ => by rw [WFs]; trivial
  | f :: fs, h => by rw [WFs]; exact ⟨h f List.mem_cons_self, WFs.of fun g hg => h g (List.mem_cons_of_mem _ hg)⟩
theorem WFs.mem : ∀ {fs : List Fm} {f : Fm}, WFs fs → f ∈ fs → WF f
  | g :: fs, f, h, hm => by
    rw [WFs] at h
    rcases List.mem_cons.mp hm with e | e
    · rw [e]; exact h.1
    · exact h.2.mem e
structure Fine (r : Nat) (f : Fm) : Prop where
  ct : f.ct ≤ cb r
  dp : f.dp ≤ r
  nm : f.nm.length ≤ 2 * f.ct
  wf : WF f
theorem fine_rel {n : Str} {xs : List Str} {r : Nat} (h : xs.length ≤ 2) (h4 : n ∈ R4) (h0 : xs ≠ []) (h8 : ∀ x ∈ xs, x ∈ N8) : Fine r (.rel n xs) := ⟨by show 1 ≤ cb r; unfold cb; split <;> omega, by show 0 ≤ r; omega, by show xs.length ≤ 2 * 1; omega, by rw [WF]; exact ⟨h4, h0, h, h8⟩⟩
theorem fine_same {x y : Str} {r : Nat} (hx : x ∈ N8) (hy : y ∈ N8) : Fine r (.same x y) := ⟨by show 1 ≤ cb r; unfold cb; split <;> omega, by show 0 ≤ r; omega, by show 2 ≤ 2 * 1; omega, by rw [WF]; exact ⟨hx, hy⟩⟩
theorem cb_one {r : Nat} (h : 2 ≤ r) : 1 + cb (r - 1) ≤ cb r := by
  unfold cb
  split <;> split <;> omega
theorem fine_neg {f : Fm} {r : Nat} (h : 2 ≤ r) (x : Fine (r - 1) f) : Fine r (.neg f) := by
  have a := x.ct; have b := x.dp; have c := x.nm; have d := cb_one h
  refine ⟨?_, ?_, ?_, by rw [WF]; exact x.wf⟩
  · show 1 + f.ct ≤ cb r; omega
  · show 1 + f.dp ≤ r; omega
  · show f.nm.length ≤ 2 * (1 + f.ct); omega
theorem fine_qu {f : Fm} {b : Bool} {y : Str} {r : Nat} (h : 2 ≤ r) (hy : y ∈ N8) (x : Fine (r - 1) f) : Fine r (.qu b y f) := by
  have a := x.ct; have e := x.dp; have c := x.nm; have d := cb_one h
  refine ⟨?_, ?_, ?_, by rw [WF]; exact ⟨hy, x.wf⟩⟩
  · show 1 + f.ct ≤ cb r; omega
  · show 1 + f.dp ≤ r; omega
  · show f.nm.length + 1 ≤ 2 * (1 + f.ct); omega
theorem sums {q : Nat} : ∀ {fs : List Fm}, (∀ f ∈ fs, Fine q f) → Fm.cts fs ≤ fs.length * cb q ∧ (Fm.nms fs).length ≤ 2 * Fm.cts fs
  | [], _ => ⟨Nat.zero_le _, Nat.zero_le _⟩
  | f :: fs, h => by
    have ih := sums (fs := fs) fun g hg => h g (List.mem_cons_of_mem _ hg)
    have x := h f List.mem_cons_self
    have a := x.ct; have c := x.nm
    rw [Fm.cts, Fm.nms, List.length_cons, List.length_append, Nat.succ_mul]
    omega
theorem fine_con {fs : List Fm} {b : Bool} {r q : Nat} (h : 2 ≤ r) (hq : fs.length * q ≤ r - 1) (h3 : fs.length ≤ 3) (x : ∀ f ∈ fs, Fine q f) : Fine r (.con b fs) := by
  obtain ⟨a, c⟩ := sums x
  refine ⟨?_, ?_, ?_, by rw [WF]; exact WFs.of fun f hf => (x f hf).wf⟩
  · show 1 + Fm.cts fs ≤ cb r
    have d : 1 + fs.length * cb q ≤ cb r := by
      unfold cb
      have h4 : fs.length = 0 ∨ fs.length = 1 ∨ fs.length = 2 ∨ fs.length = 3 := by omega
      rcases h4 with e | e | e | e <;> rw [e] at hq ⊢ <;> split <;> split <;> omega
    omega
  · show Fm.dps fs ≤ r
    refine Fm.dps_le fun f hf => ?_
    have e := (x f hf).dp
    have l : 1 ≤ fs.length := by cases fs with
      | nil => cases hf
      | cons g gs => rw [List.length_cons]; omega
    have : 1 * q ≤ fs.length * q := Nat.mul_le_mul_right q l
    omega
  · show (Fm.nms fs).length ≤ 2 * (1 + Fm.cts fs)
    omega
section
variable {P : Program} {w : World} {K : PySem.W.Frag} {mg : Str → Option Value} {base : Heap}
def spBelow (K : PySem.W.Frag) (n : Nat) : Sp := fun vs H Q _ => ∃ (b d : Addr) (kv : V) (r : Nat) (left : Int), vs = [.ref b, kv, .int (r : Int), .int left] ∧ BoxAt H b d ∧ KindsAt K H kv ∧ r < n ∧
  ∀ (v : V) (f : Fm) (H' : Hp), But b H H' → BoxAt H' b d → FmAt K H' v f → Fine r f → Q v H'
abbrev nBelow : List Str := ["box", "kinds", "room", "left", "kind", "name", "places", "k", "many", "rows"]
abbrev pBelow : List Str := ["box", "kinds", "room", "left"]
theorem scBelow : FnScope nBelow pBelow (defScope sBelow) := ⟨rfl, rfl, rfl, by decide +kernel, rfl, by decide +kernel, by decide +kernel⟩
theorem box_ne {H : Hp} {b d p : Addr} (x : BoxAt H b d) (h : H p = none) : p ≠ b ∧ p ≠ d := by
  obtain ⟨ns, i, h1, h2, _⟩ := x
  exact ⟨fun e => (by rw [e, h1] at h; cases h), fun e => (by rw [e, h2] at h; cases h)⟩
theorem BoxAt.new {H : Hp} {b d p : Addr} {o : HO} (x : BoxAt H b d) (h : H p = none) : BoxAt (upd H p o) b d := x.same (same_new h o)
theorem But.new {H : Hp} {b p : Addr} (o : HO) (h : H p = none) : But b H (upd H p o) := .of_same (same_new h o)
/-- a list of ours that is written -/
theorem But.put {H0 H : Hp} {b D : Addr} (o : HO) (x : But b H0 H) (h : H0 D = none) : But b H0 (upd H D o) := fun a u n e => by
  rw [upd_ne (ne_of_none e h)]
  exact x a u n e
theorem BoxAt.put {H0 H : Hp} {b d D : Addr} {o : HO} (x : BoxAt H0 b d) (h : H0 D = none) (y : BoxAt H b d) : BoxAt (upd H D o) b d := by
  obtain ⟨n1, n2⟩ := box_ne x h
  obtain ⟨ns, i, h1, h2, h3, h4⟩ := y
  exact ⟨ns, i, by rw [upd_ne n1.symm]; exact h1, by rw [upd_ne n2.symm]; exact h2, h3, h4⟩
end
end K2

set_option Elab.async false
set_option linter.all false
set_option maxRecDepth 100000
set_option maxHeartbeats 4000000
namespace K2
open PySem L2 Fo
open C8 (Cal pe_c pss_cut)
section
variable {P : Program} {w : World} {K : PySem.W.Frag} {mg : Str → Option Value} {base : Heap}
theorem mk_same {H : Hp} {p : Addr} {x y : Str} : FmAt K (upd H p (.tup [.str "same", .str x, .str y])) (.ref p) (.same x y) := by
  rw [FmAt]
  exact ⟨p, rfl, SqT.of upd_same⟩
theorem mk_rel {H : Hp} {p t : Addr} {n : Str} {xs : List Str} (h : SqT K H t (xs.map V.str)) (hp : H p = none) : FmAt K (upd H p (.tup [.str "rel", .str n, .ref t])) (.ref p) (.rel n xs) := by
  rw [FmAt]
  exact ⟨p, t, rfl, SqT.of upd_same, tk_new hp _ _ _ h⟩
theorem mk_neg {H : Hp} {p : Addr} {u : V} {f : Fm} (h : FmAt K H u f) (hp : H p = none) : FmAt K (upd H p (.tup [.str "not", u])) (.ref p) (.neg f) := by
  rw [FmAt]
  exact ⟨p, u, rfl, SqT.of upd_same, h.tk (tk_new hp _)⟩
theorem mk_con {H : Hp} {p t : Addr} {us : List V} {b : Bool} {fs : List Fm} (h : SqT K H t us) (k : FmsAt K H us fs) (hp : H p = none) : FmAt K (upd H p (.tup [.str (cn b), .ref t])) (.ref p) (.con b fs) := by
  rw [FmAt]
  exact ⟨p, t, us, rfl, SqT.of upd_same, tk_new hp _ _ _ h, k.tk (tk_new hp _)⟩
theorem mk_qu {H : Hp} {p : Addr} {u : V} {b : Bool} {x : Str} {f : Fm} (h : FmAt K H u f) (hp : H p = none) : FmAt K (upd H p (.tup [.str (qn b), .str x, u])) (.ref p) (.qu b x f) := by
  rw [FmAt]
  exact ⟨p, u, rfl, SqT.of upd_same, h.tk (tk_new hp _)⟩
theorem l3 : (3 : Nat) ≤ sizeLine := by decide
theorem room_div {r : Nat} {m : Int} (hr : 2 ≤ r) (h1 : m < 4) : ∃ qq : Nat, (1 ≤ m → ((r : Int) - 1).fdiv (if m > 1 then m else 1) = (qq : Int) ∧ qq < r) ∧ m.toNat * qq ≤ r - 1 := by
  have e : ∀ j : Int, 0 < j → ((r : Int) - 1).fdiv j = ((r : Int) - 1) / j := fun j hj => Int.fdiv_eq_ediv_of_nonneg _ (by omega)
  have h4 : m < 1 ∨ m = 1 ∨ m = 2 ∨ m = 3 := by omega
  rcases h4 with h | h | h | h
  · exact ⟨0, fun z => absurd z (by omega), by omega⟩
  · subst h
    refine ⟨r - 1, fun _ => ⟨?_, by omega⟩, (by show 1 * (r - 1) ≤ r - 1; omega)⟩
    rw [if_neg (by omega), e 1 (by omega)]
    omega
  · subst h
    refine ⟨(r - 1) / 2, fun _ => ⟨?_, by omega⟩, (by show 2 * ((r - 1) / 2) ≤ r - 1; omega)⟩
    rw [if_pos (by omega), e 2 (by omega)]
    omega
  · subst h
    refine ⟨(r - 1) / 3, fun _ => ⟨?_, by omega⟩, (by show 3 * ((r - 1) / 3) ≤ r - 1; omega)⟩
    rw [if_pos (by omega), e 3 (by omega)]
    omega
theorem ok_below {n : Nat} {f : Addr} {fd : FuncData} (B : Bt mg) (cDraw : Cal P w K mg base 1 "_law_draw" spDraw []) (cName : Cal P w K mg base 2 "_law_name" spName []) (cBelow : Cal P w K mg base (n + 2) "_law_below" (spBelow K n) [])
    (F : Fun K "_law_below" "_law_below" sBelow f fd) : FnOk P w K mg base CX0 (n + 3) f fd pBelow (spBelow K (n + 1)) := by
  refine F.ok scBelow (fun vs H Q E h => ?_) (fun cdv A outer s H vs Q E hr h => ?_)
  · obtain ⟨b, d, kv, r, left, rfl, _⟩ := h
    rfl
  obtain ⟨b, d, kv, r, left, rfl, hB, hK, hn, q⟩ := h
  have nd := scBelow.nd
  have hr1 : Room 1 _ := hr.mono (by omega)
  have hr2 : Room 2 _ := hr.mono (by omega)
  refine ⟨_, (pss_cons (ps_set (i := 4) nd rfl (.inl rfl) (pe_c cDraw hr1 (by decide) rfl (pa_cons (pv 0) (pa_cons pe_int pa_nil))))
    (pss_cons (ps_if (PW.pt (pw_or (pt_cmpR op_lt (pv 2) pe_int (nomark _)) (pw_or1 (pt_cmpR op_lt (pv 4) pe_int (nomark _))))) (pss_cons (ps_if (PW.pt (pw_or (pt_cmpR op_eq (pe_callB call_len_seq rfl B.len PySem.boot_len (pa_cons (pv 1) pa_nil)) pe_int (nomark _)) (pw_or1 (pt_cmpR op_eq (pe_c cDraw hr1 (by decide) rfl (pa_cons (pv 0) (pa_cons pe_int pa_nil))) pe_int (nomark _))))) (pss_one (ps_ret (pe_tup (pa_cons pe_str (pa_cons (pe_c cName hr2 (by decide) rfl (pa_cons (pv 0) pa_nil)) (pa_cons (pe_c cName hr2 (by decide) rfl (pa_cons (pv 0) pa_nil)) pa_nil)))))) pss_nil)
    (pss_cons (ps_asg (pe_ix ix_tup (pv 1) (pe_c cDraw hr1 (by decide) rfl (pa_cons (pv 0) (pa_cons (pe_callB call_len_seq rfl B.len PySem.boot_len (pa_cons (pv 1) pa_nil)) pa_nil))) (fun _ _ => rfl)) (pg_tup rfl (pgs_cons (pg_name (i := 5) nd rfl (.inl rfl)) (pgs_cons (pg_name (i := 6) nd rfl (.inl rfl)) pgs_nil))))
    (pss_one (ps_ret (pe_tup (pa_cons pe_str (pa_cons (pv 5) (pa_cons (pe_callTy call_tuple_of rfl B.tuple (by decide +kernel) (pa_cons (pe_lc (own := [("k", 7)]) (g := gName 7) (tt := tYes) rfl nd (pi_range1 rfl B.range (pa_cons (pv 6) pa_nil)) (blkOk_by (own := [("k", 7)]) (N := nBelow) (sc := defScope sBelow) (by decide +kernel)) (fun _ _ _ _ _ => (pg_name (i := 7) nd rfl (Or.inl rfl))) (fun _ _ _ _ _ => pts_nil) (fun _ _ _ _ _ => (pe_c cName hr2 (by decide) rfl (pa_cons (pv 0) pa_nil)))) pa_nil)) pa_nil)))))))) pss_nil)
    (pss_cons (ps_if (PW.pt (pw_or (pt_cmpR op_eq (pv 4) pe_int (nomark _)) (pw_or1 (PW.pt (pw_and (pt_cmpR op_lt (pv 4) pe_int (nomark _)) (pw_and1 (pt_cmpR op_eq (pv 3) pe_int (nomark _)))))))) (pss_one (ps_ret (pe_tup (pa_cons pe_str (pa_cons (pe_c cBelow hr (Nat.le_refl _) rfl (pa_cons (pv 0) (pa_cons (pv 1) (pa_cons (pe_op op_sub (pv 2) pe_int) (pa_cons (pv 3) pa_nil))))) pa_nil))))) pss_nil)
    (pss_cons (ps_if (pt_cmpR op_lt (pv 4) pe_int (nomark _)) (pss_one (ps_ret (pe_tup (pa_cons (pe_ix ix_list (pe_lst (pa_cons pe_str (pa_cons pe_str pa_nil))) (pe_op op_sub (pv 4) pe_int) (fun _ _ => rfl)) (pa_cons (pe_c cName hr2 (by decide) rfl (pa_cons (pv 0) pa_nil)) (pa_cons (pe_c cBelow hr (Nat.le_refl _) rfl (pa_cons (pv 0) (pa_cons (pv 1) (pa_cons (pe_op op_sub (pv 2) pe_int) (pa_cons (pe_op op_sub (pv 3) pe_int) pa_nil))))) pa_nil)))))) pss_nil)
    (pss_cons (ps_set (i := 8) nd rfl (.inl rfl) (pe_c cDraw hr1 (by decide) rfl (pa_cons (pv 0) (pa_cons pe_int pa_nil))))
    (pss_cons (ps_set (i := 9) nd rfl (.inl rfl) (pe_lst pa_nil))
    (pss_cons (ps_for PassesOwn.never rfl (pi_range1 rfl B.range (pa_cons (pv 8) pa_nil)) (pg_name (i := 7) nd rfl (.inl rfl)) (pss_one (ps_expr (pe_bm PySem.F.plainAttrs_list PySem.F.slot_list_append PySem.F.type_list_append mt_append (pv 9) (pa_cons (pe_c cBelow hr (Nat.le_refl _) rfl (pa_cons (pv 0) (pa_cons (pv 1) (pa_cons (pe_op op_fdivN (pe_op op_sub (pv 2) pe_int) (pe_callB (call_max2 rfl) rfl B.max (by decide +kernel) (pa_cons pe_int (pa_cons (pv 8) pa_nil)))) (pa_cons (pv 3) pa_nil))))) pa_nil)))))
    (pss_one (ps_ret (pe_tup (pa_cons (pe_ix ix_list (pe_lst (pa_cons pe_str (pa_cons pe_str pa_nil))) (pe_op op_mod (pv 4) pe_int) (fun _ _ => rfl)) (pa_cons (pe_callTy call_tuple_of rfl B.tuple (by decide +kernel) (pa_cons (pv 9) pa_nil)) pa_nil)))))))))))), ?_⟩
  refine ⟨_, rfl, b, d, 10, rfl, hB, by decide, fun kd H1 k0 k1 b1 x1 => ?_⟩
  have hK2 := hK.tk (b1.tk hB)
  have p2 : ∀ {y : Int}, decide (y < 2) = true → y < 2 := of_decide_eq_true
  refine (fun leaf => ⟨_, rfl, _, _, rfl, rfl, _, rfl, ite2 (fun _ => leaf) (fun c1 => ⟨_, rfl, _, _, rfl, rfl, _, rfl, ite2 (fun _ => leaf) (fun c2 => ?rest)⟩)⟩) ?leaf
  case leaf =>
    obtain ⟨ka, us, rfl, hS, hl2, hm⟩ := hK2
    refine ⟨_, rfl, ka, us, rfl, .inr hS, rfl, _, rfl, ite2 (fun _ => ?_) (fun c3 => ⟨_, rfl, b, d, 4, rfl, x1, by decide, fun r2 H2 _ _ b2 x2 => ⟨rfl, _, rfl, ite2 (fun _ => ?_) (fun _ => ?_)⟩⟩)⟩
    · refine ⟨_, rfl, b, d, rfl, x1, fun x Ha hx ba xa => ⟨_, rfl, b, d, rfl, xa, fun y Hb hy bb xb => ⟨l3, fun p hp => ?_⟩⟩⟩
      exact q _ (.same x y) _ ((b1.trans (ba.trans bb)).trans (.new _ hp)) (xb.new hp) mk_same (fine_same hx hy)
    · refine ⟨_, rfl, b, d, rfl, x2, fun x Ha hx ba xa => ⟨_, rfl, b, d, rfl, xa, fun y Hb hy bb xb => ⟨l3, fun p hp => ?_⟩⟩⟩
      exact q _ (.same x y) _ (((b1.trans b2).trans (ba.trans bb)).trans (.new _ hp)) (xb.new hp) mk_same (fine_same hx hy)
    · have hS2 := b2.tk x1 _ _ hS
      have hm2 : ∀ u ∈ us, PairAt K H2 u := fun u hu => (hm u hu).tk (b2.tk x1)
      have ne : 0 < us.length := by
        rcases Nat.eq_zero_or_pos us.length with z | z
        · exact absurd (by rw [z]; rfl) c3
        · exact z
      refine ⟨_, rfl, _, rfl, _, rfl, ka, us, rfl, .inr hS2, b, d, us.length, rfl, x2, by omega, fun r3 H3 r0 r1 b3 x3 => ?_⟩
      have hS3 := b3.tk x2 _ _ hS2
      obtain ⟨v, hv, ha⟩ := item_lt r0 r1 rfl
      obtain ⟨pr, nn, pl, rfl, hP, p1, p2, p4⟩ := (hm2 v hv).tk (b3.tk x2)
      refine ⟨ka, us, _, _, rfl, rfl, hS3, ha, pr, _, rfl, hP, rfl, ?_⟩
      have bb := (b1.trans b2).trans b3
      refine ⟨_, _, rfl, _, _, rfl, rfl, _, rfl, _, rfl, pl, rfl, by omega, by omega, fun D nD => lc_range (lo := 0) (n := pl.toNat) (fun i H' => ∃ xs : List Str, H' D = some (.lst (xs.map V.str)) ∧ xs.length = i ∧ But b H3 H' ∧ BoxAt H' b d ∧ ∀ x ∈ xs, x ∈ N8) ⟨[], upd_same, rfl, .new _ nD, x3.new nD, fun x hx => nomatch hx⟩ ?_ ?_⟩
      · rintro i H' hi ⟨xs, hD, hl, bk, xk, h8⟩
        refine ⟨rfl, _, rfl, b, d, rfl, xk, fun x Hx hx bx xx => ⟨xs.map V.str, bx _ _ (box_ne x3 nD).1 hD, lineOk (by rw [List.length_map]; omega), xs ++ [x], by rw [upd_same]; simp, by simp [hl], (bk.trans bx).put _ nD, x3.put nD xx, fun z hz => by rcases List.mem_append.mp hz with q | q; exact h8 z q; exact List.mem_singleton.mp q ▸ hx⟩⟩
      · rintro H' ⟨xs, hD, hl, bk, xk, h8⟩
        refine ⟨D, _, rfl, .inl ⟨SqL.of hD, fun t nt => ⟨l3, fun p np => ?_⟩⟩⟩
        refine q _ (.rel nn xs) _ (bb.trans (bk.trans ((But.new _ nt).trans (.new _ np)))) ((xk.new nt).new np) (mk_rel (SqT.of upd_same) np) (fine_rel (by omega) p4 (by intro z; rw [z] at hl; have : (0 : Nat) = pl.toNat := hl; omega) h8)
  case rest =>
    have h2 : 2 ≤ r := by
      have z : ¬ ((r : Int) < 2) := fun z => c1 (decide_eq_true z)
      omega
    have h3 : 3 ≤ kd := by
      have z : ¬ (kd < 3) := fun z => c2 (decide_eq_true z)
      omega
    have hrr : (r : Int) - 1 = ((r - 1 : Nat) : Int) := by omega
    refine (fun (leafN : _) (nextS : kd ≠ 3 → _) => ⟨_, rfl, rfl, _, rfl, ite2 (fun _ => leafN) (fun c4 => ⟨_, rfl, _, _, rfl, rfl, _, rfl, ite2
      (fun _ => ⟨_, rfl, rfl, _, rfl, ite2 (fun _ => leafN) (fun _ => nextS ?n1)⟩) (fun _ => nextS ?n2)⟩)⟩) ?leafN ?nextS
    case n1 => exact fun z => c4 (by rw [z]; rfl)
    case n2 => exact fun z => c4 (by rw [z]; rfl)
    case leafN =>
      refine ⟨_, rfl, _, rfl, _, rfl, _, _, rfl, rfl, _, rfl, b, d, kv, r - 1, left, ?_, x1, hK2, by omega, fun v f H2 b2 x2 fm fi => ⟨l2, fun p np => ?_⟩⟩
      · show [V.ref b, kv, V.int ((r : Int) - 1), V.int left] = _
        rw [hrr]
      · exact q _ (.neg f) _ ((b1.trans b2).trans (.new _ np)) (x2.new np) (mk_neg fm np) (fine_neg h2 fi)
    case nextS =>
      intro n3
      refine ⟨_, rfl, _, _, rfl, rfl, _, rfl, ite2 (fun c6 => ?_) (fun _ => ?_)⟩
      · have c6' : kd < 6 := of_decide_eq_true c6
        obtain ⟨bq, hq⟩ : ∃ bq, atI [V.str "some", V.str "all"] (kd - 4) = some (.str (qn bq)) := by
          have h : kd = 4 ∨ kd = 5 := by omega
          rcases h with h | h
          · exact ⟨true, at_of (j := 0) (by omega) rfl⟩
          · exact ⟨false, at_of (j := 1) (by omega) rfl⟩
        refine ⟨l2, fun L nL => ⟨_, rfl, _, _, rfl, rfl, L, _, _, _, rfl, rfl, SqL.of upd_same, hq, ?_⟩⟩
        have tL := tk_new (K := K) nL (.lst [V.str "some", V.str "all"])
        refine ⟨_, rfl, b, d, rfl, x1.new nL, fun x H2 hx b2 x2 => ?_⟩
        refine ⟨_, rfl, _, rfl, _, rfl, _, _, rfl, rfl, _, rfl, _, _, rfl, rfl, b, d, kv, r - 1, left - 1, ?_, x2, (hK2.tk tL).tk (b2.tk (x1.new nL)), by omega, fun v f H3 b3 x3 fm fi => ⟨l3, fun p np => ?_⟩⟩
        · show [V.ref b, kv, V.int ((r : Int) - 1), V.int (left - 1)] = _
          rw [hrr]
        · exact q _ (.qu bq x f) _ ((b1.trans ((But.new _ nL).trans (b2.trans b3))).trans (.new _ np)) (x3.new np) (mk_qu fm np) (fine_qu h2 hx fi)
      · refine ⟨_, rfl, b, d, 4, rfl, x1, by decide, fun m H2 m0 m1 b2 x2 => ⟨Nat.zero_le _, fun D nD => ?_⟩⟩
        have hK2 := hK2.tk (b2.tk x1)
        obtain ⟨qq, hqq, hq3⟩ := room_div h2 m1
        refine ⟨_, rfl, m, rfl, by omega, by omega, for_range (lo := 0) (n := m.toNat) (fun i σ H' => ∃ (us : List V) (fs : List Fm) (k : Option V), σ = [some (.ref b), some kv, some (.int (r : Int)), some (.int left), some (.int kd), none, none, k, some (.int m), some (.ref D)] ∧
          H' D = some (.lst us) ∧ FmsAt K H' us fs ∧ fs.length = i ∧ (∀ g ∈ fs, Fine qq g) ∧ But b H2 H' ∧ BoxAt H' b d) ⟨[], [], none, rfl, upd_same, .nil, rfl, fun g hg => (nomatch hg), .new _ nD, x2.new nD⟩ ?_ ?_⟩
        · rintro i σ H' hi ⟨us, fs, k, rfl, hD, hF, hl, hg, bk, xk⟩
          obtain ⟨e1, e2⟩ := hqq (by omega)
          refine ⟨_, rfl, .inl ⟨rfl, _, SqL.of hD⟩, _, rfl, _, rfl, _, rfl, _, _, rfl, rfl, _, rfl, 1, m, rfl, _, _, rfl, rfl, ⟨by split <;> omega, by split <;> omega⟩, _, rfl, b, d, kv, qq, left, ?_, xk, hK2.tk (bk.tk x2), by omega, fun v f Hx bx xx fm fi => ?_⟩
          · show [V.ref b, kv, V.int (((r : Int) - 1).fdiv (if m > 1 then m else 1)), V.int left] = _
            rw [e1]
          · have hDx := bx _ _ (box_ne x2 nD).1 hD
            refine ⟨D, us, _, rfl, rfl, hDx, lineOk (by rw [hF.length]; omega), us ++ [v], fs ++ [f], _, rfl, upd_same, ?_, by simp [hl], fun g h => ?_, (bk.trans bx).put _ nD, x2.put nD xx⟩
            · exact (FmsAt.append (.cons fm .nil) (hF.tk (bx.tk xk))).tk (tk_lst hDx _)
            · rcases List.mem_append.mp h with z | z
              · exact hg g z
              · rw [List.mem_singleton.mp z]; exact fi
        · rintro σ H' ⟨us, fs, k, rfl, hD, hF, hl, hg, bk, xk⟩
          obtain ⟨bc, hc⟩ : ∃ bc, atI [V.str "and", V.str "or"] (kd % 2) = some (.str (cn bc)) := by
            have h : kd % 2 = 0 ∨ kd % 2 = 1 := by omega
            rcases h with h | h
            · exact ⟨true, at_of (j := 0) (by omega) rfl⟩
            · exact ⟨false, at_of (j := 1) (by omega) rfl⟩
          refine ⟨l2, fun L nL => ⟨_, rfl, _, _, rfl, rfl, (by show (0 : Int) < 2; decide), L, _, _, _, rfl, rfl, SqL.of upd_same, hc, ?_⟩⟩
          have nDL : D ≠ L := ne_of_none hD nL
          refine ⟨_, rfl, D, us, rfl, .inl ⟨SqL.of (by rw [upd_ne nDL]; exact hD), fun t nt => ⟨l2, fun p np => ?_⟩⟩⟩
          refine q _ (.con bc fs) _ ((b1.trans (b2.trans (bk.trans ((But.new _ nL).trans (.new _ nt))))).trans (.new _ np)) (((xk.new nL).new nt).new np)
            (mk_con (SqT.of upd_same) ((hF.tk (tk_new nL _)).tk (tk_new nt _)) np) (fine_con h2 (by rw [hl]; exact hq3) (by omega) hg)
end
end K2

set_option Elab.async false
set_option linter.all false
set_option maxRecDepth 100000
set_option maxHeartbeats 4000000
namespace K2
open PySem L2 Fo
open C8 (Cal pe_c pss_cut)
section
variable {P : Program} {w : World} {K : PySem.W.Frag} {mg : Str → Option Value} {base : Heap}
/-! ### alone, guarded -/
def tg : Fm → Str
  | .rel _ _ => "rel"
  | .same _ _ => "same"
  | .neg _ => "not"
  | .con b _ => cn b
  | .qu b _ _ => qn b
theorem FmAt.tag {H : Hp} {v : V} {g : Fm} (h : FmAt K H v g) : ∃ (a : Addr) (r : List V), v = .ref a ∧ SqT K H a (.str (tg g) :: r) := by
  cases g with
  | rel n xs => rw [FmAt] at h; obtain ⟨a, t, rfl, h1, h2⟩ := h; exact ⟨a, _, rfl, h1⟩
  | same x y => rw [FmAt] at h; obtain ⟨a, rfl, h1⟩ := h; exact ⟨a, _, rfl, h1⟩
  | neg f => rw [FmAt] at h; obtain ⟨a, u, rfl, h1, h2⟩ := h; exact ⟨a, _, rfl, h1⟩
  | con b fs => rw [FmAt] at h; obtain ⟨a, t, us, rfl, h1, h2⟩ := h; exact ⟨a, _, rfl, h1⟩
  | qu b x f => rw [FmAt] at h; obtain ⟨a, u, rfl, h1, h2⟩ := h; exact ⟨a, _, rfl, h1⟩
theorem inF {x : V} {xs : List V} (h : inV x xs = false) : (V.bl (if false = true then !inV x xs else inV x xs)) = .bl false := by rw [h]; rfl
theorem inT {x : V} {xs : List V} (h : inV x xs = true) : (V.bl (if false = true then !inV x xs else inV x xs)) = .bl true := by rw [h]; rfl
def isC : Fm → Bool
  | .con _ _ => true
  | _ => false
def isQ : Fm → Bool
  | .qu _ _ _ => true
  | _ => false
theorem in_and (g : Fm) : inV (.str (tg g)) [.str "and", .str "or"] = isC g := by
  cases g with
  | rel n xs => show inV (.str "rel") _ = false; decide +kernel
  | same x y => show inV (.str "same") _ = false; decide +kernel
  | neg f => show inV (.str "not") _ = false; decide +kernel
  | con b fs => show inV (.str (cn b)) _ = true; cases b <;> decide +kernel
  | qu b x f => show inV (.str (qn b)) _ = false; cases b <;> decide +kernel
theorem in_some (g : Fm) : inV (.str (tg g)) [.str "some", .str "all"] = isQ g := by
  cases g with
  | rel n xs => show inV (.str "rel") _ = false; decide +kernel
  | same x y => show inV (.str "same") _ = false; decide +kernel
  | neg f => show inV (.str "not") _ = false; decide +kernel
  | con b fs => show inV (.str (cn b)) _ = false; cases b <;> decide +kernel
  | qu b x f => show inV (.str (qn b)) _ = true; cases b <;> decide +kernel
theorem inB {x : V} {xs : List V} {c : Bool} (h : inV x xs = c) : (V.bl (if false = true then !inV x xs else inV x xs)) = .bl c := by rw [h]; rfl
def spAlone (K : PySem.W.Frag) : Sp := fun vs H Q _ => ∃ (v : V) (f : Fm), vs = [v] ∧ FmAt K H v f ∧ ∀ (v' : V) (H' : Hp), Same H H' → FmAt K H' v' (Fm.bare f) → Q v' H'
abbrev nAlone : List Str := ["formula"]
theorem scAlone : FnScope nAlone ["formula"] (defScope sAlone) := ⟨rfl, rfl, rfl, by decide +kernel, rfl, by decide +kernel, by decide +kernel⟩
theorem ok_alone {f : Addr} {fd : FuncData} (B : Bt mg) (F : Fun K "alone" "alone" sAlone f fd) : FnOk P w K mg base CX0 1 f fd ["formula"] (spAlone K) := by
  refine F.ok scAlone (fun vs H Q E h => ?_) (fun cdv A outer s H vs Q E hr h => ?_)
  · obtain ⟨v, f, rfl, _⟩ := h
    rfl
  obtain ⟨v, fm, rfl, hF, q⟩ := h
  have nd := scAlone.nd
  refine ⟨_, (pss_cons (ps_while PassesOwn.never (PW.pt (pw_and (pt_cmpR op_in_seq (pe_ix ix_tup (pv 0) pe_int (fun _ _ => rfl)) (pe_tup (pa_cons pe_str (pa_cons pe_str pa_nil))) rfl) (pw_and1 (pt_cmpR op_eq (pe_callB call_len_seq rfl B.len PySem.boot_len (pa_cons (pe_ix ix_tup (pv 0) pe_int (fun _ _ => rfl)) pa_nil)) pe_int (nomark _))))) (pss_one (ps_set (i := 0) nd rfl (.inl rfl) (pe_ix ix_tup (pe_ix ix_tup (pv 0) pe_int (fun _ _ => rfl)) pe_int (fun _ _ => rfl)))))
    (pss_one (ps_ret (pv 0)))), ?_⟩
  refine ⟨fun m σ H' => ∃ (u : V) (g : Fm), σ = [some u] ∧ Same H H' ∧ FmAt K H' u g ∧ Fm.bare g = Fm.bare fm ∧ m = g.ct, ⟨_, v, fm, rfl, Same.refl _, hF, rfl, rfl⟩, ?_⟩
  rintro m σ H1 ⟨u, g, rfl, s1, hg, e, rfl⟩
  obtain ⟨a, r, rfl, h1⟩ := FmAt.tag hg
  refine ⟨_, rfl, a, _, _, _, rfl, rfl, h1, at_of (j := 0) rfl rfl, l2, fun T nT => ⟨T, _, rfl, .inr (SqT.of upd_same), rfl, rfl, _, inB (in_and g), ?_⟩⟩
  have s2 := same_new nT (.tup [V.str "and", V.str "or"])
  generalize upd H1 T (.tup [V.str "and", V.str "or"]) = H2 at s2 ⊢
  have hg2 := hg.tk (.of_same s2)
  have fin : Fm.isB g = true → Q (.ref a) H2 := fun z => q _ _ (s1.trans s2) (by rw [← e, Fm.bare_id z]; exact hg2)
  cases g with
  | con b fs =>
    rw [FmAt] at hg2
    obtain ⟨a', t, us, e1, h2, h3, h4⟩ := hg2
    cases e1
    refine ⟨_, rfl, a, _, _, _, rfl, rfl, h2, at_of (j := 1) rfl rfl, t, us, rfl, .inr h3, rfl, _, rfl, ite2 (fun c => ⟨_, fun σ' H' h => h, ?_⟩) (fun c => ⟨_, rfl, fin ?_⟩)⟩
    · have lu := h4.length
      have z : (us.length : Int) = 1 := by simpa using of_decide_eq_true c
      have : us.length = 1 := by omega
      match fs, us, h4, this with
      | [f], us, h4, _ =>
        obtain ⟨u, r', rfl, hu, hr'⟩ := h4.uncons
        refine ⟨_, rfl, a, _, _, _, rfl, rfl, h2, at_of (j := 1) rfl rfl, t, _, _, _, rfl, rfl, h3, at_of (j := 0) rfl rfl, ?_⟩
        refine ⟨f.ct, ?_, u, f, rfl, s1.trans s2, hu, e, rfl⟩
        show f.ct < 1 + (f.ct + 0)
        omega
      | [], us, h4, hl => rw [h4.unnil] at hl; cases hl
      | f :: g :: fs, us, h4, hl => rw [h4.length] at hl; simp at hl
    · match fs, h4 with
      | [], _ => rfl
      | [f], h4 =>
        have lu := h4.length
        exact absurd (by rw [lu]; rfl) c
      | f :: g :: fs, _ => rfl
  | rel n xs => exact ⟨_, rfl, fin rfl⟩
  | same x y => exact ⟨_, rfl, fin rfl⟩
  | neg f => exact ⟨_, rfl, fin rfl⟩
  | qu b x f => exact ⟨_, rfl, fin rfl⟩
/-! pieces: texts and formulas -/
abbrev Pc := Str ⊕ Fm
def PcAt (K : PySem.W.Frag) (H : Hp) (v : V) : Pc → Prop
  | .inl s => v = .str s
  | .inr f => FmAt K H v f
theorem PcAt.tk {H H' : Hp} {v : V} {p : Pc} (k : Tk K H H') (h : PcAt K H v p) : PcAt K H' v p := by
  cases p with
  | inl s => exact h
  | inr f => exact FmAt.tk k h
def pstr : Pc → Str
  | .inl s => s
  | .inr f => Fm.txt f
def pwt : Pc → Nat
  | .inl _ => 1
  | .inr f => Fm.wt f
def pstrs (ps : List Pc) : Str := cat (ps.map pstr)
def pwts (ps : List Pc) : Nat := (ps.map pwt).sum
theorem pstrs_append (a b : List Pc) : pstrs (a ++ b) = pstrs a ++ pstrs b := by
  unfold pstrs
  rw [List.map_append, cat_append]
theorem pwts_append (a b : List Pc) : pwts (a ++ b) = pwts a + pwts b := by
  unfold pwts
  rw [List.map_append, List.sum_append]
def gd (f : Fm) : List Pc := if Fm.wide (Fm.bare f) = true then [.inl "(", .inr (Fm.bare f), .inl ")"] else [.inr (Fm.bare f)]
theorem gd_str (f : Fm) : pstrs (gd f) = Fm.held f := by
  unfold gd Fm.held
  split
  · show "(" ++ (Fm.txt (Fm.bare f) ++ (")" ++ Str.empty)) = _
    rw [s_ae, Fm.txt_bare]
  · show Fm.txt (Fm.bare f) ++ Str.empty = _
    rw [s_ae, Fm.txt_bare]
theorem gd_wt (f : Fm) : pwts (gd f) ≤ Fm.wt f + 2 := by
  have h := Fm.bare_ct f
  have h1 := Fm.ct_pos (Fm.bare f)
  unfold gd
  split
  · show 1 + (Fm.wt (Fm.bare f) + (1 + 0)) ≤ _
    unfold Fm.wt
    omega
  · show Fm.wt (Fm.bare f) + 0 ≤ _
    unfold Fm.wt
    omega
theorem gd_len (f : Fm) : (gd f).length ≤ 3 := by
  unfold gd
  split <;> simp
def spGuarded (K : PySem.W.Frag) : Sp := fun vs H Q _ => ∃ (v : V) (f : Fm), vs = [v] ∧ FmAt K H v f ∧ ∀ (l : Addr) (us : List V) (H' : Hp), Same H H' → H l = none → H' l = some (.lst us) → All2 (PcAt K H') us (gd f) → Q (.ref l) H'
abbrev nGuarded : List Str := ["formula", "kind"]
theorem scGuarded : FnScope nGuarded ["formula"] (defScope sGuarded) := ⟨rfl, rfl, rfl, by decide +kernel, rfl, by decide +kernel, by decide +kernel⟩
theorem l3' : (3 : Nat) ≤ sizeLine := by decide
theorem ok_guarded {f : Addr} {fd : FuncData} (B : Bt mg) (cAlone : Cal P w K mg base 1 "alone" (spAlone K) []) (F : Fun K "guarded" "guarded" sGuarded f fd) : FnOk P w K mg base CX0 2 f fd ["formula"] (spGuarded K) := by
  refine F.ok scGuarded (fun vs H Q E h => ?_) (fun cdv A outer s H vs Q E hr h => ?_)
  · obtain ⟨v, f, rfl, _⟩ := h
    rfl
  obtain ⟨v, fm, rfl, hF, q⟩ := h
  have nd := scGuarded.nd
  refine ⟨_, (pss_cons (ps_set (i := 0) nd rfl (.inl rfl) (pe_c cAlone hr (by decide) rfl (pa_cons (pv 0) pa_nil)))
    (pss_cons (ps_set (i := 1) nd rfl (.inl rfl) (pe_ix ix_tup (pv 0) pe_int (fun _ _ => rfl)))
    (pss_cons (ps_if (PW.pt (pw_or (pt_cmpR op_in_seq (pv 1) (pe_tup (pa_cons pe_str (pa_cons pe_str pa_nil))) rfl) (pw_or1 (PW.pt (pw_and (pt_cmpR op_in_seq (pv 1) (pe_tup (pa_cons pe_str (pa_cons pe_str pa_nil))) rfl) (pw_and1 (pt_truth (pe_ix ix_tup (pv 0) pe_int (fun _ _ => rfl)) (by intro _; rfl)))))))) (pss_one (ps_ret (pe_lst (pa_cons pe_str (pa_cons (pv 0) (pa_cons pe_str pa_nil)))))) pss_nil)
    (pss_one (ps_ret (pe_lst (pa_cons (pv 0) pa_nil))))))), ?_⟩
  refine ⟨_, rfl, v, fm, rfl, hF, fun u H1 s1 hg => ?_⟩
  unfold gd at q
  have hb := Fm.bare_is fm
  generalize Fm.bare fm = g at *
  obtain ⟨a, r, rfl, h1⟩ := FmAt.tag hg
  refine ⟨_, rfl, a, _, _, _, rfl, rfl, h1, at_of (j := 0) rfl rfl, ?_⟩
  refine ⟨_, rfl, l2, fun T nT => ⟨T, _, rfl, .inr (SqT.of upd_same), rfl, rfl, _, inB (in_some g), ?_⟩⟩
  have s2 := s1.trans (same_new nT (.tup [V.str "some", V.str "all"]))
  have k2 := Tk.of_same (K := K) (same_new nT (.tup [V.str "some", V.str "all"]))
  generalize upd H1 T (.tup [V.str "some", V.str "all"]) = H2 at s2 k2 ⊢
  have hg2 := hg.tk k2
  have three : ∀ H3 : Hp, Same H H3 → FmAt K H3 (.ref a) g → Fm.wide g = true → ∀ p, H3 p = none → Q (.ref p) (upd H3 p (.lst [.str "(", .ref a, .str ")"])) := fun H3 s3 h3 hw p np => q p _ _ (s3.trans (same_new np _)) (s3.free np) upd_same (by
    rw [if_pos hw]
    exact .cons rfl (.cons (h3.tk (tk_new np _)) (.cons rfl .nil)))
  have one : ∀ H3 : Hp, Same H H3 → FmAt K H3 (.ref a) g → ¬ Fm.wide g = true → ∀ p, H3 p = none → Q (.ref p) (upd H3 p (.lst [.ref a])) := fun H3 s3 h3 hw p np => q p _ _ (s3.trans (same_new np _)) (s3.free np) upd_same (by
    rw [if_neg hw]
    exact .cons (h3.tk (tk_new np _)) .nil)
  cases g with
  | qu b x f => exact ⟨_, rfl, l3', fun p np => three _ s2 hg2 rfl p np⟩
  | con b fs =>
    refine ⟨_, rfl, l2, fun S nS => ⟨S, _, rfl, .inr (SqT.of upd_same), rfl, rfl, _, inB (in_and (.con b fs)), ?_⟩⟩
    have s3 := s2.trans (same_new nS (.tup [V.str "and", V.str "or"]))
    have hg3 := hg2.tk (tk_new (K := K) nS (.tup [V.str "and", V.str "or"]))
    have hg4 := hg3
    rw [FmAt] at hg4
    obtain ⟨a', t, us, e1, h2, h3, h4⟩ := hg4
    cases e1
    refine ⟨_, rfl, a, _, _, _, rfl, rfl, h2, at_of (j := 1) rfl rfl, _, .inr (.inl ⟨us, h3, rfl⟩), ?_⟩
    cases fs with
    | nil =>
      rw [h4.unnil]
      exact ⟨_, rfl, l1, fun p np => one _ s3 hg3 (by intro z; cases z) p np⟩
    | cons f fs =>
      obtain ⟨u, r', rfl, _, _⟩ := h4.uncons
      exact ⟨_, rfl, l3', fun p np => three _ s3 hg3 rfl p np⟩
  | rel n xs =>
    refine ⟨_, rfl, l2, fun S nS => ⟨S, _, rfl, .inr (SqT.of upd_same), rfl, rfl, _, inB (in_and (.rel n xs)), ?_⟩⟩
    exact ⟨_, rfl, l1, fun p np => one _ (s2.trans (same_new nS _)) (hg2.tk (tk_new nS _)) (by intro z; cases z) p np⟩
  | same x y =>
    refine ⟨_, rfl, l2, fun S nS => ⟨S, _, rfl, .inr (SqT.of upd_same), rfl, rfl, _, inB (in_and (.same x y)), ?_⟩⟩
    exact ⟨_, rfl, l1, fun p np => one _ (s2.trans (same_new nS _)) (hg2.tk (tk_new nS _)) (by intro z; cases z) p np⟩
  | neg f =>
    refine ⟨_, rfl, l2, fun S nS => ⟨S, _, rfl, .inr (SqT.of upd_same), rfl, rfl, _, inB (in_and (.neg f)), ?_⟩⟩
    exact ⟨_, rfl, l1, fun p np => one _ (s2.trans (same_new nS _)) (hg2.tk (tk_new nS _)) (by intro z; cases z) p np⟩
end
end K2

set_option Elab.async false
set_option linter.all false
set_option maxRecDepth 100000
set_option maxHeartbeats 4000000
namespace K2
open PySem L2 Fo
open C8 (Cal pe_c pss_cut)
section
variable {P : Program} {w : World} {K : PySem.W.Frag} {mg : Str → Option Value} {base : Heap}
/-! ### joined, pieces -/
theorem cut_tail (u : V) (r : List V) : cutV (u :: r) (some 1) none = r := by
  unfold cutV
  simp [HT.sIx]
theorem no_full (u : V) (r : List V) : ¬ (HT.sIx (u :: r).length 0 (some 1) = 0 ∧ HT.sIx (u :: r).length (u :: r).length none = (u :: r).length) := by
  simp [HT.sIx]
def jps (s : Str) (fs : List Fm) : List Pc := (fs.map fun k => Sum.inl s :: gd k).flatten
theorem jps_snoc (s : Str) (fs : List Fm) (f : Fm) : jps s (fs ++ [f]) = jps s fs ++ (Sum.inl s :: gd f) := by simp [jps]
theorem jps_str (s : Str) : ∀ fs : List Fm, pstrs (jps s fs) = cat (fs.map fun k => s ++ Fm.held k)
  | [] => rfl
  | f :: fs => by
    show pstrs ((Sum.inl s :: gd f) ++ jps s fs) = _
    rw [pstrs_append, jps_str s fs, List.map_cons, cat]
    show (s ++ pstrs (gd f)) ++ _ = _
    rw [gd_str]
theorem jps_wt (s : Str) : ∀ fs : List Fm, pwts (jps s fs) ≤ 5 * Fm.cts fs
  | [] => Nat.zero_le _
  | f :: fs => by
    show pwts ((Sum.inl s :: gd f) ++ jps s fs) ≤ _
    rw [pwts_append, Fm.cts]
    have h := jps_wt s fs
    have g := gd_wt f
    have c := Fm.ct_pos f
    have e : pwts (Sum.inl s :: gd f) = 1 + pwts (gd f) := rfl
    rw [e]
    unfold Fm.wt at g
    omega
def GoodPc : Pc → Prop
  | .inl s => s.length ≤ 20
  | .inr f => WF f
mutual
theorem bare_wf : ∀ {f : Fm}, WF f → WF (Fm.bare f)
  | .con b fs, h => by rw [WF] at h; exact bareL_wf b h
  | .rel n xs, h => h
  | .same x y, h => h
  | .neg f, h => h
  | .qu b x f, h => h
theorem bareL_wf (b : Bool) : ∀ {fs : List Fm}, WFs fs → WF (Fm.bareL b fs)
  | [], h => by show WF (.con b []); rw [WF]; exact h
  | [f], h => by rw [WFs] at h; exact bare_wf h.1
  | f :: g :: fs, h => by show WF (.con b (f :: g :: fs)); rw [WF]; exact h
end
theorem gd_good {f : Fm} (h : WF f) : ∀ p ∈ gd f, GoodPc p := by
  have hb := bare_wf h
  unfold gd
  intro p hp
  split at hp
  · simp only [List.mem_cons, List.not_mem_nil, or_false] at hp
    rcases hp with rfl | rfl | rfl
    · show (Str.ofString "(").length ≤ 20; decide +kernel
    · exact hb
    · show (Str.ofString ")").length ≤ 20; decide +kernel
  · rw [List.mem_singleton.mp hp]; exact hb
theorem jps_good {s : Str} (hs : s.length ≤ 20) : ∀ {fs : List Fm}, WFs fs → ∀ p ∈ jps s fs, GoodPc p
  | [], _, p, hp => nomatch hp
  | f :: fs, h, p, hp => by
    rw [WFs] at h
    have hp' : p ∈ (Sum.inl s :: gd f) ++ jps s fs := hp
    rcases List.mem_append.mp hp' with e | e
    · rcases List.mem_cons.mp e with e | e
      · rw [e]; exact hs
      · exact gd_good h.1 p e
    · exact jps_good hs h.2 p e
def spJoined (K : PySem.W.Frag) : Sp := fun vs H Q _ => ∃ (t : Addr) (s : Str) (us : List V) (f : Fm) (fs : List Fm), vs = [.ref t, .str s] ∧ SqT K H t us ∧ FmsAt K H us (f :: fs) ∧ fs.length ≤ 1000 ∧ ∀ (l : Addr) (ws : List V) (H' : Hp), Same H H' → H l = none → H' l = some (.lst ws) → All2 (PcAt K H') ws (gd f ++ jps s fs) → Q (.ref l) H'
abbrev nJoined : List Str := ["rows", "between", "found", "row"]
theorem scJoined : FnScope nJoined ["rows", "between"] (defScope sJoined) := ⟨rfl, rfl, rfl, by decide +kernel, rfl, by decide +kernel, by decide +kernel⟩
theorem ok_joined {f : Addr} {fd : FuncData} (B : Bt mg) (cGuarded : Cal P w K mg base 2 "guarded" (spGuarded K) []) (F : Fun K "joined" "joined" sJoined f fd) : FnOk P w K mg base CX0 3 f fd ["rows", "between"] (spJoined K) := by
  refine F.ok scJoined (fun vs H Q E h => ?_) (fun cdv A outer s H vs Q E hr h => ?_)
  · obtain ⟨t, s, us, f, fs, rfl, _⟩ := h
    rfl
  obtain ⟨t, s, us, fm, fs, rfl, ht, hk, hl, q⟩ := h
  have nd := scJoined.nd
  refine ⟨_, (pss_cons (ps_set (i := 2) nd rfl (.inl rfl) (pe_c cGuarded hr (by decide) rfl (pa_cons (pe_ix ix_tup (pv 0) pe_int (fun _ _ => rfl)) pa_nil)))
    (pss_cons (ps_for PassesOwn.never rfl (pi_tup (pe_slice sl_tup (pv 0) (po_some pe_int) po_none)) (pg_name (i := 3) nd rfl (.inl rfl)) (pss_cons (ps_expr (pe_bm PySem.F.plainAttrs_list PySem.F.slot_list_append PySem.F.type_list_append mt_append (pv 2) (pa_cons (pv 1) pa_nil)))
    (pss_one (ps_expr (pe_bm PySem.F.plainAttrs_list PySem.F.slot_list_extend PySem.F.type_list_extend Tx.mt_ext (pv 2) (pa_cons (pe_c cGuarded hr (by decide) rfl (pa_cons (pv 3) pa_nil)) pa_nil))))))
    (pss_one (ps_ret (pv 2))))), ?_⟩
  obtain ⟨u, r, rfl, hu, hr'⟩ := hk.uncons
  refine ⟨_, rfl, t, _, _, _, rfl, rfl, ht, at_of (j := 0) rfl rfl, u, fm, rfl, hu, fun l ws H1 s1 nl hl1 hp => ?_⟩
  have lw := hp.length
  have lg := gd_len fm
  refine ⟨_, rfl, _, rfl, t, _, rfl, Tk.of_same s1 _ _ ht, no_full u r, fun z nz => ⟨z, rfl, ⟨_, SqT.of upd_same⟩, ?_⟩⟩
  rw [cut_tail]
  have s2 := s1.trans (same_new nz (.tup r))
  refine for_tup (xs := r) (fun i σ H' => ∃ (ws : List V) (row : Option V), σ = [some (.ref t), some (.str s), some (.ref l), row] ∧ Same H H' ∧ Tk K (upd H1 z (.tup r)) H' ∧ H' l = some (.lst ws) ∧ All2 (PcAt K H') ws (gd fm ++ jps s (fs.take i)) ∧ ws.length ≤ 3 + 4 * i)
    ⟨ws, none, rfl, s2, Tk.refl _, same_new nz _ _ _ hl1, by
      rw [List.take_zero]
      show All2 _ _ (gd fm ++ [])
      rw [List.append_nil]
      exact hp.imp fun _ _ h => h.tk (tk_new nz _), by omega⟩ (fun i σ H' _ ⟨_, _, _, _, h, _⟩ => h _ _ (SqT.of upd_same)) ?_ ?_
  · rintro i y σ H2 hi ⟨ws, row, rfl, s3, t3, hL, hp2, hwl⟩
    obtain ⟨g, hg, hy⟩ := ((hr'.tk (Tk.of_same s2)).get hi)
    have hg2 : FmAt K H2 y g := by
      have := (hr'.tk (Tk.of_same s3)).get hi
      obtain ⟨g', hg', hy'⟩ := this
      rw [hg] at hg'
      cases hg'
      exact hy'
    have li := (List.getElem?_eq_some_iff.mp hg).1
    refine ⟨_, rfl, .inl ⟨rfl, _, SqL.of hL⟩, _, rfl, l, _, _, rfl, rfl, hL, lineOk (by omega), ?_⟩
    have t4 := tk_lst (K := K) hL (.lst (ws ++ [.str s]))
    have s4 := same_to (o := .lst (ws ++ [.str s])) s3 nl
    refine ⟨_, rfl, .inl ⟨rfl, _, SqL.of upd_same⟩, _, rfl, y, g, rfl, hg2.tk t4, fun l2 us2 H3 s5 n5 hl3 k5 => ?_⟩
    have lg2 := gd_len g
    have l5 := k5.length
    have hL3 := s5 _ _ (upd_same : upd H2 l (.lst (ws ++ [.str s])) l = _)
    refine ⟨l, l2, _, us2, rfl, rfl, hL3, .inl (SqL.of hl3), Nat.le_of_lt (lineOk (by rw [List.length_append, List.length_singleton]; omega)), ?_⟩
    have t6 := tk_lst (K := K) hL3 (.lst (ws ++ [.str s] ++ us2))
    refine ⟨ws ++ [.str s] ++ us2, some y, rfl, same_to (s4.trans s5) nl, t3.trans (t4.trans ((Tk.of_same s5).trans t6)), upd_same, ?_, ?_⟩
    · rw [List.take_succ, hg]
      show All2 _ _ (gd fm ++ jps s (fs.take i ++ [g]))
      rw [jps_snoc, ← List.append_assoc]
      have ea : ws ++ [V.str s] ++ us2 = ws ++ (V.str s :: us2) := by simp
      rw [ea] at t6 ⊢
      refine (hp2.imp fun _ _ h => h.tk (t4.trans ((Tk.of_same s5).trans t6))).append ?_
      exact .cons rfl (k5.imp fun _ _ h => h.tk t6)
    · rw [List.length_append, List.length_append, List.length_singleton]; omega
  · rintro σ H2 ⟨ws, row, rfl, s3, t3, hL, hp2, hwl⟩
    rw [hr'.length, List.take_length] at hp2
    exact ⟨_, rfl, q l ws H2 s3 nl hL hp2⟩
end
end K2

set_option Elab.async false
set_option linter.all false
set_option maxRecDepth 100000
set_option maxHeartbeats 4000000
namespace K2
open PySem L2 Fo
open C8 (Cal pe_c pss_cut)
section
variable {P : Program} {w : World} {K : PySem.W.Frag} {mg : Str → Option Value} {base : Heap}
theorem sgn_len (b : Bool) : (Fm.sgn b).length ≤ 20 := by cases b <;> decide +kernel
theorem len8 : ∀ x ∈ N8, x.length ≤ 2 := by decide +kernel
theorem len4 : ∀ x ∈ R4, x.length ≤ 2 := by decide +kernel
theorem big {n : Nat} (h : n ≤ 100) : n ≤ sizeLine := Nat.le_of_lt (lineOk (by omega))
theorem lcom : (Str.ofString ",").length = 1 := by decide +kernel
theorem jn_len : ∀ xs : List Str, xs.length ≤ 2 → (∀ x ∈ xs, x.length ≤ 2) → (jn "," xs).length ≤ 5
  | [], _, _ => by rw [jn]; exact Nat.zero_le _
  | [x], _, h => by rw [jn]; have := h x List.mem_cons_self; omega
  | [x, y], _, h => by
    rw [jn, jn, s_len, s_len, lcom]
    have h1 := h x List.mem_cons_self
    have h2 := h y (List.mem_cons_of_mem _ List.mem_cons_self)
    omega
  | x :: y :: z :: r, hl, _ => by simp at hl
theorem sum_len : ∀ xs : List Str, xs.length ≤ 2 → (∀ x ∈ xs, x.length ≤ 2) → (xs.map (·.length)).sum ≤ 4
  | [], _, _ => Nat.zero_le _
  | [x], _, h => by
    have := h x List.mem_cons_self
    simp only [List.map_cons, List.map_nil, List.sum_cons, List.sum_nil]; omega
  | [x, y], _, h => by
    have h1 := h x List.mem_cons_self
    have h2 := h y (List.mem_cons_of_mem _ List.mem_cons_self)
    simp only [List.map_cons, List.map_nil, List.sum_cons, List.sum_nil]; omega
  | x :: y :: z :: r, hl, _ => by simp at hl
theorem lpar : (Str.ofString "(").length = 1 := by decide +kernel
theorem lpar2 : (Str.ofString ")").length = 1 := by decide +kernel
theorem leq : (Str.ofString "=").length = 1 := by decide +kernel
theorem lsp : (Str.ofString " ").length = 1 := by decide +kernel
theorem lcol : (Str.ofString ": ").length = 2 := by decide +kernel
theorem lqn (b : Bool) : (qn b).length ≤ 4 := by cases b <;> decide +kernel
theorem lword (b : Bool) : (Fm.word b).length ≤ 5 := by cases b <;> decide +kernel
def sg1 (b : Bool) : Str := if b = true then "&" else "|"
theorem lsg1 (b : Bool) : (sg1 b).length = 1 := by cases b <;> decide +kernel
theorem sg1_sgn (b : Bool) : Str.ofString " " ++ (sg1 b ++ Str.ofString " ") = Fm.sgn b := by cases b <;> decide +kernel
theorem lemp : Str.empty.length = 0 := rfl
structure Tb (K : PySem.W.Frag) (w : World) (dE dS : Addr) : Prop where
  wd : ∀ b, KDct K w dE (cn b) (.str (Fm.word b))
  sg : ∀ b, KDct K w dS (cn b) (.str (sg1 b))
def spPieces (K : PySem.W.Frag) : Sp := fun vs H Q _ => ∃ (v : V) (f : Fm), vs = [v] ∧ FmAt K H v f ∧ Fm.isB f = true ∧ WF f ∧ f.ct ≤ 1000 ∧ ∀ (l : Addr) (ws : List V) (ps : List Pc) (H' : Hp), Same H H' → H l = none → H' l = some (.lst ws) → All2 (PcAt K H') ws ps → pstrs ps = Fm.txt f → pwts ps < Fm.wt f → (∀ p ∈ ps, GoodPc p) → Q (.ref l) H'
abbrev nPieces : List Str := ["formula", "kind", "names"]
theorem scPieces : FnScope nPieces ["formula"] (defScope sPieces) := ⟨rfl, rfl, rfl, by decide +kernel, rfl, by decide +kernel, by decide +kernel⟩
theorem ok_pieces {f dE dS : Addr} {fd : FuncData} (B : Bt mg) (hE : mg "EMPTY_WORDS" = some (.ref dE)) (hS : mg "SIGNS" = some (.ref dS)) (tb : Tb K w dE dS) (cGuarded : Cal P w K mg base 2 "guarded" (spGuarded K) []) (cJoined : Cal P w K mg base 3 "joined" (spJoined K) []) (F : Fun K "pieces" "pieces" sPieces f fd) : FnOk P w K mg base CX0 4 f fd ["formula"] (spPieces K) := by
  refine F.ok scPieces (fun vs H Q E h => ?_) (fun cdv A outer s H vs Q E hr h => ?_)
  · obtain ⟨v, f, rfl, _⟩ := h
    rfl
  obtain ⟨v, fm, rfl, hF, hb, hw, hc, q⟩ := h
  have nd := scPieces.nd
  refine ⟨_, (pss_cons (ps_set (i := 1) nd rfl (.inl rfl) (pe_ix ix_tup (pv 0) pe_int (fun _ _ => rfl)))
    (pss_cons (ps_if (pt_cmpR op_eq (pv 1) pe_str (nomark _)) (pss_cons (ps_set (i := 2) nd rfl (.inl rfl) (pe_join pe_str (pe_ix ix_tup (pv 0) pe_int (fun _ _ => rfl))))
    (pss_one (ps_ret (pe_lst (pa_cons (pe_joined (.cons (pe_fmt (pe_ix ix_tup (pv 0) pe_int (fun _ _ => rfl))) (.cons pe_str (.cons (pe_fmt (pv 2)) (.cons pe_str .nil))))) pa_nil))))) pss_nil)
    (pss_cons (ps_if (pt_cmpR op_eq (pv 1) pe_str (nomark _)) (pss_one (ps_ret (pe_lst (pa_cons (pe_joined (.cons (pe_fmt (pe_ix ix_tup (pv 0) pe_int (fun _ _ => rfl))) (.cons pe_str (.cons (pe_fmt (pe_ix ix_tup (pv 0) pe_int (fun _ _ => rfl))) .nil)))) pa_nil)))) pss_nil)
    (pss_cons (ps_if (pt_cmpR op_eq (pv 1) pe_str (nomark _)) (pss_one (ps_ret (pe_lst (pa_cons pe_str (StX.pa_star (pe_c cGuarded hr (by decide) rfl (pa_cons (pe_ix ix_tup (pv 0) pe_int (fun _ _ => rfl)) pa_nil)) pa_nil))))) pss_nil)
    (pss_cons (ps_if (pt_cmpR op_in_seq (pv 1) (pe_tup (pa_cons pe_str (pa_cons pe_str pa_nil))) rfl) (pss_one (ps_ret (pe_lst (pa_cons (pe_joined (.cons (pe_fmt (pv 1)) (.cons pe_str (.cons (pe_fmt (pe_ix ix_tup (pv 0) pe_int (fun _ _ => rfl))) (.cons pe_str .nil))))) (pa_cons (pe_ix ix_tup (pv 0) pe_int (fun _ _ => rfl)) pa_nil))))) pss_nil)
    (pss_cons (ps_if (pt_not (pt_truth (pe_ix ix_tup (pv 0) pe_int (fun _ _ => rfl)) (by intro _; rfl))) (pss_one (ps_ret (pe_lst (pa_cons (pe_ix ix_kdict (pe_glob (v := .ref dE) rfl hE rfl) (pv 1) (fun _ _ => rfl)) pa_nil)))) pss_nil)
    (pss_one (ps_ret (pe_c cJoined hr (by decide) rfl (pa_cons (pe_ix ix_tup (pv 0) pe_int (fun _ _ => rfl)) (pa_cons (pe_joined (.cons pe_str (.cons (pe_fmt (pe_ix ix_kdict (pe_glob (v := .ref dS) rfl hS rfl) (pv 1) (fun _ _ => rfl))) (.cons pe_str .nil)))) pa_nil))))))))))), ?_⟩
  cases fm with
  | rel n xs =>
    rw [FmAt] at hF
    obtain ⟨a, t, rfl, h1, h2⟩ := hF
    rw [WF] at hw
    obtain ⟨w1, w2, w3, w4⟩ := hw
    have ln := len4 n w1
    have lj := jn_len xs w3 fun x hx => len8 x (w4 x hx)
    have ls := sum_len xs w3 fun x hx => len8 x (w4 x hx)
    refine ⟨_, rfl, a, _, _, _, rfl, rfl, h1, at_of (j := 0) rfl rfl, ?_⟩
    refine ⟨_, rfl, rfl, true, (by decide +kernel), ?_⟩
    refine ⟨⟨_, rfl⟩, _, rfl, a, _, _, _, rfl, rfl, h1, at_of (j := 2) rfl rfl, _, t, xs, rfl, rfl, .inr h2, (by rw [lcom]; omega), ?_⟩
    rw [join_jn]
    generalize hJ : jn "," xs = J at lj ⊢
    refine ⟨_, rfl, a, _, _, _, rfl, rfl, h1, at_of (j := 1) rfl rfl, .inl ⟨n, rfl, big (by omega), n, rfl, big (by rw [s_e]; omega), ?_⟩⟩
    refine ⟨_, rfl, big (by rw [s_e, s_len, lpar]; omega), ?_⟩
    refine ⟨_, rfl, .inl ⟨J, rfl, big (by omega), J, rfl, big (by rw [s_e, s_len, s_len, lpar]; omega), ?_⟩⟩
    refine ⟨_, rfl, big (by rw [s_e, s_len, s_len, s_len, lpar, lpar2]; omega), ?_⟩
    refine ⟨l1, fun p np => q p _ [.inl (n ++ ("(" ++ (J ++ ")")))] _ (same_new np _) np upd_same (.cons ?_ .nil) ?_ ?_ ?_⟩
    · show V.str _ = V.str _
      rw [s_e, Str.append_assoc, Str.append_assoc]
    · show (n ++ ("(" ++ (J ++ ")"))) ++ Str.empty = _
      rw [s_ae, Fm.txt, hJ]
    · show 1 + 0 < 5 * 1 - 3; omega
    · intro p hp
      rw [List.mem_singleton.mp hp]
      show Str.length _ ≤ 20
      rw [s_len, s_len, s_len, lpar, lpar2]
      omega
  | same x y =>
    rw [FmAt] at hF
    obtain ⟨a, rfl, h1⟩ := hF
    rw [WF] at hw
    have lx := len8 x hw.1
    have ly := len8 y hw.2
    refine ⟨_, rfl, a, _, _, _, rfl, rfl, h1, at_of (j := 0) rfl rfl, ?_⟩
    refine ⟨_, rfl, rfl, false, (by decide +kernel), ?_⟩
    refine ⟨_, rfl, rfl, true, (by decide +kernel), ?_⟩
    refine ⟨_, rfl, a, _, _, _, rfl, rfl, h1, at_of (j := 1) rfl rfl, .inl ⟨x, rfl, big (by omega), x, rfl, big (by rw [s_e]; omega), ?_⟩⟩
    refine ⟨_, rfl, big (by rw [s_e, s_len, leq]; omega), ?_⟩
    refine ⟨_, rfl, a, _, _, _, rfl, rfl, h1, at_of (j := 2) rfl rfl, .inl ⟨y, rfl, big (by omega), y, rfl, big (by rw [s_e, s_len, s_len, leq]; omega), ?_⟩⟩
    refine ⟨l1, fun p np => q p _ [.inl (x ++ ("=" ++ y))] _ (same_new np _) np upd_same (.cons ?_ .nil) ?_ ?_ ?_⟩
    · show V.str _ = V.str _
      rw [s_e, Str.append_assoc]
    · show (x ++ ("=" ++ y)) ++ Str.empty = _
      rw [s_ae, Fm.txt]
    · show 1 + 0 < 5 * 1 - 3; omega
    · intro p hp
      rw [List.mem_singleton.mp hp]
      show Str.length _ ≤ 20
      rw [s_len, s_len, leq]
      omega
  | neg f =>
    rw [FmAt] at hF
    obtain ⟨a, u, rfl, h1, h2⟩ := hF
    rw [WF] at hw
    refine ⟨_, rfl, a, _, _, _, rfl, rfl, h1, at_of (j := 0) rfl rfl, ?_⟩
    refine ⟨_, rfl, rfl, false, (by decide +kernel), ?_⟩
    refine ⟨_, rfl, rfl, false, (by decide +kernel), ?_⟩
    refine ⟨_, rfl, rfl, true, (by decide +kernel), ?_⟩
    refine ⟨_, rfl, a, _, _, _, rfl, rfl, h1, at_of (j := 1) rfl rfl, u, f, rfl, h2, fun l us H1 s1 nl hl hk => ⟨l, us, rfl, .inr (SqL.of hl), ?_⟩⟩
    have lu := hk.length
    have lg := gd_len f
    refine ⟨big (by simp only [List.length_cons, List.length_append, List.length_nil]; omega), fun p np => q p _ (.inl "~" :: gd f) _ (s1.trans (same_new np _)) (s1.free np) upd_same (.cons rfl ?_) ?_ ?_ ?_⟩
    · rw [List.append_nil]
      exact hk.imp fun _ _ h => h.tk (tk_new np _)
    · show "~" ++ pstrs (gd f) = _
      rw [gd_str, Fm.txt_neg]
    · show 1 + pwts (gd f) < 5 * (1 + f.ct) - 3
      have g := gd_wt f
      have c := Fm.ct_pos f
      unfold Fm.wt at g
      omega
    · intro p hp
      rcases List.mem_cons.mp hp with e | e
      · rw [e]; show (Str.ofString "~").length ≤ 20; decide +kernel
      · exact gd_good hw p e
  | qu b x f =>
    rw [FmAt] at hF
    obtain ⟨a, u, rfl, h1, h2⟩ := hF
    rw [WF] at hw
    have lx := len8 x hw.1
    have lq := lqn b
    refine ⟨_, rfl, a, _, _, _, rfl, rfl, h1, at_of (j := 0) rfl rfl, ?_⟩
    refine ⟨_, rfl, rfl, false, (by cases b <;> decide +kernel), ?_⟩
    refine ⟨_, rfl, rfl, false, (by cases b <;> decide +kernel), ?_⟩
    refine ⟨_, rfl, rfl, false, (by cases b <;> decide +kernel), ?_⟩
    refine ⟨_, rfl, l2, fun T nT => ⟨T, _, rfl, .inr (SqT.of upd_same), rfl, rfl, true, inT (by cases b <;> decide +kernel), ?_⟩⟩
    have s1 := same_new nT (.tup [V.str "some", V.str "all"])
    have k1 := Tk.of_same (K := K) s1
    generalize upd H T (.tup [V.str "some", V.str "all"]) = H1 at s1 k1 ⊢
    refine ⟨_, rfl, .inl ⟨qn b, rfl, big (by omega), qn b, rfl, big (by rw [s_e]; omega), ?_⟩⟩
    refine ⟨_, rfl, big (by rw [s_e, s_len, lsp]; omega), ?_⟩
    refine ⟨_, rfl, a, _, _, _, rfl, rfl, k1 _ _ h1, at_of (j := 1) rfl rfl, .inl ⟨x, rfl, big (by omega), x, rfl, big (by rw [s_e, s_len, s_len, lsp]; omega), ?_⟩⟩
    refine ⟨_, rfl, big (by rw [s_e, s_len, s_len, s_len, lsp, lcol]; omega), ?_⟩
    refine ⟨_, rfl, a, _, _, _, rfl, rfl, k1 _ _ h1, at_of (j := 2) rfl rfl, l2, fun p np => q p _ [.inl (qn b ++ (" " ++ (x ++ ": "))), .inr f] _ (s1.trans (same_new np _)) (s1.free np) upd_same (.cons ?_ (.cons ((h2.tk k1).tk (tk_new np _)) .nil)) ?_ ?_ ?_⟩
    · show V.str _ = V.str _
      rw [s_e, Str.append_assoc, Str.append_assoc]
    · show (qn b ++ (" " ++ (x ++ ": "))) ++ (Fm.txt f ++ Str.empty) = _
      rw [s_ae, Fm.txt, Str.append_assoc, Str.append_assoc, Str.append_assoc]
    · show 1 + (Fm.wt f + 0) < 5 * (1 + f.ct) - 3
      have c := Fm.ct_pos f
      unfold Fm.wt
      omega
    · intro p hp
      rcases List.mem_cons.mp hp with e | e
      · rw [e]
        show Str.length _ ≤ 20
        rw [s_len, s_len, s_len, lsp, lcol]
        omega
      · rw [List.mem_singleton.mp e]; exact hw.2
  | con b fs =>
    rw [FmAt] at hF
    obtain ⟨a, t, us, rfl, h1, h2, h3⟩ := hF
    rw [WF] at hw
    have lw := lword b
    have lg1 := lsg1 b
    refine ⟨_, rfl, a, _, _, _, rfl, rfl, h1, at_of (j := 0) rfl rfl, ?_⟩
    refine ⟨_, rfl, rfl, false, (by cases b <;> decide +kernel), ?_⟩
    refine ⟨_, rfl, rfl, false, (by cases b <;> decide +kernel), ?_⟩
    refine ⟨_, rfl, rfl, false, (by cases b <;> decide +kernel), ?_⟩
    refine ⟨_, rfl, l2, fun T nT => ⟨T, _, rfl, .inr (SqT.of upd_same), rfl, rfl, false, inF (by cases b <;> decide +kernel), ?_⟩⟩
    have s1 := same_new nT (.tup [V.str "some", V.str "all"])
    have k1 := Tk.of_same (K := K) s1
    generalize upd H T (.tup [V.str "some", V.str "all"]) = H1 at s1 k1 ⊢
    refine ⟨_, rfl, a, _, _, _, rfl, rfl, k1 _ _ h1, at_of (j := 1) rfl rfl, _, .inr (.inl ⟨us, k1 _ _ h2, rfl⟩), ?_⟩
    cases fs with
    | nil =>
      rw [h3.unnil]
      refine ⟨_, rfl, dE, _, _, rfl, rfl, tb.wd b, l1, fun p np => q p _ [.inl (Fm.word b)] _ (s1.trans (same_new np _)) (s1.free np) upd_same (.cons rfl .nil) ?_ ?_ ?_⟩
      · show Fm.word b ++ Str.empty = _
        rw [s_ae, Fm.txt, Fm.txtL]
      · show 1 + 0 < 5 * (1 + 0) - 3; omega
      · intro p hp
        rw [List.mem_singleton.mp hp]
        show (Fm.word b).length ≤ 20
        omega
    | cons f fs =>
      cases fs with
      | nil => cases hb
      | cons g fs =>
        have hw' := hw
        rw [WFs] at hw'
        have lc := Fm.len_cts (g :: fs)
        have hc' : 1 + (f.ct + Fm.cts (g :: fs)) ≤ 1000 := hc
        have h3' := h3
        obtain ⟨u, r', rfl, _, _⟩ := h3'.uncons
        refine ⟨_, rfl, a, _, _, _, rfl, rfl, k1 _ _ h1, at_of (j := 1) rfl rfl, _, rfl, big (by rw [s_e, lsp]; omega), _, rfl, dS, _, _, rfl, rfl, tb.sg b, .inl ⟨sg1 b, rfl, big (by omega), sg1 b, rfl, big (by rw [s_e, s_len, lsp]; omega), _, rfl, big (by rw [s_e, s_len, s_len, lsp]; omega), ?_⟩⟩
        have es : Str.empty ++ Str.ofString " " ++ sg1 b ++ Str.ofString " " = Fm.sgn b := by rw [s_e, Str.append_assoc, sg1_sgn]
        rw [es]
        refine ⟨t, Fm.sgn b, u :: r', f, g :: fs, rfl, k1 _ _ h2, h3.tk k1, by omega, fun l ws H2 s2 nl hl hp => q l ws _ H2 (s1.trans s2) (s1.free nl) hl hp ?_ ?_ ?_⟩
        · rw [pstrs_append, gd_str, jps_str, Fm.txt_many]
        · rw [pwts_append]
          have z1 := gd_wt f
          have z2 := jps_wt (Fm.sgn b) (g :: fs)
          have z3 := Fm.ct_pos f
          show _ < 5 * (1 + (f.ct + Fm.cts (g :: fs))) - 3
          unfold Fm.wt at z1
          omega
        · intro p hp
          rcases List.mem_append.mp hp with e | e
          · exact gd_good hw'.1 p e
          · exact jps_good (sgn_len b) hw'.2 p e
end
end K2

set_option Elab.async false
set_option linter.all false
set_option maxRecDepth 100000
set_option maxHeartbeats 4000000
namespace K2
open PySem L2 Fo
open C8 (Cal pe_c pss_cut)
section
variable {P : Program} {w : World} {K : PySem.W.Frag} {mg : Str → Option Value} {base : Heap}
/-! ### write -/
theorem ty_tup {H : Hp} {a : Addr} {xs : List V} (h : SqT K H a xs) : TyX K H (.ref a) (.type "tuple") := by
  rcases h with (h | ⟨o, h⟩) | ⟨o, its, n, h, c, _⟩
  · exact .base (.tup h)
  · exact .fTuple h
  · exact .kTuple h c
theorem all2_rev {α β : Type} {R : α → β → Prop} {as : List α} {bs : List β} (h : All2 R as bs) : All2 R as.reverse bs.reverse := by
  induction h with
  | nil => exact .nil
  | cons r _ ih => rw [List.reverse_cons, List.reverse_cons]; exact ih.snoc r
theorem pwt_pos : ∀ p : Pc, 1 ≤ pwt p
  | .inl s => Nat.le_refl 1
  | .inr f => by have := Fm.ct_pos f; show 1 ≤ 5 * f.ct - 3; omega
theorem len_pwts : ∀ ps : List Pc, ps.length ≤ pwts ps
  | [] => Nat.le_refl _
  | p :: ps => by
    have := len_pwts ps
    have := pwt_pos p
    show ps.length + 1 ≤ pwt p + pwts ps
    omega
theorem pwts_rev (ps : List Pc) : pwts ps.reverse = pwts ps := by
  induction ps with
  | nil => rfl
  | cons p ps ih =>
    rw [List.reverse_cons, pwts_append, ih]
    show pwts ps + (pwt p + 0) = pwt p + pwts ps
    omega
theorem sum20 : ∀ ds : List Str, (∀ s ∈ ds, s.length ≤ 20) → (ds.map (·.length)).sum ≤ 20 * ds.length
  | [], _ => Nat.zero_le _
  | d :: ds, h => by
    have h1 := sum20 ds fun s hs => h s (List.mem_cons_of_mem _ hs)
    have h2 := h d List.mem_cons_self
    rw [List.map_cons, List.sum_cons, List.length_cons]
    omega
theorem lnone : (Str.ofString "").length = 0 := by decide +kernel
theorem none_e : Str.ofString "" = Str.empty := by decide +kernel
def spWrite (K : PySem.W.Frag) : Sp := fun vs H Q _ => ∃ (v : V) (f : Fm), vs = [v] ∧ FmAt K H v f ∧ WF f ∧ f.ct ≤ 1000 ∧ ∀ (H' : Hp), Same H H' → Q (.str (Fm.txt f)) H'
abbrev nWrite : List Str := ["formula", "done", "waiting", "piece"]
theorem scWrite : FnScope nWrite ["formula"] (defScope sWrite) := ⟨rfl, rfl, rfl, by decide +kernel, rfl, by decide +kernel, by decide +kernel⟩
theorem ok_write {f : Addr} {fd : FuncData} (B : Bt mg) (cAlone : Cal P w K mg base 1 "alone" (spAlone K) []) (cPieces : Cal P w K mg base 4 "pieces" (spPieces K) []) (F : Fun K "write" "write" sWrite f fd) : FnOk P w K mg base CX0 5 f fd ["formula"] (spWrite K) := by
  refine F.ok scWrite (fun vs H Q E h => ?_) (fun cdv A outer s H vs Q E hr h => ?_)
  · obtain ⟨v, f, rfl, _⟩ := h
    rfl
  obtain ⟨v, fm, rfl, hF, hw, hc, q⟩ := h
  have nd := scWrite.nd
  refine ⟨_, (pss_cons (ps_set (i := 1) nd rfl (.inl rfl) (pe_lst pa_nil))
    (pss_cons (ps_set (i := 2) nd rfl (.inl rfl) (pe_lst (pa_cons (pv 0) pa_nil)))
    (pss_cons (ps_while PassesOwn.never (pt_truth (pv 2) (by intro _; rfl)) (pss_cons (ps_set (i := 3) nd rfl (.inl rfl) (pe_bm0 PySem.F.plainAttrs_list PySem.F.slot_list_pop PySem.F.type_list_pop mt_pop (pv 2)))
    (pss_one (ps_if (pt_val (pe_callB call_isi rfl B.isinstance (by decide +kernel) (pa_cons (pv 3) (pa_cons (pe_bltn (v := .ty "str") rfl B.str (by decide +kernel) rfl) pa_nil)))) (pss_one (ps_expr (pe_bm PySem.F.plainAttrs_list PySem.F.slot_list_append PySem.F.type_list_append mt_append (pv 1) (pa_cons (pv 3) pa_nil)))) (pss_one (ps_expr (pe_bm PySem.F.plainAttrs_list PySem.F.slot_list_extend PySem.F.type_list_extend Tx.mt_ext (pv 2) (pa_cons (pe_revL (pe_c cPieces hr (by decide) rfl (pa_cons (pe_c cAlone hr (by decide) rfl (pa_cons (pv 3) pa_nil)) pa_nil))) pa_nil))))))))
    (pss_one (ps_ret (pe_join pe_str (pv 1))))))), ?_⟩
  refine ⟨Nat.zero_le _, fun D nD => ⟨_, rfl, l1, fun W nW => ?_⟩⟩
  have nDW : D ≠ W := ne_of_none upd_same nW
  have nW0 : H W = none := (same_new nD _).free nW
  have s0 := (same_new nD (.lst [])).trans (same_new nW (.lst [v]))
  have wf0 : Fm.wt fm ≤ 5000 := by unfold Fm.wt; omega
  refine ⟨fun m σ H' => ∃ (ds : List Str) (ws : List V) (ps : List Pc) (pc : Option V), σ = [some v, some (.ref D), some (.ref W), pc] ∧ Same H H' ∧ H' D = some (.lst (ds.map V.str)) ∧ H' W = some (.lst ws) ∧ All2 (PcAt K H') ws ps ∧ m = pwts ps ∧
    ds.length + pwts ps ≤ Fm.wt fm ∧ cat ds ++ pstrs ps.reverse = Fm.txt fm ∧ (∀ p ∈ ps, GoodPc p) ∧ (∀ s ∈ ds, s.length ≤ 20), ⟨_, [], [v], [.inr fm], none, rfl, s0, ?_, upd_same, .cons ?_ .nil, rfl, ?_, ?_, ?_, ?_⟩, ?_⟩
  · rw [upd_ne nDW]; exact upd_same
  · exact (hF.tk (.of_same s0))
  · show 0 + (Fm.wt fm + 0) ≤ _; omega
  · show Str.empty ++ (Fm.txt fm ++ Str.empty) = _
    rw [s_e, s_ae]
  · intro p hp; rw [List.mem_singleton.mp hp]; exact hw
  · intro s hs; cases hs
  rintro m σ H1 ⟨ds, ws, ps, pc, rfl, s1, hD, hW, k1, rfl, c1, c2, c3, c4⟩
  have lw := k1.length
  have lp := len_pwts ps
  by_cases e0 : ws = []
  · subst e0
    cases k1
    refine ⟨_, rfl, false, .inl ⟨[], SqL.of hW, rfl⟩, ?_⟩
    have e : cat ds = Fm.txt fm := by
      rw [← c2]
      show _ = cat ds ++ Str.empty
      rw [s_ae]
    have l20 := sum20 ds c4
    refine ⟨⟨_, rfl⟩, _, rfl, _, D, ds, rfl, rfl, .inl (SqL.of hD), ?_, ?_⟩
    · rw [lnone]; omega
    · rw [none_e, join_jn, jn_empty, e]
      exact q H1 s1
  obtain ⟨ws', u, ps', p, rfl, rfl, k2, k3⟩ := k1.unsnoc e0
  refine ⟨_, rfl, true, .inl ⟨_, SqL.of hW, by simp⟩, ⟨_, fun σ' H' h => h, ?_⟩⟩
  refine ⟨_, rfl, .inl ⟨rfl, _, SqL.of hW⟩, W, _, u, rfl, rfl, hW, at_last ws' u, ?_⟩
  rw [drop_last]
  have t2 := tk_lst (K := K) hW (.lst ws')
  have s2 := same_to (o := .lst ws') s1 nW0
  have hD2 : upd H1 W (.lst ws') D = some (.lst (ds.map V.str)) := by rw [upd_ne nDW]; exact hD
  have hW2 : upd H1 W (.lst ws') W = some (.lst ws') := upd_same
  rw [pwts_append] at c1
  have c1' : ds.length + (pwts ps' + (pwt p + 0)) ≤ Fm.wt fm := c1
  rw [List.reverse_append] at c2
  have c2' : cat ds ++ (pstr p ++ pstrs ps'.reverse) = Fm.txt fm := c2
  have lw2 := k2.length
  have lp2 := len_pwts ps'
  have gp := c3 p (by simp)
  generalize upd H1 W (.lst ws') = H2 at *
  cases p with
  | inl s =>
    have eu : u = .str s := k3
    subst eu
    refine ⟨_, rfl, _, _, _, _, true, rfl, .ty "str", .base (.str s), kit_ty (by decide +kernel), true, rfl, ?_⟩
    refine ⟨_, rfl, .inl ⟨rfl, _, SqL.of hD2⟩, _, rfl, D, _, _, rfl, rfl, hD2, lineOk (by rw [List.length_map]; omega), ?_⟩
    refine ⟨pwts ps', ?_, ds ++ [s], ws', ps', _, rfl, same_to s2 nD, by rw [upd_same, List.map_append]; rfl, by rw [upd_ne nDW.symm]; exact hW2, k2.imp fun _ _ h => (h.tk t2).tk (tk_lst hD2 _), rfl, ?_, ?_, fun p hp => c3 p (List.mem_append_left _ hp), fun x hx => ?_⟩
    · rw [pwts_append]
      show pwts ps' < pwts ps' + (1 + 0)
      omega
    · rw [List.length_append, List.length_singleton]
      have : pwt (.inl s : Pc) = 1 := rfl
      omega
    · rw [cat_append, ← c2', Str.append_assoc]
      show cat ds ++ ((s ++ Str.empty) ++ _) = _
      rw [s_ae]
      rfl
    · rcases List.mem_append.mp hx with z | z
      · exact c4 x z
      · rw [List.mem_singleton.mp z]; exact gp
  | inr g =>
    have hg : FmAt K H2 u g := FmAt.tk t2 k3
    have hwg : WF g := gp
    have ew : pwt (.inr g : Pc) = 5 * g.ct - 3 := rfl
    have cg : g.ct ≤ 1000 := by omega
    have bc := Fm.bare_ct g
    have bp := Fm.ct_pos (Fm.bare g)
    obtain ⟨a, r, rfl, ha⟩ := FmAt.tag hg
    refine ⟨_, rfl, _, _, _, _, false, rfl, .ty "str", ty_tup ha, kit_ty (by decide +kernel), false, rfl, ?_⟩
    refine ⟨_, rfl, .inl ⟨rfl, _, SqL.of hW2⟩, _, rfl, .ref a, g, rfl, hg, fun v3 H3 s3 h3 => ⟨v3, Fm.bare g, rfl, h3, Fm.bare_is g, bare_wf hwg, by omega, fun l us qs H4 s4 nl hl hp e1 e2 e3 => ⟨l, us, rfl, SqL.of hl, fun R nR => ?_⟩⟩⟩
    have s34 := s3.trans s4
    have sR := s34.trans (same_new nR (.lst us.reverse))
    have lq := hp.length
    have lq2 := len_pwts qs
    have e2' : pwts qs < 5 * (Fm.bare g).ct - 3 := e2
    have hW4 := sR _ _ hW2
    have nWR : W ≠ R := ne_of_none (s34 _ _ hW2) nR
    refine ⟨W, R, ws', us.reverse, rfl, rfl, hW4, .inl (SqL.of upd_same), Nat.le_of_lt (lineOk (by rw [List.length_reverse]; omega)), ?_⟩
    have t5 := (Tk.of_same (K := K) sR).trans (tk_lst hW4 (.lst (ws' ++ us.reverse)))
    have t6 := (tk_new (K := K) nR (.lst us.reverse)).trans (tk_lst hW4 (.lst (ws' ++ us.reverse)))
    refine ⟨pwts (ps' ++ qs.reverse), ?_, ds, ws' ++ us.reverse, ps' ++ qs.reverse, _, rfl, same_to (s2.trans sR) nW0, by rw [upd_ne nDW]; exact sR _ _ hD2, upd_same, (k2.imp fun _ _ h => h.tk (t2.trans t5)).append (all2_rev (hp.imp fun _ _ h => h.tk t6)), rfl, ?_, ?_, fun p hp' => ?_, c4⟩
    · rw [pwts_append, pwts_append, pwts_rev]
      show _ < pwts ps' + (5 * g.ct - 3 + 0)
      omega
    · rw [pwts_append, pwts_rev]
      omega
    · rw [List.reverse_append, List.reverse_reverse, pstrs_append, e1, Fm.txt_bare, ← c2']
      rfl
    · rcases List.mem_append.mp hp' with z | z
      · exact c3 p (List.mem_append_left _ z)
      · exact e3 p (List.mem_reverse.mp z)
end
end K2

set_option Elab.async false
set_option linter.all false
set_option maxRecDepth 100000
set_option maxHeartbeats 4000000
namespace K2
open PySem L2 Fo
open C8 (Cal pe_c pss_cut)
/-! ### how long a text is -/
theorem jn_le (s : Str) : ∀ (ys : List Str) (B : Nat), (∀ y ∈ ys, y.length + s.length ≤ B) → (jn s ys).length ≤ B * ys.length
  | [], B, _ => Nat.zero_le _
  | [x], B, h => by
    rw [jn]
    have := h x List.mem_cons_self
    simp only [List.length_cons, List.length_nil]
    omega
  | x :: y :: r, B, h => by
    have ih := jn_le s (y :: r) B fun z hz => h z (List.mem_cons_of_mem _ hz)
    have hx := h x List.mem_cons_self
    rw [jn, s_len, s_len, List.length_cons, Nat.mul_succ]
    omega
theorem ltil : (Str.ofString "~").length = 1 := by decide +kernel
theorem lsgn3 (b : Bool) : (Fm.sgn b).length = 3 := by cases b <;> decide +kernel
theorem held_of {f : Fm} (h : (Fm.txt f).length + 8 ≤ 20 * f.ct) : (Fm.held f).length + 6 ≤ 20 * f.ct := by
  unfold Fm.held
  split
  · rw [s_len, s_len, lpar, lpar2]; omega
  · omega
theorem jn_cts (s : Str) (hs : s.length = 3) : ∀ fs : List Fm, (∀ f ∈ fs, (Fm.held f).length + 6 ≤ 20 * f.ct) → (jn s (fs.map Fm.held)).length ≤ 20 * Fm.cts fs
  | [], _ => Nat.zero_le _
  | [f], h => by
    have := h f List.mem_cons_self
    rw [List.map_cons, List.map_nil, jn, Fm.cts]
    omega
  | f :: g :: r, h => by
    have ih := jn_cts s hs (g :: r) fun z hz => h z (List.mem_cons_of_mem _ hz)
    have hx := h f List.mem_cons_self
    rw [List.map_cons] at ih
    rw [List.map_cons, List.map_cons, jn, s_len, s_len, hs, Fm.cts]
    omega
mutual
theorem txt_le : ∀ {f : Fm}, WF f → (Fm.txt f).length + 8 ≤ 20 * f.ct
  | .rel n xs, h => by
    rw [WF] at h
    have h1 := len4 n h.1
    have h2 := jn_len xs h.2.2.1 fun x hx => len8 x (h.2.2.2 x hx)
    rw [Fm.txt, s_len, s_len, s_len, lpar, lpar2, Fm.ct]
    omega
  | .same x y, h => by
    rw [WF] at h
    have h1 := len8 x h.1
    have h2 := len8 y h.2
    rw [Fm.txt, s_len, s_len, leq, Fm.ct]
    omega
  | .neg f, h => by
    rw [WF] at h
    have := held_of (txt_le h)
    rw [Fm.txt_neg, s_len, ltil, Fm.ct]
    omega
  | .con b fs, h => by
    rw [WF] at h
    rw [Fm.txt, Fm.ct]
    exact txtL_le b h
  | .qu b x f, h => by
    rw [WF] at h
    have h1 := len8 x h.1
    have h2 := txt_le h.2
    have h3 := lqn b
    rw [Fm.txt, s_len, s_len, s_len, s_len, lsp, lcol, Fm.ct]
    omega
theorem txtL_le (b : Bool) : ∀ {fs : List Fm}, WFs fs → (Fm.txtL b fs).length + 8 ≤ 20 * (1 + Fm.cts fs)
  | [], _ => by
    have := lword b
    rw [Fm.txtL]
    omega
  | [f], h => by
    rw [WFs] at h
    have := txt_le h.1
    rw [Fm.txtL, Fm.cts]
    omega
  | f :: g :: fs, h => by
    have h0 := helds_le h
    have := jn_cts (Fm.sgn b) (lsgn3 b) (f :: g :: fs) h0
    rw [Fm.txtL]
    show (jn (Fm.sgn b) (Fm.held f :: Fm.helds (g :: fs))).length + 8 ≤ _
    rw [Fm.helds_map]
    rw [List.map_cons] at this
    omega
theorem helds_le : ∀ {fs : List Fm}, WFs fs → ∀ f ∈ fs, (Fm.held f).length + 6 ≤ 20 * f.ct
  | f :: fs, h, g, hm => by
    rw [WFs] at h
    rcases List.mem_cons.mp hm with e | e
    · rw [e]; exact held_of (txt_le h.1)
    · exact helds_le h.2 g e
end
section
variable {P : Program} {w : World} {K : PySem.W.Frag} {mg : Str → Option Value} {base : Heap}
/-! ### bare -/
def spBare (K : PySem.W.Frag) (n : Nat) : Sp := fun vs H Q _ => ∃ (v : V) (f : Fm), vs = [v] ∧ FmAt K H v f ∧ f.dp < n ∧ ∀ v' : V, FmAt K H v' (Fm.bare f) → Q v' H
abbrev nBare : List Str := ["formula"]
theorem scBare : FnScope nBare ["formula"] (defScope sBare) := ⟨rfl, rfl, rfl, by decide +kernel, rfl, by decide +kernel, by decide +kernel⟩
theorem ok_bare {n : Nat} {f : Addr} {fd : FuncData} (B : Bt mg) (cBare : Cal P w K mg base n "_law_bare" (spBare K n) []) (F : Fun K "_law_bare" "_law_bare" sBare f fd) : FnOk P w K mg base CX0 (n + 1) f fd ["formula"] (spBare K (n + 1)) := by
  refine F.ok scBare (fun vs H Q E h => ?_) (fun cdv A outer s H vs Q E hr h => ?_)
  · obtain ⟨v, f, rfl, _⟩ := h
    rfl
  obtain ⟨v, fm, rfl, hF, hd, q⟩ := h
  have nd := scBare.nd
  refine ⟨_, (pss_cons (ps_if (PW.pt (pw_and (PW.pt (pw_or (pt_cmpR op_eq (pe_ix ix_tup (pv 0) pe_int (fun _ _ => rfl)) pe_str (nomark _)) (pw_or1 (pt_cmpR op_eq (pe_ix ix_tup (pv 0) pe_int (fun _ _ => rfl)) pe_str (nomark _))))) (pw_and1 (pt_cmpR op_eq (pe_callB call_len_seq rfl B.len PySem.boot_len (pa_cons (pe_ix ix_tup (pv 0) pe_int (fun _ _ => rfl)) pa_nil)) pe_int (nomark _))))) (pss_one (ps_ret (pe_c cBare hr (by omega) rfl (pa_cons (pe_ix ix_tup (pe_ix ix_tup (pv 0) pe_int (fun _ _ => rfl)) pe_int (fun _ _ => rfl)) pa_nil)))) pss_nil)
    (pss_one (ps_ret (pv 0)))), ?_⟩
  have hF0 := hF
  cases fm with
  | con b fs =>
    rw [FmAt] at hF
    obtain ⟨a, t, us, rfl, h1, h2, h3⟩ := hF
    have lu := h3.length
    refine ⟨_, rfl, a, _, _, _, rfl, rfl, h1, at_of (j := 0) rfl rfl, rfl, _, rfl, ?_⟩
    refine (fun fin => ite2 (fun _ => fin) (fun c => ⟨_, rfl, a, _, _, _, rfl, rfl, h1, at_of (j := 0) rfl rfl, rfl, true, ?e2, fin⟩)) ?fin
    case e2 =>
      cases b with
      | true => exact absurd (by decide +kernel) c
      | false => decide +kernel
    case fin =>
      refine ⟨_, rfl, a, _, _, _, rfl, rfl, h1, at_of (j := 1) rfl rfl, t, us, rfl, .inr h2, rfl, _, rfl, ite2 (fun c => ?_) (fun c => ?_)⟩
      · have z : (us.length : Int) = 1 := by simpa using of_decide_eq_true c
        cases fs with
        | nil => rw [h3.unnil] at z; simp at z
        | cons g gs =>
          cases gs with
          | cons _ _ => simp at lu; omega
          | nil =>
            obtain ⟨u, r', rfl, hu, hr'⟩ := h3.uncons
            have zd : max (1 + g.dp) 0 < n + 1 := hd
            exact ⟨_, rfl, a, _, _, _, rfl, rfl, h1, at_of (j := 1) rfl rfl, t, _, _, _, rfl, rfl, h2, at_of (j := 0) rfl rfl, u, g, rfl, hu, by omega, q⟩
      · refine ⟨_, rfl, q _ ?_⟩
        rw [Fm.bare_id]
        · exact hF0
        · cases fs with
          | nil => rfl
          | cons g gs =>
            cases gs with
            | cons _ _ => rfl
            | nil => exact absurd (by rw [lu]; rfl) c
  | rel n xs =>
    rw [FmAt] at hF
    obtain ⟨a, t, rfl, h1, h2⟩ := hF
    refine ⟨_, rfl, a, _, _, _, rfl, rfl, h1, at_of (j := 0) rfl rfl, rfl, false, (by decide +kernel), ?_⟩
    exact ⟨_, rfl, a, _, _, _, rfl, rfl, h1, at_of (j := 0) rfl rfl, rfl, false, (by decide +kernel), _, rfl, q _ hF0⟩
  | same x y =>
    rw [FmAt] at hF
    obtain ⟨a, rfl, h1⟩ := hF
    refine ⟨_, rfl, a, _, _, _, rfl, rfl, h1, at_of (j := 0) rfl rfl, rfl, false, (by decide +kernel), ?_⟩
    exact ⟨_, rfl, a, _, _, _, rfl, rfl, h1, at_of (j := 0) rfl rfl, rfl, false, (by decide +kernel), _, rfl, q _ hF0⟩
  | neg g =>
    rw [FmAt] at hF
    obtain ⟨a, u, rfl, h1, h2⟩ := hF
    refine ⟨_, rfl, a, _, _, _, rfl, rfl, h1, at_of (j := 0) rfl rfl, rfl, false, (by decide +kernel), ?_⟩
    exact ⟨_, rfl, a, _, _, _, rfl, rfl, h1, at_of (j := 0) rfl rfl, rfl, false, (by decide +kernel), _, rfl, q _ hF0⟩
  | qu b x g =>
    rw [FmAt] at hF
    obtain ⟨a, u, rfl, h1, h2⟩ := hF
    refine ⟨_, rfl, a, _, _, _, rfl, rfl, h1, at_of (j := 0) rfl rfl, rfl, false, (by cases b <;> decide +kernel), ?_⟩
    exact ⟨_, rfl, a, _, _, _, rfl, rfl, h1, at_of (j := 0) rfl rfl, rfl, false, (by cases b <;> decide +kernel), _, rfl, q _ hF0⟩
end
end K2

set_option Elab.async false
set_option linter.all false
set_option maxRecDepth 100000
set_option maxHeartbeats 4000000
namespace K2
open PySem L2 Fo
open C8 (Cal pe_c pss_cut)
section
variable {P : Program} {w : World} {K : PySem.W.Frag} {mg : Str → Option Value} {base : Heap}
/-! ### held, text of the law -/
def spText (K : PySem.W.Frag) (n : Nat) : Sp := fun vs H Q _ => ∃ (v : V) (f : Fm), vs = [v] ∧ FmAt K H v f ∧ f.dp < n ∧ WF f ∧ f.ct ≤ 100 ∧ ∀ H' : Hp, Same H H' → Q (.str (Fm.txt f)) H'
def spHeld (K : PySem.W.Frag) (n : Nat) : Sp := fun vs H Q _ => ∃ (v : V) (f : Fm), vs = [v] ∧ FmAt K H v f ∧ f.dp < n ∧ WF f ∧ f.ct ≤ 100 ∧ ∀ H' : Hp, Same H H' → Q (.str (Fm.held f)) H'
abbrev nHeld : List Str := ["formula"]
abbrev nText : List Str := ["formula", "kind", "row"]
theorem scHeld : FnScope nHeld ["formula"] (defScope sHeld) := ⟨rfl, rfl, rfl, by decide +kernel, rfl, by decide +kernel, by decide +kernel⟩
theorem scText : FnScope nText ["formula"] (defScope sText) := ⟨rfl, rfl, rfl, by decide +kernel, rfl, by decide +kernel, by decide +kernel⟩
theorem big9 {n : Nat} (h : n ≤ 9000) : n ≤ sizeLine := Nat.le_of_lt (lineOk (by omega))
theorem ok_held {n k : Nat} {f : Addr} {fd : FuncData} (hk : n ≤ k) (B : Bt mg) (cBare : Cal P w K mg base n "_law_bare" (spBare K n) []) (cText : Cal P w K mg base k "_law_text" (spText K n) []) (F : Fun K "_law_held" "_law_held" sHeld f fd) : FnOk P w K mg base CX0 (k + 1) f fd ["formula"] (spHeld K n) := by
  refine F.ok scHeld (fun vs H Q E h => ?_) (fun cdv A outer s H vs Q E hr h => ?_)
  · obtain ⟨v, f, rfl, _⟩ := h
    rfl
  obtain ⟨v, fm, rfl, hF, hd, hw, hc, q⟩ := h
  have nd := scHeld.nd
  refine ⟨_, (pss_cons (ps_set (i := 0) nd rfl (.inl rfl) (pe_c cBare hr (by omega) rfl (pa_cons (pv 0) pa_nil)))
    (pss_cons (ps_if (PW.pt (pw_or (pt_cmpR op_in_seq (pe_ix ix_tup (pv 0) pe_int (fun _ _ => rfl)) (pe_lst (pa_cons pe_str (pa_cons pe_str pa_nil))) rfl) (pw_or1 (PW.pt (pw_and (pt_cmpR op_in_seq (pe_ix ix_tup (pv 0) pe_int (fun _ _ => rfl)) (pe_lst (pa_cons pe_str (pa_cons pe_str pa_nil))) rfl) (pw_and1 (pt_cmpR op_gt (pe_callB call_len_seq rfl B.len PySem.boot_len (pa_cons (pe_ix ix_tup (pv 0) pe_int (fun _ _ => rfl)) pa_nil)) pe_int (nomark _)))))))) (pss_one (ps_ret (pe_op op_add_str (pe_op op_add_str pe_str (pe_c cText hr (by omega) rfl (pa_cons (pv 0) pa_nil))) pe_str))) pss_nil)
    (pss_one (ps_ret (pe_c cText hr (by omega) rfl (pa_cons (pv 0) pa_nil)))))), ?_⟩
  refine ⟨_, rfl, v, fm, rfl, hF, hd, fun u hg => ?_⟩
  have hb := Fm.bare_is fm
  have hwb := bare_wf hw
  have hcb := Nat.le_trans (Fm.bare_ct fm) hc
  have hdb := Nat.lt_of_le_of_lt (Fm.bare_dp fm) hd
  have eh : Fm.held fm = if Fm.wide (Fm.bare fm) = true then "(" ++ (Fm.txt (Fm.bare fm) ++ ")") else Fm.txt (Fm.bare fm) := by unfold Fm.held; rw [Fm.txt_bare]
  rw [eh] at q
  clear eh
  generalize Fm.bare fm = g at *
  have lt := txt_le hwb
  obtain ⟨a, r, rfl, h1⟩ := FmAt.tag hg
  refine ⟨_, rfl, a, _, _, _, rfl, rfl, h1, at_of (j := 0) rfl rfl, l2, fun T nT => ⟨T, _, rfl, .inl (SqL.of upd_same), rfl, rfl, _, inB (in_some g), ?_⟩⟩
  have s2 := same_new nT (.lst [V.str "some", V.str "all"])
  have k2 := Tk.of_same (K := K) s2
  generalize upd H T (.lst [V.str "some", V.str "all"]) = H2 at s2 k2 ⊢
  have hg2 := hg.tk k2
  have three : ∀ H3 H4 : Hp, Same H H3 → Same H3 H4 → Fm.wide g = true → Q (.str (("(" ++ Fm.txt g) ++ ")")) H4 := fun H3 H4 s3 s4 hw' => by
    have := q H4 (s3.trans s4)
    rw [if_pos hw'] at this
    rw [Str.append_assoc]
    exact this
  have one : ∀ H3 H4 : Hp, Same H H3 → Same H3 H4 → ¬ Fm.wide g = true → Q (.str (Fm.txt g)) H4 := fun H3 H4 s3 s4 hw' => by
    have := q H4 (s3.trans s4)
    rw [if_neg hw'] at this
    exact this
  have b1 : (Str.ofString "(").length + (Fm.txt g).length ≤ sizeLine := big9 (by rw [lpar]; omega)
  have b2 : ((Str.ofString "(") ++ Fm.txt g).length + (Str.ofString ")").length ≤ sizeLine := big9 (by rw [s_len, lpar, lpar2]; omega)
  cases g with
  | qu b x f => exact ⟨_, rfl, .ref a, _, rfl, hg2, hdb, hwb, hcb, fun H4 s4 => ⟨_, _, rfl, rfl, b1, _, _, rfl, rfl, b2, three _ _ s2 s4 rfl⟩⟩
  | con b fs =>
    have h1' := k2 _ _ h1
    refine ⟨_, rfl, a, _, _, _, rfl, rfl, h1', at_of (j := 0) rfl rfl, l2, fun S nS => ⟨S, _, rfl, .inl (SqL.of upd_same), rfl, rfl, _, inB (in_and (.con b fs)), ?_⟩⟩
    have s3 := s2.trans (same_new nS (.lst [V.str "and", V.str "or"]))
    have hg3 := hg2.tk (tk_new (K := K) nS (.lst [V.str "and", V.str "or"]))
    have hg4 := hg3
    rw [FmAt] at hg4
    obtain ⟨a', t, us, e1, h2, h3, h4⟩ := hg4
    cases e1
    have lu := h4.length
    refine ⟨_, rfl, a, _, _, _, rfl, rfl, h2, at_of (j := 1) rfl rfl, t, us, rfl, .inr h3, _, _, rfl, rfl, _, rfl, ite2 (fun c => ?_) (fun c => ?_)⟩
    · refine ⟨_, rfl, .ref a, _, rfl, hg3, hdb, hwb, hcb, fun H4 s4 => ⟨_, _, rfl, rfl, b1, _, _, rfl, rfl, b2, three _ _ s3 s4 ?_⟩⟩
      cases fs with
      | nil =>
        have z : (us.length : Int) > 0 := of_decide_eq_true c
        simp at lu
        rw [lu] at z
        simp at z
      | cons f fs => rfl
    · refine ⟨_, rfl, .ref a, _, rfl, hg3, hdb, hwb, hcb, fun H4 s4 => one _ _ s3 s4 ?_⟩
      cases fs with
      | nil => intro z; cases z
      | cons f fs => exact absurd (decide_eq_true (by rw [lu, List.length_cons]; omega)) c
  | rel n xs =>
    refine ⟨_, rfl, a, _, _, _, rfl, rfl, k2 _ _ h1, at_of (j := 0) rfl rfl, l2, fun S nS => ⟨S, _, rfl, .inl (SqL.of upd_same), rfl, rfl, _, inB (in_and (.rel n xs)), ?_⟩⟩
    exact ⟨_, rfl, .ref a, _, rfl, hg2.tk (tk_new nS _), hdb, hwb, hcb, fun H4 s4 => one _ _ (s2.trans (same_new nS _)) s4 (by intro z; cases z)⟩
  | same x y =>
    refine ⟨_, rfl, a, _, _, _, rfl, rfl, k2 _ _ h1, at_of (j := 0) rfl rfl, l2, fun S nS => ⟨S, _, rfl, .inl (SqL.of upd_same), rfl, rfl, _, inB (in_and (.same x y)), ?_⟩⟩
    exact ⟨_, rfl, .ref a, _, rfl, hg2.tk (tk_new nS _), hdb, hwb, hcb, fun H4 s4 => one _ _ (s2.trans (same_new nS _)) s4 (by intro z; cases z)⟩
  | neg f =>
    refine ⟨_, rfl, a, _, _, _, rfl, rfl, k2 _ _ h1, at_of (j := 0) rfl rfl, l2, fun S nS => ⟨S, _, rfl, .inl (SqL.of upd_same), rfl, rfl, _, inB (in_and (.neg f)), ?_⟩⟩
    exact ⟨_, rfl, .ref a, _, rfl, hg2.tk (tk_new nS _), hdb, hwb, hcb, fun H4 s4 => one _ _ (s2.trans (same_new nS _)) s4 (by intro z; cases z)⟩
theorem sum_held : ∀ fs : List Fm, WFs fs → ((fs.map Fm.held).map (·.length)).sum ≤ 20 * Fm.cts fs
  | [], _ => Nat.zero_le _
  | f :: fs, h => by
    have h1 := helds_le h f List.mem_cons_self
    rw [WFs] at h
    have h2 := sum_held fs h.2
    rw [List.map_cons, List.map_cons, List.sum_cons, Fm.cts]
    omega
theorem ok_text {n k : Nat} {f : Addr} {fd : FuncData} (hk : n + 1 ≤ k) (B : Bt mg) (cBare : Cal P w K mg base (n + 1) "_law_bare" (spBare K (n + 1)) []) (cHeld : Cal P w K mg base k "_law_held" (spHeld K n) []) (cText : Cal P w K mg base k "_law_text" (spText K n) []) (F : Fun K "_law_text" "_law_text" sText f fd) : FnOk P w K mg base CX0 (k + 1) f fd ["formula"] (spText K (n + 1)) := by
  refine F.ok scText (fun vs H Q E h => ?_) (fun cdv A outer s H vs Q E hr h => ?_)
  · obtain ⟨v, f, rfl, _⟩ := h
    rfl
  obtain ⟨v, fm, rfl, hF, hd, hw, hc, q⟩ := h
  have nd := scText.nd
  refine ⟨_, (pss_cons (ps_set (i := 0) nd rfl (.inl rfl) (pe_c cBare hr (by omega) rfl (pa_cons (pv 0) pa_nil)))
    (pss_cons (ps_set (i := 1) nd rfl (.inl rfl) (pe_ix ix_tup (pv 0) pe_int (fun _ _ => rfl)))
    (pss_cons (ps_if (pt_cmpR op_eq (pv 1) pe_str (nomark _)) (pss_one (ps_ret (pe_op op_add_str (pe_op op_add_str (pe_op op_add_str (pe_ix ix_tup (pv 0) pe_int (fun _ _ => rfl)) pe_str) (pe_join pe_str (pe_callTy call_list_of rfl B.list (by decide +kernel) (pa_cons (pe_ix ix_tup (pv 0) pe_int (fun _ _ => rfl)) pa_nil)))) pe_str))) pss_nil)
    (pss_cons (ps_if (pt_cmpR op_eq (pv 1) pe_str (nomark _)) (pss_one (ps_ret (pe_op op_add_str (pe_op op_add_str (pe_ix ix_tup (pv 0) pe_int (fun _ _ => rfl)) pe_str) (pe_ix ix_tup (pv 0) pe_int (fun _ _ => rfl))))) pss_nil)
    (pss_cons (ps_if (pt_cmpR op_eq (pv 1) pe_str (nomark _)) (pss_one (ps_ret (pe_op op_add_str pe_str (pe_c cHeld hr (by omega) rfl (pa_cons (pe_ix ix_tup (pv 0) pe_int (fun _ _ => rfl)) pa_nil))))) pss_nil)
    (pss_cons (ps_if (PW.pt (pw_or (pt_cmpR op_eq (pv 1) pe_str (nomark _)) (pw_or1 (pt_cmpR op_eq (pv 1) pe_str (nomark _))))) (pss_one (ps_ret (pe_op op_add_str (pe_op op_add_str (pe_op op_add_str (pe_op op_add_str (pv 1) pe_str) (pe_ix ix_tup (pv 0) pe_int (fun _ _ => rfl))) pe_str) (pe_c cText hr (by omega) rfl (pa_cons (pe_ix ix_tup (pv 0) pe_int (fun _ _ => rfl)) pa_nil))))) pss_nil)
    (pss_cons (ps_if (pt_cmpR op_eq (pe_callB call_len_seq rfl B.len PySem.boot_len (pa_cons (pe_ix ix_tup (pv 0) pe_int (fun _ _ => rfl)) pa_nil)) pe_int (nomark _)) (pss_one (ps_ret (pe_ix ix_list (pe_lst (pa_cons pe_str (pa_cons pe_str pa_nil))) (pe_callTy call_int1 rfl B.int (by decide +kernel) (pa_cons (pe_cmpR op_eq (pv 1) pe_str (nomark _)) pa_nil)) (fun _ _ => rfl)))) pss_nil)
    (pss_one (ps_ret (pe_join (pe_ix ix_list (pe_lst (pa_cons pe_str (pa_cons pe_str pa_nil))) (pe_callTy call_int1 rfl B.int (by decide +kernel) (pa_cons (pe_cmpR op_eq (pv 1) pe_str (nomark _)) pa_nil)) (fun _ _ => rfl)) (pe_lc (own := [("row", 2)]) (g := gName 2) (tt := tYes) rfl nd (pi_tup (pe_ix ix_tup (pv 0) pe_int (fun _ _ => rfl))) (blkOk_by (own := [("row", 2)]) (N := nText) (sc := defScope sText) (by decide +kernel)) (fun _ _ _ _ _ => (pg_name (i := 2) nd rfl (Or.inl rfl))) (fun _ _ _ _ _ => pts_nil) (fun _ _ _ _ _ => (pe_c cHeld hr (by omega) rfl (pa_cons (pv 2) pa_nil)))))))))))))), ?_⟩
  refine ⟨_, rfl, v, fm, rfl, hF, hd, fun u hg => ?_⟩
  have hb := Fm.bare_is fm
  have hwb := bare_wf hw
  have hcb := Nat.le_trans (Fm.bare_ct fm) hc
  have hdb := Nat.lt_of_le_of_lt (Fm.bare_dp fm) hd
  rw [← Fm.txt_bare] at q
  generalize Fm.bare fm = g at *
  have hg0 := hg
  cases g with
  | rel n xs =>
    rw [FmAt] at hg
    obtain ⟨a, t, rfl, h1, h2⟩ := hg
    rw [WF] at hwb
    have ln := len4 n hwb.1
    have lj := jn_len xs hwb.2.2.1 fun x hx => len8 x (hwb.2.2.2 x hx)
    have ls := sum_len xs hwb.2.2.1 fun x hx => len8 x (hwb.2.2.2 x hx)
    have l2' := hwb.2.2.1
    refine ⟨_, rfl, a, _, _, _, rfl, rfl, h1, at_of (j := 0) rfl rfl, ?_⟩
    refine ⟨_, rfl, rfl, true, (by decide +kernel), ?_⟩
    refine ⟨_, rfl, a, _, _, _, rfl, rfl, h1, at_of (j := 1) rfl rfl, _, _, rfl, rfl, big (by rw [lpar]; omega), ?_⟩
    refine ⟨⟨_, rfl⟩, _, rfl, a, _, _, _, rfl, rfl, h1, at_of (j := 2) rfl rfl, t, _, rfl, .inr h2, fun l nl => ⟨_, l, xs, rfl, rfl, .inl (SqL.of upd_same), (by rw [lcom]; omega), ?_⟩⟩
    rw [join_jn]
    refine ⟨_, _, rfl, rfl, big (by rw [s_len, lpar]; omega), _, _, rfl, rfl, big (by rw [s_len, s_len, lpar, lpar2]; omega), ?_⟩
    have := q _ (same_new nl (.lst (xs.map V.str)))
    rw [Fm.txt] at this
    rw [Str.append_assoc, Str.append_assoc]
    exact this
  | same x y =>
    rw [FmAt] at hg
    obtain ⟨a, rfl, h1⟩ := hg
    rw [WF] at hwb
    have lx := len8 x hwb.1
    have ly := len8 y hwb.2
    refine ⟨_, rfl, a, _, _, _, rfl, rfl, h1, at_of (j := 0) rfl rfl, ?_⟩
    refine ⟨_, rfl, rfl, false, (by decide +kernel), ?_⟩
    refine ⟨_, rfl, rfl, true, (by decide +kernel), ?_⟩
    refine ⟨_, rfl, a, _, _, _, rfl, rfl, h1, at_of (j := 1) rfl rfl, _, _, rfl, rfl, big (by rw [leq]; omega), ?_⟩
    refine ⟨_, rfl, a, _, _, _, rfl, rfl, h1, at_of (j := 2) rfl rfl, _, _, rfl, rfl, big (by rw [s_len, leq]; omega), ?_⟩
    have := q _ (Same.refl H)
    rw [Fm.txt] at this
    rw [Str.append_assoc]
    exact this
  | neg f =>
    rw [FmAt] at hg
    obtain ⟨a, u, rfl, h1, h2⟩ := hg
    rw [WF] at hwb
    have z1 : 1 + f.dp < n + 1 := hdb
    have z2 : 1 + f.ct ≤ 100 := hcb
    have lh := held_of (txt_le hwb)
    refine ⟨_, rfl, a, _, _, _, rfl, rfl, h1, at_of (j := 0) rfl rfl, ?_⟩
    refine ⟨_, rfl, rfl, false, (by decide +kernel), ?_⟩
    refine ⟨_, rfl, rfl, false, (by decide +kernel), ?_⟩
    refine ⟨_, rfl, rfl, true, (by decide +kernel), ?_⟩
    refine ⟨_, rfl, a, _, _, _, rfl, rfl, h1, at_of (j := 1) rfl rfl, u, f, rfl, h2, by omega, hwb, by omega, fun H' s' => ⟨_, _, rfl, rfl, big9 (by rw [ltil]; omega), ?_⟩⟩
    have := q _ s'
    rw [Fm.txt_neg] at this
    exact this
  | qu b x f =>
    rw [FmAt] at hg
    obtain ⟨a, u, rfl, h1, h2⟩ := hg
    rw [WF] at hwb
    have z1 : 1 + f.dp < n + 1 := hdb
    have z2 : 1 + f.ct ≤ 100 := hcb
    have lx := len8 x hwb.1
    have lt := txt_le hwb.2
    have lq := lqn b
    refine ⟨_, rfl, a, _, _, _, rfl, rfl, h1, at_of (j := 0) rfl rfl, ?_⟩
    refine ⟨_, rfl, rfl, false, (by cases b <;> decide +kernel), ?_⟩
    refine ⟨_, rfl, rfl, false, (by cases b <;> decide +kernel), ?_⟩
    refine ⟨_, rfl, rfl, false, (by cases b <;> decide +kernel), ?_⟩
    refine ⟨_, rfl, rfl, _, rfl, ?_⟩
    refine (fun fin => ite2 (fun _ => fin) (fun c => ⟨_, rfl, rfl, true, ?e2, fin⟩)) ?fin
    case e2 =>
      cases b with
      | true => exact absurd (by decide +kernel) c
      | false => decide +kernel
    case fin =>
      refine ⟨_, rfl, _, _, rfl, rfl, big (by rw [lsp]; omega), ?_⟩
      refine ⟨_, rfl, a, _, _, _, rfl, rfl, h1, at_of (j := 1) rfl rfl, _, _, rfl, rfl, big (by rw [s_len, lsp]; omega), ?_⟩
      refine ⟨_, _, rfl, rfl, big (by rw [s_len, s_len, lsp, lcol]; omega), ?_⟩
      refine ⟨_, rfl, a, _, _, _, rfl, rfl, h1, at_of (j := 2) rfl rfl, u, f, rfl, h2, by omega, hwb.2, by omega, fun H' s' => ⟨_, _, rfl, rfl, big9 (by rw [s_len, s_len, s_len, lsp, lcol]; omega), ?_⟩⟩
      have := q _ s'
      rw [Fm.txt] at this
      rw [Str.append_assoc, Str.append_assoc, Str.append_assoc]
      exact this
  | con b fs =>
    rw [FmAt] at hg
    obtain ⟨a, t, us, rfl, h1, h2, h3⟩ := hg
    rw [WF] at hwb
    have z1 : Fm.dps fs < n + 1 := hdb
    have z2 : 1 + Fm.cts fs ≤ 100 := hcb
    have lu := h3.length
    have lc := Fm.len_cts fs
    have hA : decide (V.str (cn b) = V.str "and") = b := by cases b <;> decide +kernel
    refine ⟨_, rfl, a, _, _, _, rfl, rfl, h1, at_of (j := 0) rfl rfl, ?_⟩
    refine ⟨_, rfl, rfl, false, (by cases b <;> decide +kernel), ?_⟩
    refine ⟨_, rfl, rfl, false, (by cases b <;> decide +kernel), ?_⟩
    refine ⟨_, rfl, rfl, false, (by cases b <;> decide +kernel), ?_⟩
    refine ⟨_, rfl, rfl, false, (by cases b <;> decide +kernel), ?_⟩
    refine ⟨_, rfl, rfl, false, (by cases b <;> decide +kernel), ?_⟩
    refine ⟨_, rfl, a, _, _, _, rfl, rfl, h1, at_of (j := 1) rfl rfl, t, us, rfl, .inr h2, rfl, _, rfl, ite2 (fun c => ?_) (fun c => ?_)⟩
    · cases fs with
      | cons f fs =>
        have z : (us.length : Int) = 0 := by simpa using of_decide_eq_true c
        rw [List.length_cons] at lu
        omega
      | nil =>
        refine ⟨l2, fun L nL => ⟨_, rfl, rfl, .inr ⟨_, rfl, L, _, _, .str (Fm.word b), rfl, rfl, SqL.of upd_same, ?_, ?_⟩⟩⟩
        · rw [hA]; cases b <;> rfl
        · have := q _ (same_new nL (.lst [V.str "false", V.str "true"]))
          rw [Fm.txt, Fm.txtL] at this
          exact this
    · have nz : fs ≠ [] := by
        intro z
        subst z
        exact c (by rw [lu]; rfl)
      refine ⟨l2, fun L nL => ⟨_, rfl, rfl, .inr ⟨_, rfl, L, _, _, .str (Fm.sgn b), rfl, rfl, SqL.of upd_same, ?_, ?_⟩⟩⟩
      · rw [hA]; cases b <;> rfl
      have s1 := same_new nL (.lst [V.str " | ", V.str " & "])
      have k1 := Tk.of_same (K := K) s1
      generalize upd H L (.lst [V.str " | ", V.str " & "]) = H1 at s1 k1 ⊢
      refine ⟨⟨_, rfl⟩, _, rfl, a, _, _, _, rfl, rfl, k1 _ _ h1, at_of (j := 1) rfl rfl, t, rfl, ⟨_, k1 _ _ h2⟩, fun D nD => ?_⟩
      refine lc_tup (xs := us) (fun i H' => H' D = some (.lst (((fs.take i).map Fm.held).map V.str)) ∧ Same H1 H') ⟨upd_same, same_new nD _⟩ (fun i H' _ h => Tk.of_same (s1.trans h.2) _ _ h2) ?_ ?_
      · rintro i u H2 hi ⟨hD, s2⟩
        obtain ⟨g, hgi, hu⟩ := (h3.tk (Tk.of_same (s1.trans s2))).get hi
        have hm := List.mem_of_getElem? hgi
        have d1 := Fm.dps_mem hm
        have d2 := Fm.cts_mem hm
        refine ⟨rfl, _, rfl, u, g, rfl, hu, by omega, hwb.mem hm, by omega, fun H3 s3 => ⟨_, s3 _ _ hD, lineOk (by rw [List.length_map, List.length_map, List.length_take]; omega), ?_, same_to (s2.trans s3) nD⟩⟩
        rw [upd_same, List.take_succ, hgi, List.map_append, List.map_append]
        rfl
      · rintro H2 ⟨hD, s2⟩
        rw [lu, List.take_length] at hD
        have ls := sum_held fs hwb
        refine ⟨_, D, fs.map Fm.held, rfl, rfl, .inl (SqL.of hD), ?_, ?_⟩
        · rw [lsgn3, List.length_map]; omega
        · rw [join_jn]
          have := q _ (s1.trans s2)
          have et : Fm.txt (.con b fs) = jn (Fm.sgn b) (fs.map Fm.held) := by
            cases fs with
            | nil => exact absurd rfl nz
            | cons f fs =>
              cases fs with
              | nil => cases hb
              | cons g fs =>
                rw [Fm.txt_many]
                show _ = jn (Fm.sgn b) (Fm.held f :: (g :: fs).map Fm.held)
                rw [jn_cat, List.map_map]
                rfl
          rw [et] at this
          exact this
end
end K2

set_option Elab.async false
set_option linter.all false
set_option maxRecDepth 100000
set_option maxHeartbeats 4000000
namespace K2
open PySem L2 Fo
open C8 (Cal pe_c pss_cut)
section
variable {P : Program} {w : World} {K : PySem.W.Frag} {mg : Str → Option Value} {base : Heap}
/-! ### plainer -/
def spPlainer (K : PySem.W.Frag) (n : Nat) : Sp := fun vs H Q _ => ∃ (v : V) (f : Fm), vs = [v] ∧ FmAt K H v f ∧ f.dp < n ∧ f.ct ≤ 100 ∧ ∀ (v' : V) (H' : Hp), Same H H' → FmAt K H' v' (Fm.plain f) → Q v' H'
abbrev nPlainer : List Str := ["formula", "kind", "row"]
theorem scPlainer : FnScope nPlainer ["formula"] (defScope sPlainer) := ⟨rfl, rfl, rfl, by decide +kernel, rfl, by decide +kernel, by decide +kernel⟩
theorem ok_plainer {n : Nat} {f : Addr} {fd : FuncData} (B : Bt mg) (cBare : Cal P w K mg base (n + 1) "_law_bare" (spBare K (n + 1)) []) (cPlainer : Cal P w K mg base (n + 1) "_law_plainer" (spPlainer K n) []) (F : Fun K "_law_plainer" "_law_plainer" sPlainer f fd) : FnOk P w K mg base CX0 (n + 2) f fd ["formula"] (spPlainer K (n + 1)) := by
  refine F.ok scPlainer (fun vs H Q E h => ?_) (fun cdv A outer s H vs Q E hr h => ?_)
  · obtain ⟨v, f, rfl, _⟩ := h
    rfl
  obtain ⟨v, fm, rfl, hF, hd, hc, q⟩ := h
  have nd := scPlainer.nd
  refine ⟨_, (pss_cons (ps_set (i := 0) nd rfl (.inl rfl) (pe_c cBare hr (by omega) rfl (pa_cons (pv 0) pa_nil)))
    (pss_cons (ps_set (i := 1) nd rfl (.inl rfl) (pe_ix ix_tup (pv 0) pe_int (fun _ _ => rfl)))
    (pss_cons (ps_if (PW.pt (pw_or (pt_cmpR op_eq (pv 1) pe_str (nomark _)) (pw_or1 (pt_cmpR op_eq (pv 1) pe_str (nomark _))))) (pss_one (ps_ret (pe_tup (pa_cons (pv 1) (pa_cons (pe_callTy call_tuple_of rfl B.tuple (by decide +kernel) (pa_cons (pe_lc (own := [("row", 2)]) (g := gName 2) (tt := tYes) rfl nd (pi_tup (pe_ix ix_tup (pv 0) pe_int (fun _ _ => rfl))) (blkOk_by (own := [("row", 2)]) (N := nPlainer) (sc := defScope sPlainer) (by decide +kernel)) (fun _ _ _ _ _ => (pg_name (i := 2) nd rfl (Or.inl rfl))) (fun _ _ _ _ _ => pts_nil) (fun _ _ _ _ _ => (pe_c cPlainer hr (Nat.le_refl _) rfl (pa_cons (pv 2) pa_nil)))) pa_nil)) pa_nil))))) pss_nil)
    (pss_cons (ps_if (pt_cmpR op_eq (pv 1) pe_str (nomark _)) (pss_one (ps_ret (pe_tup (pa_cons pe_str (pa_cons (pe_c cPlainer hr (Nat.le_refl _) rfl (pa_cons (pe_ix ix_tup (pv 0) pe_int (fun _ _ => rfl)) pa_nil)) pa_nil))))) pss_nil)
    (pss_cons (ps_if (PW.pt (pw_or (pt_cmpR op_eq (pv 1) pe_str (nomark _)) (pw_or1 (pt_cmpR op_eq (pv 1) pe_str (nomark _))))) (pss_one (ps_ret (pe_tup (pa_cons (pv 1) (pa_cons (pe_ix ix_tup (pv 0) pe_int (fun _ _ => rfl)) (pa_cons (pe_c cPlainer hr (Nat.le_refl _) rfl (pa_cons (pe_ix ix_tup (pv 0) pe_int (fun _ _ => rfl)) pa_nil)) pa_nil)))))) pss_nil)
    (pss_one (ps_ret (pv 0)))))))), ?_⟩
  refine ⟨_, rfl, v, fm, rfl, hF, hd, fun u hg => ?_⟩
  have hb := Fm.bare_is fm
  have hcb := Nat.le_trans (Fm.bare_ct fm) hc
  have hdb := Nat.lt_of_le_of_lt (Fm.bare_dp fm) hd
  rw [← Fm.plain_bare] at q
  generalize Fm.bare fm = g at *
  have hg0 := hg
  cases g with
  | rel n xs =>
    rw [FmAt] at hg
    obtain ⟨a, t, rfl, h1, h2⟩ := hg
    refine ⟨_, rfl, a, _, _, _, rfl, rfl, h1, at_of (j := 0) rfl rfl, ?_⟩
    refine ⟨_, rfl, rfl, false, (by decide +kernel), _, rfl, rfl, false, (by decide +kernel), ?_⟩
    refine ⟨_, rfl, rfl, false, (by decide +kernel), ?_⟩
    refine ⟨_, rfl, rfl, false, (by decide +kernel), _, rfl, rfl, false, (by decide +kernel), ?_⟩
    exact ⟨_, rfl, q _ _ (Same.refl _) (by rw [Fm.plain]; exact hg0)⟩
  | same x y =>
    rw [FmAt] at hg
    obtain ⟨a, rfl, h1⟩ := hg
    refine ⟨_, rfl, a, _, _, _, rfl, rfl, h1, at_of (j := 0) rfl rfl, ?_⟩
    refine ⟨_, rfl, rfl, false, (by decide +kernel), _, rfl, rfl, false, (by decide +kernel), ?_⟩
    refine ⟨_, rfl, rfl, false, (by decide +kernel), ?_⟩
    refine ⟨_, rfl, rfl, false, (by decide +kernel), _, rfl, rfl, false, (by decide +kernel), ?_⟩
    exact ⟨_, rfl, q _ _ (Same.refl _) (by rw [Fm.plain]; exact hg0)⟩
  | neg f =>
    rw [FmAt] at hg
    obtain ⟨a, u, rfl, h1, h2⟩ := hg
    have z1 : 1 + f.dp < n + 1 := hdb
    have z2 : 1 + f.ct ≤ 100 := hcb
    refine ⟨_, rfl, a, _, _, _, rfl, rfl, h1, at_of (j := 0) rfl rfl, ?_⟩
    refine ⟨_, rfl, rfl, false, (by decide +kernel), _, rfl, rfl, false, (by decide +kernel), ?_⟩
    refine ⟨_, rfl, rfl, true, (by decide +kernel), ?_⟩
    refine ⟨_, rfl, a, _, _, _, rfl, rfl, h1, at_of (j := 1) rfl rfl, u, f, rfl, h2, by omega, by omega, fun v' H' s' hv => ⟨l2, fun p np => q _ _ (s'.trans (same_new np _)) (by rw [Fm.plain]; exact mk_neg hv np)⟩⟩
  | qu b x f =>
    rw [FmAt] at hg
    obtain ⟨a, u, rfl, h1, h2⟩ := hg
    have z1 : 1 + f.dp < n + 1 := hdb
    have z2 : 1 + f.ct ≤ 100 := hcb
    refine ⟨_, rfl, a, _, _, _, rfl, rfl, h1, at_of (j := 0) rfl rfl, ?_⟩
    refine ⟨_, rfl, rfl, false, (by cases b <;> decide +kernel), _, rfl, rfl, false, (by cases b <;> decide +kernel), ?_⟩
    refine ⟨_, rfl, rfl, false, (by cases b <;> decide +kernel), ?_⟩
    refine ⟨_, rfl, rfl, _, rfl, ?_⟩
    refine (fun fin => ite2 (fun _ => fin) (fun c => ⟨_, rfl, rfl, true, ?e2, fin⟩)) ?fin
    case e2 =>
      cases b with
      | true => exact absurd (by decide +kernel) c
      | false => decide +kernel
    case fin =>
      exact ⟨_, rfl, _, rfl, a, _, _, _, rfl, rfl, h1, at_of (j := 1) rfl rfl, _, rfl, a, _, _, _, rfl, rfl, h1, at_of (j := 2) rfl rfl, u, f, rfl, h2, by omega, by omega, fun v' H' s' hv => ⟨l3, fun p np => q _ _ (s'.trans (same_new np _)) (by rw [Fm.plain]; exact mk_qu hv np)⟩⟩
  | con b fs =>
    rw [FmAt] at hg
    obtain ⟨a, t, us, rfl, h1, h2, h3⟩ := hg
    have z1 : Fm.dps fs < n + 1 := hdb
    have z2 : 1 + Fm.cts fs ≤ 100 := hcb
    have lu := h3.length
    have lc := Fm.len_cts fs
    have ep : Fm.plain (.con b fs) = .con b (fs.map Fm.plain) := by
      cases fs with
      | nil => rw [Fm.plain, Fm.plainL]; rfl
      | cons f fs =>
        cases fs with
        | nil => cases hb
        | cons g fs => exact Fm.plain_many b f g fs
    rw [ep] at q
    refine ⟨_, rfl, a, _, _, _, rfl, rfl, h1, at_of (j := 0) rfl rfl, ?_⟩
    refine ⟨_, rfl, rfl, _, rfl, ?_⟩
    refine (fun fin => ite2 (fun _ => fin) (fun c => ⟨_, rfl, rfl, true, ?e2, fin⟩)) ?fin
    case e2 =>
      cases b with
      | true => exact absurd (by decide +kernel) c
      | false => decide +kernel
    case fin =>
      refine ⟨_, rfl, _, rfl, a, _, _, _, rfl, rfl, h1, at_of (j := 1) rfl rfl, t, rfl, ⟨_, h2⟩, fun D nD => ?_⟩
      refine lc_tup (xs := us) (fun i H' => ∃ ds : List V, H' D = some (.lst ds) ∧ FmsAt K H' ds ((fs.take i).map Fm.plain) ∧ Same H H') ⟨[], upd_same, .nil, same_new nD _⟩ (fun i H' _ ⟨_, _, _, h⟩ => Tk.of_same h _ _ h2) ?_ ?_
      · rintro i u H2 hi ⟨ds, hD, hk, s2⟩
        obtain ⟨g, hgi, hu⟩ := (h3.tk (Tk.of_same s2)).get hi
        have hm := List.mem_of_getElem? hgi
        have d1 := Fm.dps_mem hm
        have d2 := Fm.cts_mem hm
        have ld := hk.length
        rw [List.length_map, List.length_take] at ld
        refine ⟨rfl, _, rfl, u, g, rfl, hu, by omega, by omega, fun v' H3 s3 hv => ⟨_, s3 _ _ hD, lineOk (by omega), ds ++ [v'], upd_same, ?_, same_to (s2.trans s3) nD⟩⟩
        rw [List.take_succ, hgi, List.map_append]
        exact (FmsAt.append (.cons hv .nil) (hk.tk (.of_same s3))).tk (tk_lst (s3 _ _ hD) _)
      · rintro H2 ⟨ds, hD, hk, s2⟩
        rw [lu, List.take_length] at hk
        exact ⟨D, ds, rfl, .inl ⟨SqL.of hD, fun p np => ⟨l2, fun r nr => q _ _ ((s2.trans (same_new np _)).trans (same_new nr _)) (mk_con (SqT.of upd_same) (hk.tk (tk_new np _)) nr)⟩⟩⟩
end
end K2

set_option Elab.async false
set_option linter.all false
set_option maxRecDepth 100000
set_option maxHeartbeats 4000000
namespace Fo
open PySem L2
/-- texts and tuples of such -/
inductive Tr where
  | tx (x : Str)
  | tp (ts : List Tr)
namespace Tr
mutual
def dep : Tr → Nat
  | .tx _ => 0
  | .tp ts => deps ts
def deps : List Tr → Nat
  | [] => 0
  | t :: ts => max (1 + dep t) (deps ts)
end
mutual
def wid : Tr → Nat
  | .tx _ => 0
  | .tp ts => max ts.length (wids ts)
def wids : List Tr → Nat
  | [] => 0
  | t :: ts => max (wid t) (wids ts)
end
theorem deps_mem : ∀ {ts : List Tr} {t : Tr}, t ∈ ts → 1 + dep t ≤ deps ts
  | u :: ts, t, h => by
    rw [deps]
    rcases List.mem_cons.mp h with e | e
    · rw [e]; exact Nat.le_max_left _ _
    · exact Nat.le_trans (deps_mem e) (Nat.le_max_right _ _)
theorem wids_mem : ∀ {ts : List Tr} {t : Tr}, t ∈ ts → wid t ≤ wids ts
  | u :: ts, t, h => by
    rw [wids]
    rcases List.mem_cons.mp h with e | e
    · rw [e]; exact Nat.le_max_left _ _
    · exact Nat.le_trans (wids_mem e) (Nat.le_max_right _ _)
end Tr
mutual
def TrAt (K : PySem.W.Frag) (H : Hp) : V → Tr → Prop
  | v, .tx x => v = .str x
  | v, .tp ts => ∃ a us, v = .ref a ∧ SqT K H a us ∧ TrsAt K H us ts
def TrsAt (K : PySem.W.Frag) (H : Hp) : List V → List Tr → Prop
  | us, [] => us = []
  | us, t :: ts => ∃ u r, us = u :: r ∧ TrAt K H u t ∧ TrsAt K H r ts
end
mutual
theorem TrAt.tk {K : PySem.W.Frag} {H H' : Hp} (k : Tk K H H') : ∀ {v : V} {t : Tr}, TrAt K H v t → TrAt K H' v t
  | v, .tx x, h => by
    rw [TrAt] at h ⊢
    exact h
  | v, .tp ts, h => by
    rw [TrAt] at h ⊢
    obtain ⟨a, us, e, h1, h2⟩ := h
    exact ⟨a, us, e, k _ _ h1, TrsAt.tk k h2⟩
theorem TrsAt.tk {K : PySem.W.Frag} {H H' : Hp} (k : Tk K H H') : ∀ {us : List V} {ts : List Tr}, TrsAt K H us ts → TrsAt K H' us ts
  | us, [], h => by
    rw [TrsAt] at h ⊢
    exact h
  | us, t :: ts, h => by
    rw [TrsAt] at h ⊢
    obtain ⟨u, r, e, h1, h2⟩ := h
    exact ⟨u, r, e, TrAt.tk k h1, TrsAt.tk k h2⟩
end
theorem TrsAt.all2 {K : PySem.W.Frag} {H : Hp} : ∀ {us : List V} {ts : List Tr}, TrsAt K H us ts → All2 (TrAt K H) us ts
  | us, [], h => by rw [TrsAt] at h; subst h; exact .nil
  | us, t :: ts, h => by
    rw [TrsAt] at h
    obtain ⟨u, r, rfl, h1, h2⟩ := h
    exact .cons h1 h2.all2
theorem TrsAt.of {K : PySem.W.Frag} {H : Hp} {us : List V} {ts : List Tr} (h : All2 (TrAt K H) us ts) : TrsAt K H us ts := by
  induction h with
  | nil => rw [TrsAt]
  | cons r _ ih => rw [TrsAt]; exact ⟨_, _, rfl, r, ih⟩

mutual
def tree : Fm → Tr
  | .rel n xs => .tp [.tx "rel", .tx n, .tp (xs.map Tr.tx)]
  | .same x y => .tp [.tx "same", .tx x, .tx y]
  | .neg f => .tp [.tx "not", tree f]
  | .con b fs => .tp [.tx (cn b), .tp (trees fs)]
  | .qu b x f => .tp [.tx (qn b), .tx x, tree f]
def trees : List Fm → List Tr
  | [] => []
  | f :: fs => tree f :: trees fs
end
theorem strs_at {K : PySem.W.Frag} {H : Hp} : ∀ xs : List Str, TrsAt K H (xs.map V.str) (xs.map Tr.tx)
  | [] => by rw [List.map_nil, List.map_nil, TrsAt]
  | x :: xs => by
    rw [List.map_cons, List.map_cons, TrsAt]
    exact ⟨_, _, rfl, by rw [TrAt], strs_at xs⟩
mutual
theorem tree_at {K : PySem.W.Frag} {H : Hp} : ∀ {v : V} {f : Fm}, FmAt K H v f → TrAt K H v (tree f)
  | v, .rel n xs, h => by
    rw [FmAt] at h
    obtain ⟨a, t, rfl, h1, h2⟩ := h
    rw [tree, TrAt]
    exact ⟨a, _, rfl, h1, .of (.cons (by rw [TrAt]) (.cons (by rw [TrAt]) (.cons (by rw [TrAt]; exact ⟨t, _, rfl, h2, strs_at xs⟩) .nil)))⟩
  | v, .same x y, h => by
    rw [FmAt] at h
    obtain ⟨a, rfl, h1⟩ := h
    rw [tree, TrAt]
    exact ⟨a, _, rfl, h1, .of (.cons (by rw [TrAt]) (.cons (by rw [TrAt]) (.cons (by rw [TrAt]) .nil)))⟩
  | v, .neg f, h => by
    rw [FmAt] at h
    obtain ⟨a, u, rfl, h1, h2⟩ := h
    rw [tree, TrAt]
    exact ⟨a, _, rfl, h1, .of (.cons (by rw [TrAt]) (.cons (tree_at h2) .nil))⟩
  | v, .con b fs, h => by
    rw [FmAt] at h
    obtain ⟨a, t, us, rfl, h1, h2, h3⟩ := h
    rw [tree, TrAt]
    exact ⟨a, _, rfl, h1, .of (.cons (by rw [TrAt]) (.cons (by rw [TrAt]; exact ⟨t, us, rfl, h2, trees_at h3⟩) .nil))⟩
  | v, .qu b x f, h => by
    rw [FmAt] at h
    obtain ⟨a, u, rfl, h1, h2⟩ := h
    rw [tree, TrAt]
    exact ⟨a, _, rfl, h1, .of (.cons (by rw [TrAt]) (.cons (by rw [TrAt]) (.cons (tree_at h2) .nil)))⟩
theorem trees_at {K : PySem.W.Frag} {H : Hp} : ∀ {us : List V} {fs : List Fm}, FmsAt K H us fs → TrsAt K H us (trees fs)
  | us, [], h => by rw [h.unnil, trees, TrsAt]
  | us, f :: fs, h => by
    obtain ⟨u, r, rfl, h1, h2⟩ := h.uncons
    rw [trees, TrsAt]
    exact ⟨u, r, rfl, tree_at h1, trees_at h2⟩
end
end Fo
namespace K2
open PySem L2 Fo
open C8 (Cal pe_c pss_cut)
section
variable {P : Program} {w : World} {K : PySem.W.Frag} {mg : Str → Option Value} {base : Heap}
/-! ### same -/
def spSame (K : PySem.W.Frag) (n : Nat) : Sp := fun vs H Q _ => ∃ (x y : V) (t : Tr), vs = [x, y] ∧ TrAt K H x t ∧ TrAt K H y t ∧ t.dep < n ∧ t.wid ≤ 10000 ∧ ∀ H', Same H H' → Q (.bl true) H'
abbrev nSame : List Str := ["actual", "expected", "k"]
theorem scSame : FnScope nSame ["actual", "expected"] (defScope sSame) := ⟨rfl, rfl, rfl, by decide +kernel, rfl, by decide +kernel, by decide +kernel⟩
theorem ok_same {n : Nat} {f : Addr} {fd : FuncData} (B : Bt mg) (cSame : Cal P w K mg base n "_law_same" (spSame K n) []) (F : Fun K "_law_same" "_law_same" sSame f fd) : FnOk P w K mg base CX0 (n + 1) f fd ["actual", "expected"] (spSame K (n + 1)) := by
  refine F.ok scSame (fun vs H Q E h => ?_) (fun cdv A outer s H vs Q E hr h => ?_)
  · obtain ⟨x, y, t, rfl, _⟩ := h
    rfl
  obtain ⟨x, y, t, rfl, hx, hy, hd, hw, q⟩ := h
  have nd := scSame.nd
  refine ⟨_, (pss_cons (ps_if (pt_val (pe_callB call_isi rfl B.isinstance (by decide +kernel) (pa_cons (pv 1) (pa_cons (pe_bltn (v := .ty "tuple") rfl B.tuple (by decide +kernel) rfl) pa_nil)))) (pss_cons (ps_if (PW.pt (pw_or (pt_not (pt_val (pe_callB call_isi rfl B.isinstance (by decide +kernel) (pa_cons (pv 0) (pa_cons (pe_bltn (v := .ty "tuple") rfl B.tuple (by decide +kernel) rfl) pa_nil))))) (pw_or1 (pt_cmpR op_ne (pe_callB call_len_seq rfl B.len PySem.boot_len (pa_cons (pv 0) pa_nil)) (pe_callB call_len_seq rfl B.len PySem.boot_len (pa_cons (pv 1) pa_nil)) (nomark _))))) (pss_one (ps_ret pe_bl)) pss_nil)
    (pss_cons (ps_for PassesOwn.never rfl (pi_range1 rfl B.range (pa_cons (pe_callB call_len_seq rfl B.len PySem.boot_len (pa_cons (pv 1) pa_nil)) pa_nil)) (pg_name (i := 2) nd rfl (.inl rfl)) (pss_one (ps_if (pt_not (pt_val (pe_c cSame hr (Nat.le_refl _) rfl (pa_cons (pe_ix ix_tup (pv 0) (pv 2) (fun _ _ => rfl)) (pa_cons (pe_ix ix_tup (pv 1) (pv 2) (fun _ _ => rfl)) pa_nil))))) (pss_one (ps_ret pe_bl)) pss_nil)))
    (pss_one (ps_ret pe_bl)))) pss_nil)
    (pss_cons (ps_if (pt_cmpR op_isN (pv 1) pe_non (nomark _)) (pss_one (ps_ret (pe_cmpR op_isN (pv 0) pe_non (nomark _)))) pss_nil)
    (pss_cons (ps_if (pt_val (pe_callB call_isi rfl B.isinstance (by decide +kernel) (pa_cons (pv 1) (pa_cons (pe_bltn (v := .ty "bool") rfl B.bool (by decide +kernel) rfl) pa_nil)))) (pss_one (ps_ret (pe_and (pe_callB call_isi rfl B.isinstance (by decide +kernel) (pa_cons (pv 0) (pa_cons (pe_bltn (v := .ty "bool") rfl B.bool (by decide +kernel) rfl) pa_nil))) (pe_one (pe_cmpR op_eq (pv 0) (pv 1) (nomark _)))))) pss_nil)
    (pss_cons (ps_if (pt_val (pe_callB call_isi rfl B.isinstance (by decide +kernel) (pa_cons (pv 1) (pa_cons (pe_bltn (v := .ty "int") rfl B.int (by decide +kernel) rfl) pa_nil)))) (pss_one (ps_ret (pe_and (pe_callB call_isi rfl B.isinstance (by decide +kernel) (pa_cons (pv 0) (pa_cons (pe_bltn (v := .ty "int") rfl B.int (by decide +kernel) rfl) pa_nil))) (pe_and (pe_not (pe_callB call_isi rfl B.isinstance (by decide +kernel) (pa_cons (pv 0) (pa_cons (pe_bltn (v := .ty "bool") rfl B.bool (by decide +kernel) rfl) pa_nil)))) (pe_one (pe_cmpR op_eq (pv 0) (pv 1) (nomark _))))))) pss_nil)
    (pss_one (ps_ret (pe_and (pe_callB call_isi rfl B.isinstance (by decide +kernel) (pa_cons (pv 0) (pa_cons (pe_bltn (v := .ty "str") rfl B.str (by decide +kernel) rfl) pa_nil))) (pe_one (pe_cmpR op_eq (pv 0) (pv 1) (nomark _)))))))))), ?_⟩
  cases t with
  | tx z =>
    rw [TrAt] at hx hy
    subst hx
    subst hy
    refine ⟨_, rfl, _, _, _, _, false, rfl, .ty "tuple", .base (.str z), kit_ty (by decide +kernel), false, rfl, ?_⟩
    refine ⟨_, rfl, rfl, false, congrArg V.bl (decide_eq_false fun z => nomatch z), ?_⟩
    refine ⟨_, rfl, _, _, _, _, false, rfl, .ty "bool", .base (.str z), kit_ty (by decide +kernel), false, rfl, ?_⟩
    refine ⟨_, rfl, _, _, _, _, false, rfl, .ty "int", .base (.str z), kit_ty (by decide +kernel), false, rfl, ?_⟩
    refine ⟨_, rfl, _, _, _, _, true, rfl, .ty "str", .base (.str z), kit_ty (by decide +kernel), true, rfl, ?_⟩
    refine ⟨_, rfl, _, rfl, rfl, ?_⟩
    show Q (V.bl (decide (V.str z = V.str z))) H
    rw [decide_eq_true rfl]
    exact q H (Same.refl _)
  | tp ts =>
    rw [TrAt] at hx hy
    obtain ⟨a, us, rfl, ha, hus⟩ := hx
    obtain ⟨b, ws, rfl, hb, hws⟩ := hy
    have l1' := hus.all2.length
    have l2' := hws.all2.length
    rw [Tr.wid] at hw
    have hd' : Tr.deps ts < n + 1 := hd
    refine ⟨_, rfl, _, _, _, _, true, rfl, .ty "tuple", ty_tup hb, kit_ty (by decide +kernel), true, rfl, ?_⟩
    refine ⟨_, rfl, _, _, _, _, true, rfl, .ty "tuple", ty_tup ha, kit_ty (by decide +kernel), true, rfl, ?_⟩
    refine ⟨_, rfl, a, _, rfl, .inr ha, _, rfl, b, _, rfl, .inr hb, rfl, false, ?_, ?_⟩
    · rw [l1', l2']; simp
    refine ⟨_, rfl, b, _, rfl, .inr hb, _, rfl, by omega, by omega, for_range (lo := 0) (fun i σ H' => ∃ k, σ = [some (.ref a), some (.ref b), k] ∧ Same H H') ⟨none, rfl, Same.refl _⟩ ?_ ?_⟩
    · rintro i σ H1 hi ⟨k, rfl, s1⟩
      have hi1 : i < us.length := by omega
      have hi2 : i < ws.length := by omega
      have g1 : us[i]? = some us[i] := List.getElem?_eq_getElem hi1
      have g2 : ws[i]? = some ws[i] := List.getElem?_eq_getElem hi2
      obtain ⟨t1, e1, h1⟩ := (hus.tk (Tk.of_same s1)).all2.get g1
      obtain ⟨t2, e2, h2⟩ := (hws.tk (Tk.of_same s1)).all2.get g2
      rw [e1] at e2
      cases e2
      have hm := List.mem_of_getElem? e1
      have d1 := Tr.deps_mem hm
      have d2 := Tr.wids_mem hm
      have e0 : (0 : Int) + (i : Int) = ((i : Nat) : Int) := by omega
      refine ⟨_, rfl, _, rfl, a, _, _, _, rfl, rfl, Tk.of_same s1 _ _ ha, at_of e0 g1, _, rfl, _, rfl, b, _, _, _, rfl, rfl, Tk.of_same s1 _ _ hb, at_of e0 g2, us[i], ws[i], t1, rfl, h1, h2, by omega, by omega, fun H2 s2 => ⟨true, rfl, ?_⟩⟩
      exact ⟨_, rfl, s1.trans s2⟩
    · rintro σ H1 ⟨k, rfl, s1⟩
      exact q H1 s1
end
end K2

set_option Elab.async false
set_option linter.all false
set_option maxRecDepth 100000
set_option maxHeartbeats 4000000
/-! Texts with spaces and needless parentheses. -/
namespace Fo
open PySem L2
namespace Fm
mutual
theorem plain_isB : ∀ f : Fm, isB (plain f) = true
  | .rel n xs => by rw [plain]; rfl
  | .same x y => by rw [plain]; rfl
  | .neg f => by rw [plain]; rfl
  | .con b fs => by rw [plain]; exact plainL_isB b fs
  | .qu b x f => by rw [plain]; rfl
theorem plainL_isB (b : Bool) : ∀ fs : List Fm, isB (plainL b fs) = true
  | [] => by rw [plainL]; rfl
  | [f] => by rw [plainL]; exact plain_isB f
  | f :: g :: fs => by rw [plainL, plains]; rfl
end
mutual
theorem plain_wide : ∀ f : Fm, wide (plain f) = wide (bare f)
  | .rel n xs => by rw [plain]; rfl
  | .same x y => by rw [plain]; rfl
  | .neg f => by rw [plain]; rfl
  | .con b fs => by rw [plain, bare]; exact plainL_wide b fs
  | .qu b x f => by rw [plain]; rfl
theorem plainL_wide (b : Bool) : ∀ fs : List Fm, wide (plainL b fs) = wide (bareL b fs)
  | [] => by rw [plainL]; rfl
  | [f] => by rw [plainL]; exact plain_wide f
  | f :: g :: fs => by rw [plainL]; rfl
end
theorem held_eq {f g : Fm} (h : wide (bare f) = wide (bare g)) (k : txt f = txt g) : held f = held g := by
  unfold held
  rw [h, k]
theorem held_plain_of {f : Fm} (k : txt (plain f) = txt f) : held (plain f) = held f :=
  held_eq (by rw [bare_id (plain_isB f), plain_wide]) k
mutual
theorem txt_plain : ∀ f : Fm, txt (plain f) = txt f
  | .rel n xs => by rw [plain]
  | .same x y => by rw [plain]
  | .neg f => by rw [plain, txt_neg, txt_neg, held_plain_of (txt_plain f)]
  | .con b fs => by rw [plain, txt]; exact txtL_plain b fs
  | .qu b x f => by rw [plain, txt, txt, txt_plain f]
theorem txtL_plain (b : Bool) : ∀ fs : List Fm, txt (plainL b fs) = txtL b fs
  | [] => by rw [plainL, txt]
  | [f] => by rw [plainL, txtL, txt_plain f]
  | f :: g :: fs => by
    have h := helds_plain (g :: fs)
    have hf := held_plain_of (txt_plain f)
    rw [plainL, plains, txt_many]
    show _ = jn (sgn b) (held f :: helds (g :: fs))
    rw [hf, jn_cat, ← h, plains, List.map_map]
    rfl
theorem helds_plain : ∀ fs : List Fm, (plains fs).map held = helds fs
  | [] => by rw [plains, helds]; rfl
  | f :: fs => by
    have hf := held_plain_of (txt_plain f)
    rw [plains, List.map_cons, helds_plain fs, hf, helds]
    rfl
end
/-- none, one or two spaces -/
def Gap (g : Str) : Prop := g = Str.empty ∨ g = " " ∨ g = "  "
def sg0 (b : Bool) : Str := if b = true then "&" else "|"
mutual
def Lo : Fm → Str → Prop
  | .rel n xs, s => ∃ g1 g2 g3 g4 g5, Gap g1 ∧ Gap g2 ∧ Gap g3 ∧ Gap g4 ∧ Gap g5 ∧ s = n ++ (g1 ++ ("(" ++ (g2 ++ (jn (g4 ++ ("," ++ g5)) xs ++ (g3 ++ ")")))))
  | .same x y, s => ∃ g1 g2, Gap g1 ∧ Gap g2 ∧ s = x ++ (g1 ++ ("=" ++ (g2 ++ y)))
  | .neg f, s => ∃ g p, Gap g ∧ (wide (bare f) = false ∧ Lo f p ∨ ∃ g1 g2 t, Gap g1 ∧ Gap g2 ∧ Lo f t ∧ p = "(" ++ (g1 ++ (t ++ (g2 ++ ")")))) ∧ s = "~" ++ (g ++ p)
  | .con b fs, s => LoL b fs s
  | .qu b x f, s => ∃ g1 g2 g3 t, Gap g1 ∧ Gap g2 ∧ Gap g3 ∧ Lo f t ∧ s = qn b ++ (" " ++ (g1 ++ (x ++ (g2 ++ (":" ++ (g3 ++ t))))))
def LoL (b : Bool) : List Fm → Str → Prop
  | [], s => s = word b
  | f :: fs, s => match fs with
    | [] => Lo f s
    | _ :: _ => ∃ g1 g2 p ps, Gap g1 ∧ Gap g2 ∧ (wide (bare f) = false ∧ Lo f p ∨ ∃ g1 g2 t, Gap g1 ∧ Gap g2 ∧ Lo f t ∧ p = "(" ++ (g1 ++ (t ++ (g2 ++ ")")))) ∧ LoPs fs ps ∧ s = jn (g1 ++ (sg0 b ++ g2)) (p :: ps)
def LoPs : List Fm → List Str → Prop
  | [], ps => ps = []
  | f :: fs, ps => ∃ p r, ps = p :: r ∧ (wide (bare f) = false ∧ Lo f p ∨ ∃ g1 g2 t, Gap g1 ∧ Gap g2 ∧ Lo f t ∧ p = "(" ++ (g1 ++ (t ++ (g2 ++ ")")))) ∧ LoPs fs r
end
def LoP (f : Fm) (p : Str) : Prop := wide (bare f) = false ∧ Lo f p ∨ ∃ g1 g2 t, Gap g1 ∧ Gap g2 ∧ Lo f t ∧ p = "(" ++ (g1 ++ (t ++ (g2 ++ ")")))
mutual
theorem lo_bare : ∀ (f : Fm) {s : Str}, Lo (bare f) s ↔ Lo f s
  | .con b fs, s => by rw [bare, Lo]; exact loL_bare b fs
  | .rel n xs, s => Iff.rfl
  | .same x y, s => Iff.rfl
  | .neg f, s => Iff.rfl
  | .qu b x f, s => Iff.rfl
theorem loL_bare (b : Bool) : ∀ (fs : List Fm) {s : Str}, Lo (bareL b fs) s ↔ LoL b fs s
  | [], s => by show Lo (.con b []) s ↔ _; rw [Lo]
  | [f], s => by
    show Lo (bare f) s ↔ LoL b [f] s
    rw [LoL]
    exact lo_bare f
  | f :: g :: fs, s => by
    show Lo (.con b (f :: g :: fs)) s ↔ _
    rw [Lo]
end
theorem gap0 : Gap Str.empty := .inl rfl
theorem gap1 : Gap " " := .inr (.inl rfl)
theorem lop_held {f : Fm} (h : Lo f (txt f)) : LoP f (held f) := by
  unfold LoP held
  cases e : wide (bare f) with
  | false => exact .inl ⟨rfl, by rw [if_neg (by decide)]; exact h⟩
  | true => exact .inr ⟨Str.empty, Str.empty, txt f, gap0, gap0, h, by rw [if_pos rfl, s_e, s_e]⟩
theorem sg0_sgn (b : Bool) : Str.ofString " " ++ (sg0 b ++ Str.ofString " ") = sgn b := by cases b <;> decide +kernel
theorem col_sp : Str.ofString ":" ++ Str.ofString " " = Str.ofString ": " := by decide +kernel

mutual
theorem lo_txt : ∀ f : Fm, Lo f (txt f)
  | .rel n xs => by
    rw [Lo]
    exact ⟨_, _, _, _, _, gap0, gap0, gap0, gap0, gap0, by rw [s_e, s_e, s_e, s_e, s_ae, txt]⟩
  | .same x y => by
    rw [Lo]
    exact ⟨_, _, gap0, gap0, by rw [s_e, s_e, txt]⟩
  | .neg f => by
    rw [Lo]
    exact ⟨_, _, gap0, lop_held (lo_txt f), by rw [s_e, txt_neg]⟩
  | .con b fs => by
    rw [Lo, txt]
    exact loL_txt b fs
  | .qu b x f => by
    rw [Lo]
    exact ⟨_, _, _, _, gap0, gap0, gap1, lo_txt f, by rw [s_e, s_e, ← Str.append_assoc (Str.ofString ":"), col_sp, txt]⟩
theorem loL_txt (b : Bool) : ∀ fs : List Fm, LoL b fs (txtL b fs)
  | [] => by rw [LoL, txtL]
  | [f] => by rw [LoL, txtL]; exact lo_txt f
  | f :: g :: fs => by
    rw [LoL]
    refine ⟨_, _, _, _, gap1, gap1, lop_held (lo_txt f), loPs_txt (g :: fs), ?_⟩
    rw [sg0_sgn, txtL]
    rfl
theorem loPs_txt : ∀ fs : List Fm, LoPs fs (helds fs)
  | [] => by rw [LoPs, helds]
  | f :: fs => by
    rw [LoPs, helds]
    exact ⟨_, _, rfl, lop_held (lo_txt f), loPs_txt fs⟩
end
end Fm
end Fo

set_option Elab.async false
set_option linter.all false
set_option maxRecDepth 100000
set_option maxHeartbeats 4000000
namespace K2
open PySem L2 Fo
open C8 (Cal pe_c pss_cut)
section
variable {P : Program} {w : World} {K : PySem.W.Frag} {mg : Str → Option Value} {base : Heap}
/-! ### gap, loose_part -/
def spGap : Sp := fun vs H Q _ => ∃ (b d : Addr), vs = [.ref b] ∧ BoxAt H b d ∧ ∀ (g : Str) (H' : Hp), Fm.Gap g → But b H H' → BoxAt H' b d → Q (.str g) H'
abbrev nGap : List Str := ["box"]
theorem scGap : FnScope nGap nGap (defScope sGap) := ⟨rfl, rfl, rfl, by decide +kernel, rfl, by decide +kernel, by decide +kernel⟩
theorem ok_gap {f : Addr} {fd : FuncData} (cDraw : Cal P w K mg base 1 "_law_draw" spDraw []) (F : Fun K "_law_gap" "_law_gap" sGap f fd) : FnOk P w K mg base CX0 2 f fd nGap spGap := by
  refine F.ok scGap (fun vs H Q E h => ?_) (fun cdv A outer s H vs Q E hr h => ?_)
  · obtain ⟨b, d, rfl, _⟩ := h
    rfl
  obtain ⟨b, d, rfl, hB, q⟩ := h
  refine ⟨_, pss_one (ps_ret (pe_ix ix_list (pe_lst (pa_cons pe_str (pa_cons pe_str (pa_cons pe_str (pa_cons pe_str pa_nil)))))
    (pe_c cDraw hr (by decide) rfl (pa_cons (pv 0) (pa_cons pe_int pa_nil))) (fun _ _ => rfl))), ?_⟩
  refine ⟨by show 4 ≤ sizeLine; decide, fun p hp => ⟨_, rfl, b, d, 4, rfl, hB.same (same_new hp _), by decide, fun r H1 r0 r1 b1 x1 => ?_⟩⟩
  have npb : p ≠ b := (box_ne hB hp).1
  obtain ⟨v, hv, ha⟩ := item_lt (xs := [.str "", .str "", .str " ", .str "  "]) (n := 4) r0 r1 rfl
  refine ⟨p, _, _, v, rfl, rfl, SqL.of (b1 _ _ npb upd_same), ha, ?_⟩
  have sv : ∃ x, v = V.str x ∧ Fm.Gap x := by
    simp only [List.mem_cons, List.not_mem_nil, or_false] at hv
    rcases hv with rfl | rfl | rfl | rfl
    · exact ⟨_, rfl, .inl none_e⟩
    · exact ⟨_, rfl, .inl none_e⟩
    · exact ⟨_, rfl, .inr (.inl rfl)⟩
    · exact ⟨_, rfl, .inr (.inr rfl)⟩
  obtain ⟨x, rfl, h8⟩ := sv
  exact q x H1 h8 ((But.of_same (same_new hp _)).trans b1) x1
theorem l2sp : (Str.ofString "  ").length = 2 := by decide +kernel
theorem gap_len {g : Str} (h : Fm.Gap g) : g.length ≤ 2 := by
  rcases h with rfl | rfl | rfl
  · exact Nat.zero_le _
  · rw [lsp]; omega
  · rw [l2sp]; omega
def spLoose (K : PySem.W.Frag) (n : Nat) : Sp := fun vs H Q _ => ∃ (b d : Addr) (v : V) (f : Fm), vs = [.ref b, v] ∧ BoxAt H b d ∧ FmAt K H v f ∧ f.dp < n ∧ WF f ∧ f.ct ≤ 100 ∧ ∀ (s : Str) (H' : Hp), Fm.Lo f s → s.length + 12 ≤ 40 * f.ct → But b H H' → BoxAt H' b d → Q (.str s) H'
def spLooseP (K : PySem.W.Frag) (n : Nat) : Sp := fun vs H Q _ => ∃ (b d : Addr) (v : V) (f : Fm), vs = [.ref b, v] ∧ BoxAt H b d ∧ FmAt K H v f ∧ f.dp < n ∧ WF f ∧ f.ct ≤ 100 ∧ ∀ (s : Str) (H' : Hp), Fm.LoP f s → s.length + 6 ≤ 40 * f.ct → But b H H' → BoxAt H' b d → Q (.str s) H'
abbrev nLooseP : List Str := ["box", "formula", "text", "wide"]
abbrev nLoose : List Str := ["box", "formula", "kind", "names", "sign", "rows", "row"]
theorem scLooseP : FnScope nLooseP ["box", "formula"] (defScope sLoosePart) := ⟨rfl, rfl, rfl, by decide +kernel, rfl, by decide +kernel, by decide +kernel⟩
theorem scLoose : FnScope nLoose ["box", "formula"] (defScope sLoose) := ⟨rfl, rfl, rfl, by decide +kernel, rfl, by decide +kernel, by decide +kernel⟩
theorem ok_loosep {n k : Nat} {f : Addr} {fd : FuncData} (hk : n ≤ k) (hk2 : 2 ≤ k) (B : Bt mg) (cDraw : Cal P w K mg base 1 "_law_draw" spDraw []) (cGap : Cal P w K mg base 2 "_law_gap" spGap []) (cBare : Cal P w K mg base n "_law_bare" (spBare K n) []) (cLoose : Cal P w K mg base k "_law_loose" (spLoose K n) []) (F : Fun K "_law_loose_part" "_law_loose_part" sLoosePart f fd) : FnOk P w K mg base CX0 (k + 1) f fd ["box", "formula"] (spLooseP K n) := by
  refine F.ok scLooseP (fun vs H Q E h => ?_) (fun cdv A outer s H vs Q E hr h => ?_)
  · obtain ⟨b, d, v, f, rfl, _⟩ := h
    rfl
  obtain ⟨b, d, v, fm, rfl, hB, hF, hd, hw, hc, q⟩ := h
  have nd := scLooseP.nd
  have hr2 : Room 2 _ := hr.mono hk2
  have hr1 : Room 1 _ := hr.mono (by omega)
  refine ⟨_, (pss_cons (ps_set (i := 1) nd rfl (.inl rfl) (pe_c cBare hr (by omega) rfl (pa_cons (pv 1) pa_nil)))
    (pss_cons (ps_set (i := 2) nd rfl (.inl rfl) (pe_c cLoose hr (by omega) rfl (pa_cons (pv 0) (pa_cons (pv 1) pa_nil))))
    (pss_cut (ps_set (i := 3) nd rfl (.inl rfl) (pe_or (pe_cmpR op_in_seq (pe_ix ix_tup (pv 1) pe_int (fun _ _ => rfl)) (pe_lst (pa_cons pe_str (pa_cons pe_str pa_nil))) rfl) (pe_one (pe_and (pe_cmpR op_in_seq (pe_ix ix_tup (pv 1) pe_int (fun _ _ => rfl)) (pe_lst (pa_cons pe_str (pa_cons pe_str pa_nil))) rfl) (pe_one (pe_cmpR op_gt (pe_callB call_len_seq rfl B.len PySem.boot_len (pa_cons (pe_ix ix_tup (pv 1) pe_int (fun _ _ => rfl)) pa_nil)) pe_int (nomark _)))))))
    (pss_cons (ps_if (PW.pt (pw_or (pt_truth (pv 3) (by intro _; rfl)) (pw_or1 (pt_cmpR op_eq (pe_c cDraw hr1 (by decide) rfl (pa_cons (pv 0) (pa_cons pe_int pa_nil))) pe_int (nomark _))))) (pss_one (ps_ret (pe_op op_add_str (pe_op op_add_str (pe_op op_add_str (pe_op op_add_str pe_str (pe_c cGap hr2 (by decide) rfl (pa_cons (pv 0) pa_nil))) (pv 2)) (pe_c cGap hr2 (by decide) rfl (pa_cons (pv 0) pa_nil))) pe_str))) pss_nil)
    (pss_one (ps_ret (pv 2))))))), ?_⟩
  refine ⟨_, rfl, v, fm, rfl, hF, hd, fun u hg => ?_⟩
  have hb := Fm.bare_is fm
  have hwb := bare_wf hw
  have hcb := Fm.bare_ct fm
  have hdb := Nat.lt_of_le_of_lt (Fm.bare_dp fm) hd
  refine ⟨_, rfl, _, rfl, b, d, u, Fm.bare fm, rfl, hB, hg, hdb, hwb, by omega, fun t H1 hl0 hln b1 x1 => ?_⟩
  have hl := (Fm.lo_bare fm).mp hl0
  have hg1 := hg.tk (b1.tk hB)
  have ew : Fm.wide (Fm.bare fm) = false → Fm.LoP fm t := fun z => .inl ⟨z, hl⟩
  clear hg
  generalize Fm.bare fm = g at *
  refine ⟨fun σ' H' => σ' = [some (.ref b), some u, some (.str t), some (.bl (Fm.wide g))] ∧ Same H1 H', ?_, ?_⟩
  · obtain ⟨a, r, rfl, h1⟩ := FmAt.tag hg1
    refine ⟨_, rfl, a, _, _, _, rfl, rfl, h1, at_of (j := 0) rfl rfl, l2, fun T nT => ⟨T, _, rfl, .inl (SqL.of upd_same), rfl, rfl, _, inB (in_some g), ?_⟩⟩
    have s2 := same_new nT (.lst [V.str "some", V.str "all"])
    have k2 := Tk.of_same (K := K) s2
    generalize upd H1 T (.lst [V.str "some", V.str "all"]) = H2 at s2 k2 ⊢
    cases g with
    | qu bq x f => exact ⟨rfl, s2⟩
    | con bq fs =>
      have hg2 := hg1.tk k2
      rw [FmAt] at hg2
      obtain ⟨a', tt, us, e1, h2, h3, h4⟩ := hg2
      cases e1
      have lu := h4.length
      refine ⟨_, rfl, a, _, _, _, rfl, rfl, h2, at_of (j := 0) rfl rfl, l2, fun S nS => ⟨S, _, rfl, .inl (SqL.of upd_same), rfl, rfl, true, inB (in_and (.con bq fs)), ?_⟩⟩
      have s3 := same_new nS (.lst [V.str "and", V.str "or"])
      refine ⟨_, rfl, a, _, _, _, rfl, rfl, Tk.of_same s3 _ _ h2, at_of (j := 1) rfl rfl, tt, us, rfl, .inr (Tk.of_same s3 _ _ h3), _, _, rfl, rfl, ?_, s2.trans s3⟩
      have e : decide ((us.length : Int) > 0) = Fm.wide (.con bq fs) := by
        cases fs with
        | nil => rw [lu]; rfl
        | cons f fs => rw [lu]; exact decide_eq_true (by rw [List.length_cons]; omega)
      show [some (V.ref b), some (V.ref a), some (V.str t), some (V.bl (decide ((us.length : Int) > 0)))] = _
      rw [e]
    | rel n xs =>
      exact ⟨_, rfl, a, _, _, _, rfl, rfl, k2 _ _ h1, at_of (j := 0) rfl rfl, l2, fun S nS => ⟨S, _, rfl, .inl (SqL.of upd_same), rfl, rfl, false, inB (in_and (.rel n xs)), rfl, s2.trans (same_new nS _)⟩⟩
    | same x y =>
      exact ⟨_, rfl, a, _, _, _, rfl, rfl, k2 _ _ h1, at_of (j := 0) rfl rfl, l2, fun S nS => ⟨S, _, rfl, .inl (SqL.of upd_same), rfl, rfl, false, inB (in_and (.same x y)), rfl, s2.trans (same_new nS _)⟩⟩
    | neg f =>
      exact ⟨_, rfl, a, _, _, _, rfl, rfl, k2 _ _ h1, at_of (j := 0) rfl rfl, l2, fun S nS => ⟨S, _, rfl, .inl (SqL.of upd_same), rfl, rfl, false, inB (in_and (.neg f)), rfl, s2.trans (same_new nS _)⟩⟩
  rintro σ' H2 ⟨rfl, s2⟩
  have x2 := x1.same s2
  have b2 := b1.trans (.of_same s2)
  refine ⟨_, rfl, Fm.wide g, rfl, ite2 (fun c => ?_) (fun c => ⟨_, rfl, b, d, 6, rfl, x2, by decide, fun r H5 _ _ b5 x5 => ⟨rfl, _, rfl, ite2 (fun _ => ?_) (fun _ => ?_)⟩⟩)⟩
  · refine ⟨_, rfl, b, d, rfl, x2, fun g1 H6 hg1 b6 x6 => ⟨_, _, rfl, rfl, big9 (by rw [lpar]; have := gap_len hg1; omega), _, rfl, _, _, rfl, rfl, big9 (by rw [s_len, lpar]; have := gap_len hg1; omega), _, rfl, b, d, rfl, x6, fun g2 H7 hg2 b7 x7 => ?_⟩⟩
    have e1 := gap_len hg1
    have e2 := gap_len hg2
    refine ⟨_, _, rfl, rfl, big9 (by rw [s_len, s_len, lpar]; omega), _, _, rfl, rfl, big9 (by rw [s_len, s_len, s_len, lpar, lpar2]; omega), ?_⟩
    rw [Str.append_assoc, Str.append_assoc, Str.append_assoc]
    exact q _ _ (.inr ⟨g1, g2, t, hg1, hg2, hl, rfl⟩) (by rw [s_len, s_len, s_len, s_len, lpar, lpar2]; omega) (b2.trans (b6.trans b7)) x7
  · refine ⟨_, rfl, b, d, rfl, x5, fun g1 H6 hg1 b6 x6 => ⟨_, _, rfl, rfl, big9 (by rw [lpar]; have := gap_len hg1; omega), _, rfl, _, _, rfl, rfl, big9 (by rw [s_len, lpar]; have := gap_len hg1; omega), _, rfl, b, d, rfl, x6, fun g2 H7 hg2 b7 x7 => ?_⟩⟩
    have e1 := gap_len hg1
    have e2 := gap_len hg2
    refine ⟨_, _, rfl, rfl, big9 (by rw [s_len, s_len, lpar]; omega), _, _, rfl, rfl, big9 (by rw [s_len, s_len, s_len, lpar, lpar2]; omega), ?_⟩
    rw [Str.append_assoc, Str.append_assoc, Str.append_assoc]
    exact q _ _ (.inr ⟨g1, g2, t, hg1, hg2, hl, rfl⟩) (by rw [s_len, s_len, s_len, s_len, lpar, lpar2]; omega) ((b2.trans b5).trans (b6.trans b7)) x7
  · exact ⟨_, rfl, q _ _ (ew (by simpa using c)) (by omega) (b2.trans b5) x5⟩
end
end K2

set_option Elab.async false
set_option linter.all false
set_option maxRecDepth 100000
set_option maxHeartbeats 4000000
namespace K2
open PySem L2 Fo
open C8 (Cal pe_c pss_cut)
section
variable {P : Program} {w : World} {K : PySem.W.Frag} {mg : Str → Option Value} {base : Heap}
/-! ### loose -/
theorem jn_len2 (s : Str) (hs : s.length ≤ 5) : ∀ xs : List Str, xs.length ≤ 2 → (∀ x ∈ xs, x.length ≤ 2) → (jn s xs).length ≤ 9
  | [], _, _ => by rw [jn]; exact Nat.zero_le _
  | [x], _, h => by rw [jn]; have := h x List.mem_cons_self; omega
  | [x, y], _, h => by
    rw [jn, jn, s_len, s_len]
    have h1 := h x List.mem_cons_self
    have h2 := h y (List.mem_cons_of_mem _ List.mem_cons_self)
    omega
  | x :: y :: z :: r, hl, _ => by simp at hl
theorem lcol1 : (Str.ofString ":").length = 1 := by decide +kernel
theorem lsg0 (b : Bool) : (Fm.sg0 b).length = 1 := by cases b <;> decide +kernel
/-- parts of rows -/
def PsOk (fs : List Fm) (ps : List Str) : Prop := All2 (fun p f => Fm.LoP f p ∧ p.length + 6 ≤ 40 * f.ct) ps fs
theorem PsOk.lo {ps : List Str} {fs : List Fm} (h : All2 (fun p f => Fm.LoP f p ∧ p.length + 6 ≤ 40 * f.ct) ps fs) : Fm.LoPs fs ps := by
  induction h with
  | nil => rw [Fm.LoPs]
  | cons r _ ih => rw [Fm.LoPs]; exact ⟨_, _, rfl, r.1, ih⟩
theorem ps_sum {ps : List Str} {fs : List Fm} (h : All2 (fun p f => Fm.LoP f p ∧ p.length + 6 ≤ 40 * f.ct) ps fs) : (ps.map (·.length)).sum + 6 * ps.length ≤ 40 * Fm.cts fs := by
  induction h with
  | nil => exact Nat.le_refl _
  | cons r _ ih =>
    have := r.2
    rw [List.map_cons, List.sum_cons, List.length_cons, Fm.cts]
    omega
theorem jn_sum (s : Str) : ∀ ps : List Str, (jn s ps).length ≤ (ps.map (·.length)).sum + s.length * (ps.length - 1)
  | [] => Nat.zero_le _
  | [x] => by rw [jn]; simp
  | x :: y :: r => by
    have ih := jn_sum s (y :: r)
    rw [jn, s_len, s_len, List.map_cons, List.sum_cons]
    have e : (x :: y :: r).length - 1 = ((y :: r).length - 1) + 1 := by simp
    rw [e, Nat.mul_succ]
    omega
theorem ok_loose {n k : Nat} {f : Addr} {fd : FuncData} (hk : n + 1 ≤ k) (hk2 : 2 ≤ k) (B : Bt mg) (cGap : Cal P w K mg base 2 "_law_gap" spGap []) (cBare : Cal P w K mg base (n + 1) "_law_bare" (spBare K (n + 1)) []) (cLoose : Cal P w K mg base k "_law_loose" (spLoose K n) []) (cLooseP : Cal P w K mg base k "_law_loose_part" (spLooseP K n) []) (F : Fun K "_law_loose" "_law_loose" sLoose f fd) : FnOk P w K mg base CX0 (k + 1) f fd ["box", "formula"] (spLoose K (n + 1)) := by
  refine F.ok scLoose (fun vs H Q E h => ?_) (fun cdv A outer s H vs Q E hr h => ?_)
  · obtain ⟨b, d, v, f, rfl, _⟩ := h
    rfl
  obtain ⟨b, d, v, fm, rfl, hB, hF, hd, hw, hc, q⟩ := h
  have nd := scLoose.nd
  have hr2 : Room 2 _ := hr.mono hk2
  refine ⟨_, (pss_cons (ps_set (i := 1) nd rfl (.inl rfl) (pe_c cBare hr (by omega) rfl (pa_cons (pv 1) pa_nil)))
    (pss_cons (ps_set (i := 2) nd rfl (.inl rfl) (pe_ix ix_tup (pv 1) pe_int (fun _ _ => rfl)))
    (pss_cons (ps_if (pt_cmpR op_eq (pv 2) pe_str (nomark _)) (pss_cons (ps_set (i := 3) nd rfl (.inl rfl) (pe_join (pe_op op_add_str (pe_op op_add_str (pe_c cGap hr2 (by decide) rfl (pa_cons (pv 0) pa_nil)) pe_str) (pe_c cGap hr2 (by decide) rfl (pa_cons (pv 0) pa_nil))) (pe_callTy call_list_of rfl B.list (by decide +kernel) (pa_cons (pe_ix ix_tup (pv 1) pe_int (fun _ _ => rfl)) pa_nil))))
    (pss_one (ps_ret (pe_op op_add_str (pe_op op_add_str (pe_op op_add_str (pe_op op_add_str (pe_op op_add_str (pe_op op_add_str (pe_ix ix_tup (pv 1) pe_int (fun _ _ => rfl)) (pe_c cGap hr2 (by decide) rfl (pa_cons (pv 0) pa_nil))) pe_str) (pe_c cGap hr2 (by decide) rfl (pa_cons (pv 0) pa_nil))) (pv 3)) (pe_c cGap hr2 (by decide) rfl (pa_cons (pv 0) pa_nil))) pe_str)))) pss_nil)
    (pss_cons (ps_if (pt_cmpR op_eq (pv 2) pe_str (nomark _)) (pss_one (ps_ret (pe_op op_add_str (pe_op op_add_str (pe_op op_add_str (pe_op op_add_str (pe_ix ix_tup (pv 1) pe_int (fun _ _ => rfl)) (pe_c cGap hr2 (by decide) rfl (pa_cons (pv 0) pa_nil))) pe_str) (pe_c cGap hr2 (by decide) rfl (pa_cons (pv 0) pa_nil))) (pe_ix ix_tup (pv 1) pe_int (fun _ _ => rfl))))) pss_nil)
    (pss_cons (ps_if (pt_cmpR op_eq (pv 2) pe_str (nomark _)) (pss_one (ps_ret (pe_op op_add_str (pe_op op_add_str pe_str (pe_c cGap hr2 (by decide) rfl (pa_cons (pv 0) pa_nil))) (pe_c cLooseP hr (by omega) rfl (pa_cons (pv 0) (pa_cons (pe_ix ix_tup (pv 1) pe_int (fun _ _ => rfl)) pa_nil)))))) pss_nil)
    (pss_cons (ps_if (PW.pt (pw_or (pt_cmpR op_eq (pv 2) pe_str (nomark _)) (pw_or1 (pt_cmpR op_eq (pv 2) pe_str (nomark _))))) (pss_one (ps_ret (pe_op op_add_str (pe_op op_add_str (pe_op op_add_str (pe_op op_add_str (pe_op op_add_str (pe_op op_add_str (pe_op op_add_str (pv 2) pe_str) (pe_c cGap hr2 (by decide) rfl (pa_cons (pv 0) pa_nil))) (pe_ix ix_tup (pv 1) pe_int (fun _ _ => rfl))) (pe_c cGap hr2 (by decide) rfl (pa_cons (pv 0) pa_nil))) pe_str) (pe_c cGap hr2 (by decide) rfl (pa_cons (pv 0) pa_nil))) (pe_c cLoose hr (by omega) rfl (pa_cons (pv 0) (pa_cons (pe_ix ix_tup (pv 1) pe_int (fun _ _ => rfl)) pa_nil)))))) pss_nil)
    (pss_cons (ps_if (pt_cmpR op_eq (pe_callB call_len_seq rfl B.len PySem.boot_len (pa_cons (pe_ix ix_tup (pv 1) pe_int (fun _ _ => rfl)) pa_nil)) pe_int (nomark _)) (pss_one (ps_ret (pe_ix ix_list (pe_lst (pa_cons pe_str (pa_cons pe_str pa_nil))) (pe_callTy call_int1 rfl B.int (by decide +kernel) (pa_cons (pe_cmpR op_eq (pv 2) pe_str (nomark _)) pa_nil)) (fun _ _ => rfl)))) pss_nil)
    (pss_cons (ps_set (i := 4) nd rfl (.inl rfl) (pe_ix ix_list (pe_lst (pa_cons pe_str (pa_cons pe_str pa_nil))) (pe_callTy call_int1 rfl B.int (by decide +kernel) (pa_cons (pe_cmpR op_eq (pv 2) pe_str (nomark _)) pa_nil)) (fun _ _ => rfl)))
    (pss_cons (ps_setLc (i := 5) (own := [("row", 6)]) (g := gName 6) (tt := tYes) rfl nd rfl rfl (sw_true rfl rfl rfl (by decide +kernel)) (pi_tup (pe_ix ix_tup (pv 1) pe_int (fun _ _ => rfl))) (blkOk_by (own := [("row", 6)]) (N := nLoose) (sc := defScope sLoose) (by decide +kernel)) (fun _ _ _ _ _ => (pg_name (i := 6) nd rfl (Or.inl rfl))) (fun _ _ _ _ _ => pts_nil) (fun _ _ _ _ _ => (pe_c cLooseP hr (by omega) rfl (pa_cons (pv 0) (pa_cons (pv 6) pa_nil)))))
    (pss_one (ps_ret (pe_join (pe_op op_add_str (pe_op op_add_str (pe_c cGap hr2 (by decide) rfl (pa_cons (pv 0) pa_nil)) (pv 4)) (pe_c cGap hr2 (by decide) rfl (pa_cons (pv 0) pa_nil))) (pv 5))))))))))))), ?_⟩
  refine ⟨_, rfl, v, fm, rfl, hF, hd, fun u hg => ?_⟩
  have hb := Fm.bare_is fm
  have hwb := bare_wf hw
  have hcf := Fm.bare_ct fm
  have hcb := Nat.le_trans (Fm.bare_ct fm) hc
  have hdb := Nat.lt_of_le_of_lt (Fm.bare_dp fm) hd
  have q' : ∀ (s : Str) (H' : Hp), Fm.Lo (Fm.bare fm) s → s.length + 12 ≤ 40 * (Fm.bare fm).ct → But b H H' → BoxAt H' b d → Q (.str s) H' := fun s H' h1 h2 h3 h4 => q s H' ((Fm.lo_bare fm).mp h1) (by omega) h3 h4
  clear q
  generalize Fm.bare fm = g at *
  cases g with
  | rel n xs =>
    rw [FmAt] at hg
    obtain ⟨a, t, rfl, h1, h2⟩ := hg
    rw [WF] at hwb
    have ln := len4 n hwb.1
    have l2' := hwb.2.2.1
    have x8 := fun x hx => len8 x (hwb.2.2.2 x hx)
    have ls := sum_len xs l2' x8
    refine ⟨_, rfl, a, _, _, _, rfl, rfl, h1, at_of (j := 0) rfl rfl, ?_⟩
    refine ⟨_, rfl, rfl, true, (by decide +kernel), ?_⟩
    refine ⟨_, rfl, b, d, rfl, hB, fun g4 H1 hg4 b1 x1 => ?_⟩
    have e4 := gap_len hg4
    refine ⟨_, _, rfl, rfl, big (by (try simp only [s_len, lcom]); omega), _, rfl, b, d, rfl, x1, fun g5 H2 hg5 b2 x2 => ?_⟩
    have e5 := gap_len hg5
    have b12 := b1.trans b2
    have k2 := b12.tk (K := K) hB
    refine ⟨_, _, rfl, rfl, big (by (try simp only [s_len, lcom]); omega), ⟨_, rfl⟩, _, rfl, a, _, _, _, rfl, rfl, k2 _ _ h1, at_of (j := 2) rfl rfl, t, _, rfl, .inr (k2 _ _ h2), fun l nl => ⟨_, l, xs, rfl, rfl, .inl (SqL.of upd_same), ?_, ?_⟩⟩
    · have : xs.length * (g4 ++ Str.ofString "," ++ g5).length ≤ 2 * 5 := Nat.mul_le_mul l2' (by (try simp only [s_len, lcom]); omega)
      omega
    rw [join_jn, Str.append_assoc]
    have lj := jn_len2 (g4 ++ (Str.ofString "," ++ g5)) (by (try simp only [s_len, lcom]); omega) xs l2' x8
    generalize hJ : jn (g4 ++ (Str.ofString "," ++ g5)) xs = J at lj ⊢
    have x3 := x2.new nl (o := .lst (xs.map V.str))
    have b3 := b12.trans (.new (.lst (xs.map V.str)) nl)
    have k3 := b3.tk (K := K) hB
    generalize upd H2 l (.lst (xs.map V.str)) = H3 at x3 b3 k3 ⊢
    refine ⟨_, rfl, a, _, _, _, rfl, rfl, k3 _ _ h1, at_of (j := 1) rfl rfl, _, rfl, b, d, rfl, x3, fun g1 H4 hg1 b4 x4 => ?_⟩
    have e1 := gap_len hg1
    refine ⟨_, _, rfl, rfl, big (by (try simp only [s_len]); omega), _, _, rfl, rfl, big (by (try simp only [s_len, lpar]); omega), _, rfl, b, d, rfl, x4, fun g2 H5 hg2 b5 x5 => ?_⟩
    have e2 := gap_len hg2
    refine ⟨_, _, rfl, rfl, big (by (try simp only [s_len, lpar]); omega), _, rfl, _, _, rfl, rfl, big (by (try simp only [s_len, lpar]); omega), _, rfl, b, d, rfl, x5, fun g3 H6 hg3 b6 x6 => ?_⟩
    have e3 := gap_len hg3
    refine ⟨_, _, rfl, rfl, big (by (try simp only [s_len, lpar]); omega), _, _, rfl, rfl, big (by (try simp only [s_len, lpar, lpar2]); omega), ?_⟩
    refine q' _ _ ?_ ?_ (b3.trans (b4.trans (b5.trans b6))) x6
    · rw [Fm.Lo]
      exact ⟨g1, g2, g3, g4, g5, hg1, hg2, hg3, hg4, hg5, by rw [hJ]; simp only [Str.append_assoc]⟩
    · show _ ≤ 40 * 1
      simp only [s_len, lpar, lpar2]
      omega
  | same x y =>
    rw [FmAt] at hg
    obtain ⟨a, rfl, h1⟩ := hg
    rw [WF] at hwb
    have lx := len8 x hwb.1
    have ly := len8 y hwb.2
    refine ⟨_, rfl, a, _, _, _, rfl, rfl, h1, at_of (j := 0) rfl rfl, ?_⟩
    refine ⟨_, rfl, rfl, false, (by decide +kernel), ?_⟩
    refine ⟨_, rfl, rfl, true, (by decide +kernel), ?_⟩
    refine ⟨_, rfl, a, _, _, _, rfl, rfl, h1, at_of (j := 1) rfl rfl, _, rfl, b, d, rfl, hB, fun g1 H1 hg1 b1 x1 => ?_⟩
    have e1 := gap_len hg1
    refine ⟨_, _, rfl, rfl, big (by omega), _, _, rfl, rfl, big (by (try simp only [s_len, leq]); omega), _, rfl, b, d, rfl, x1, fun g2 H2 hg2 b2 x2 => ?_⟩
    have e2 := gap_len hg2
    have b12 := b1.trans b2
    refine ⟨_, _, rfl, rfl, big (by (try simp only [s_len, leq]); omega), _, rfl, a, _, _, _, rfl, rfl, b12.tk (K := K) hB _ _ h1, at_of (j := 2) rfl rfl, _, _, rfl, rfl, big (by (try simp only [s_len, leq]); omega), ?_⟩
    refine q' _ _ ?_ ?_ b12 x2
    · rw [Fm.Lo]
      exact ⟨g1, g2, hg1, hg2, by simp only [Str.append_assoc]⟩
    · show _ ≤ 40 * 1
      simp only [s_len, leq]
      omega
  | neg f =>
    rw [FmAt] at hg
    obtain ⟨a, u, rfl, h1, h2⟩ := hg
    rw [WF] at hwb
    have z1 : 1 + f.dp < n + 1 := hdb
    have z2 : 1 + f.ct ≤ 100 := hcb
    refine ⟨_, rfl, a, _, _, _, rfl, rfl, h1, at_of (j := 0) rfl rfl, ?_⟩
    refine ⟨_, rfl, rfl, false, (by decide +kernel), ?_⟩
    refine ⟨_, rfl, rfl, false, (by decide +kernel), ?_⟩
    refine ⟨_, rfl, rfl, true, (by decide +kernel), ?_⟩
    refine ⟨_, rfl, b, d, rfl, hB, fun g1 H1 hg1 b1 x1 => ?_⟩
    have e1 := gap_len hg1
    have k1 := b1.tk (K := K) hB
    refine ⟨_, _, rfl, rfl, big (by (try simp only [ltil]); omega), _, rfl, _, rfl, a, _, _, _, rfl, rfl, k1 _ _ h1, at_of (j := 1) rfl rfl, b, d, u, f, rfl, x1, h2.tk k1, by omega, hwb, by omega, fun p H2 hp lp b2 x2 => ?_⟩
    refine ⟨_, _, rfl, rfl, big9 (by (try simp only [s_len, ltil]); omega), q' _ _ ?_ ?_ (b1.trans b2) x2⟩
    · rw [Fm.Lo]
      exact ⟨g1, p, hg1, hp, by simp only [Str.append_assoc]⟩
    · show _ ≤ 40 * (1 + f.ct)
      simp only [s_len, ltil]
      omega
  | qu bq x f =>
    rw [FmAt] at hg
    obtain ⟨a, u, rfl, h1, h2⟩ := hg
    rw [WF] at hwb
    have z1 : 1 + f.dp < n + 1 := hdb
    have z2 : 1 + f.ct ≤ 100 := hcb
    have lx := len8 x hwb.1
    have lq := lqn bq
    refine ⟨_, rfl, a, _, _, _, rfl, rfl, h1, at_of (j := 0) rfl rfl, ?_⟩
    refine ⟨_, rfl, rfl, false, (by cases bq <;> decide +kernel), ?_⟩
    refine ⟨_, rfl, rfl, false, (by cases bq <;> decide +kernel), ?_⟩
    refine ⟨_, rfl, rfl, false, (by cases bq <;> decide +kernel), ?_⟩
    refine ⟨_, rfl, rfl, _, rfl, ?_⟩
    refine (fun fin => ite2 (fun _ => fin) (fun c => ⟨_, rfl, rfl, true, ?e2, fin⟩)) ?fin
    case e2 =>
      cases bq with
      | true => exact absurd (by decide +kernel) c
      | false => decide +kernel
    case fin =>
      refine ⟨_, rfl, _, _, rfl, rfl, big (by rw [lsp]; omega), _, rfl, b, d, rfl, hB, fun g1 H1 hg1 b1 x1 => ?_⟩
      have e1 := gap_len hg1
      have k1 := b1.tk (K := K) hB
      refine ⟨_, _, rfl, rfl, big (by (try simp only [s_len, lsp]); omega), _, rfl, a, _, _, _, rfl, rfl, k1 _ _ h1, at_of (j := 1) rfl rfl, _, _, rfl, rfl, big (by (try simp only [s_len, lsp]); omega), _, rfl, b, d, rfl, x1, fun g2 H2 hg2 b2 x2 => ?_⟩
      have e2 := gap_len hg2
      refine ⟨_, _, rfl, rfl, big (by (try simp only [s_len, lsp]); omega), _, _, rfl, rfl, big (by (try simp only [s_len, lsp, lcol1]); omega), _, rfl, b, d, rfl, x2, fun g3 H3 hg3 b3 x3 => ?_⟩
      have e3 := gap_len hg3
      have b13 := b1.trans (b2.trans b3)
      have k3 := b13.tk (K := K) hB
      refine ⟨_, _, rfl, rfl, big (by (try simp only [s_len, lsp, lcol1]); omega), _, rfl, _, rfl, a, _, _, _, rfl, rfl, k3 _ _ h1, at_of (j := 2) rfl rfl, b, d, u, f, rfl, x3, h2.tk k3, by omega, hwb.2, by omega, fun t H4 ht lt b4 x4 => ?_⟩
      refine ⟨_, _, rfl, rfl, big9 (by (try simp only [s_len, lsp, lcol1]); omega), q' _ _ ?_ ?_ (b13.trans b4) x4⟩
      · rw [Fm.Lo]
        exact ⟨g1, g2, g3, t, hg1, hg2, hg3, ht, by simp only [Str.append_assoc]⟩
      · show _ ≤ 40 * (1 + f.ct)
        simp only [s_len, lsp, lcol1]
        omega
  | con bc fs =>
    rw [FmAt] at hg
    obtain ⟨a, t, us, rfl, h1, h2, h3⟩ := hg
    rw [WF] at hwb
    have z1 : Fm.dps fs < n + 1 := hdb
    have z2 : 1 + Fm.cts fs ≤ 100 := hcb
    have lu := h3.length
    have lc := Fm.len_cts fs
    have hA : decide (V.str (cn bc) = V.str "and") = bc := by cases bc <;> decide +kernel
    refine ⟨_, rfl, a, _, _, _, rfl, rfl, h1, at_of (j := 0) rfl rfl, ?_⟩
    refine ⟨_, rfl, rfl, false, (by cases bc <;> decide +kernel), ?_⟩
    refine ⟨_, rfl, rfl, false, (by cases bc <;> decide +kernel), ?_⟩
    refine ⟨_, rfl, rfl, false, (by cases bc <;> decide +kernel), ?_⟩
    refine ⟨_, rfl, rfl, false, (by cases bc <;> decide +kernel), ?_⟩
    refine ⟨_, rfl, rfl, false, (by cases bc <;> decide +kernel), ?_⟩
    refine ⟨_, rfl, a, _, _, _, rfl, rfl, h1, at_of (j := 1) rfl rfl, t, us, rfl, .inr h2, rfl, _, rfl, ite2 (fun c => ?_) (fun c => ?_)⟩
    · cases fs with
      | cons f fs =>
        have z : (us.length : Int) = 0 := by simpa using of_decide_eq_true c
        rw [List.length_cons] at lu
        omega
      | nil =>
        have lw := lword bc
        refine ⟨l2, fun L nL => ⟨_, rfl, rfl, .inr ⟨_, rfl, L, _, _, .str (Fm.word bc), rfl, rfl, SqL.of upd_same, ?_, ?_⟩⟩⟩
        · rw [hA]; cases bc <;> rfl
        · exact q' _ _ (by rw [Fm.Lo, Fm.LoL]) (by show _ ≤ 40 * (1 + 0); omega) (.new _ nL) (hB.new nL)
    · have nz : fs ≠ [] := by
        intro z
        subst z
        exact c (by rw [lu]; rfl)
      refine ⟨l2, fun L nL => ⟨_, rfl, rfl, .inr ⟨_, rfl, L, _, _, .str (Fm.sg0 bc), rfl, rfl, SqL.of upd_same, ?_, ?_⟩⟩⟩
      · rw [hA]; cases bc <;> rfl
      have b1 := But.new (b := b) (.lst [V.str "|", V.str "&"]) nL
      have x1 := hB.new nL (o := .lst [V.str "|", V.str "&"])
      have k1 := b1.tk (K := K) hB
      generalize upd H L (.lst [V.str "|", V.str "&"]) = H1 at b1 x1 k1 ⊢
      refine ⟨_, rfl, a, _, _, _, rfl, rfl, k1 _ _ h1, at_of (j := 1) rfl rfl, t, rfl, ⟨_, k1 _ _ h2⟩, fun D nD => ?_⟩
      have nDb := (box_ne x1 nD).1
      refine lc_tup (xs := us) (fun i H' => ∃ ps : List Str, H' D = some (.lst (ps.map V.str)) ∧ All2 (fun p f => Fm.LoP f p ∧ p.length + 6 ≤ 40 * f.ct) ps (fs.take i) ∧ But b H1 H' ∧ BoxAt H' b d) ⟨[], upd_same, .nil, .new _ nD, x1.new nD⟩ (fun i H' _ ⟨_, _, _, h, _⟩ => h.tk x1 _ _ (k1 _ _ h2)) ?_ ?_
      · rintro i u H2 hi ⟨ps, hD, hp, b2, x2⟩
        obtain ⟨g, hgi, hu⟩ := ((h3.tk k1).tk (b2.tk x1)).get hi
        have hm := List.mem_of_getElem? hgi
        have d1 := Fm.dps_mem hm
        have d2 := Fm.cts_mem hm
        have lp := hp.length
        rw [List.length_take] at lp
        refine ⟨rfl, _, rfl, _, rfl, b, d, u, g, rfl, x2, hu, by omega, hwb.mem hm, by omega, fun p H3 hlp llp b3 x3 => ?_⟩
        have hD3 := b3 _ _ nDb hD
        refine ⟨_, hD3, lineOk (by rw [List.length_map]; omega), ps ++ [p], by rw [upd_same, List.map_append]; rfl, ?_, (b2.trans b3).put _ nD, x1.put nD x3⟩
        rw [List.take_succ, hgi]
        exact hp.append (.cons ⟨hlp, llp⟩ .nil)
      · rintro H2 ⟨ps, hD, hp, b2, x2⟩
        rw [lu, List.take_length] at hp
        have lp := hp.length
        have sm := ps_sum hp
        have l0 := lsg0 bc
        refine ⟨_, rfl, b, d, rfl, x2, fun g1 H3 hg1 b3 x3 => ?_⟩
        have e1 := gap_len hg1
        refine ⟨_, rfl, _, _, rfl, rfl, big (by omega), _, rfl, b, d, rfl, x3, fun g2 H4 hg2 b4 x4 => ?_⟩
        have e2 := gap_len hg2
        have hD4 := b4 _ _ nDb (b3 _ _ nDb hD)
        have ls : (g1 ++ Fm.sg0 bc ++ g2).length ≤ 5 := by simp only [s_len]; omega
        have m1 : ps.length * (g1 ++ Fm.sg0 bc ++ g2).length ≤ 100 * 5 := Nat.mul_le_mul (by omega) ls
        have m2 : (g1 ++ Fm.sg0 bc ++ g2).length * (ps.length - 1) ≤ 5 * (ps.length - 1) := Nat.mul_le_mul_right _ ls
        have js := jn_sum (g1 ++ Fm.sg0 bc ++ g2) ps
        refine ⟨_, _, rfl, rfl, big (by (try simp only [s_len]); omega), ⟨_, rfl⟩, _, rfl, _, D, ps, rfl, rfl, .inl (SqL.of hD4), by omega, ?_⟩
        rw [join_jn]
        refine q' _ _ ?_ ?_ (b1.trans (b2.trans (b3.trans b4))) x4
        · cases hp with
          | nil => exact absurd rfl nz
          | @cons p f ps fs h0 h1 =>
            cases fs with
            | nil => cases hb
            | cons g fs =>
              rw [Fm.Lo, Fm.LoL]
              exact ⟨g1, g2, p, ps, hg1, hg2, h0.1, PsOk.lo h1, by rw [Str.append_assoc]⟩
        · show _ ≤ 40 * (1 + Fm.cts fs)
          omega
end
end K2

set_option Elab.async false
set_option linter.all false
set_option maxRecDepth 100000
set_option maxHeartbeats 4000000
/-! the reader: a text and a place -/
namespace K2
open PySem L2 Fo
open C8 (Cal pe_c pss_cut)
abbrev mInit : Stmt := inClass (top 13) 0
abbrev mHere : Stmt := inClass (top 13) 1
abbrev mNext : Stmt := inClass (top 13) 2
abbrev mBegins : Stmt := inClass (top 13) 3
abbrev mWord : Stmt := inClass (top 13) 4
abbrev mSign : Stmt := inClass (top 13) 5
abbrev mName : Stmt := inClass (top 13) 6
theorem tp_ne : ¬ (("text" : Str) = "place") := by decide +kernel
/-- the fields, in the order in which they are stored -/
def rflds (t : Str) (p : Int) : List (Str × V) := putF "place" (.int p) (putF "text" (.str t) [])
theorem rf_text (t : Str) (p : Int) : (rflds t p).lookup ("text" : Str) = some (.str t) := by
  unfold rflds
  rw [lookup_putF, if_neg tp_ne, lookup_putF, if_pos rfl]
theorem rf_place (t : Str) (p : Int) : (rflds t p).lookup ("place" : Str) = some (.int p) := by
  unfold rflds
  rw [lookup_putF, if_pos rfl]
structure RdT (K : PySem.W.Frag) (C : Addr) : Prop where
  cl : Cls K C
  nt : NoAttr K C "text"
  np : NoAttr K C "place"
/-- the text that stands in a list of signs -/
def S (l : List Nat) : Str := ⟨l.toArray⟩
/-- a reader with L before it -/
def RdAt (C : Addr) (H : Hp) (r : Addr) (L : List Nat) : Prop := ∃ (dx : Addr) (t : Str) (p : Nat), H r = some (.ins C dx (rflds t (p : Int))) ∧ t.length ≤ 9000 ∧ p ≤ t.length ∧ t.cps.toList.drop p = L
theorem cut_one (t : Str) (p : Nat) (h : p ≤ t.length) : cutS t (some (p : Int)) (some ((p : Int) + 1)) = S ((t.cps.toList.drop p).take 1) := by
  have hl : t.cps.toList.length = t.length := rfl
  have e1 : HT.sIx t.length 0 (some (p : Int)) = p := by
    show (if (p : Int) < 0 then ((p : Int) + (t.length : Int)).toNat else min (p : Int).toNat t.length) = p
    rw [if_neg (by omega)]
    omega
  have e2 : HT.sIx t.length t.length (some ((p : Int) + 1)) = min (p + 1) t.length := by
    show (if (p : Int) + 1 < 0 then ((p : Int) + 1 + (t.length : Int)).toNat else min ((p : Int) + 1).toNat t.length) = _
    rw [if_neg (by omega)]
    omega
  unfold cutS S
  rw [e1, e2]
  rcases Nat.lt_or_ge p t.length with lt | ge
  · rw [show min (p + 1) t.length - p = 1 by omega]
  · rw [List.drop_eq_nil_of_le (by omega), List.take_nil, List.take_nil]
section
variable {P : Program} {w : World} {K : PySem.W.Frag} {mg : Str → Option Value} {base : Heap}
def spHere (C : Addr) : Sp := fun vs H Q _ => ∃ (r : Addr) (L : List Nat), vs = [.ref r] ∧ RdAt C H r L ∧ Q (.str (S (L.take 1))) H
theorem scHere : FnScope ["self"] ["self"] (defScope mHere) := ⟨rfl, rfl, rfl, by decide +kernel, rfl, by decide +kernel, by decide +kernel⟩
theorem ok_here {f C : Addr} {fd : FuncData} (T : RdT K C) (F : Fun K "here" "Reader.here" mHere f fd) : FnOk P w K mg base CX0 1 f fd ["self"] (spHere C) := by
  refine F.ok scHere (fun vs H Q E h => ?_) (fun cdv A outer s H vs Q E hr h => ?_)
  · obtain ⟨r, L, rfl, _⟩ := h
    rfl
  obtain ⟨r, L, rfl, ⟨dx, t, p, hR, ht, hp, rfl⟩, q⟩ := h
  refine ⟨_, pss_one (ps_ret (pe_slice sl_str (pe_fld (pv 0) rfl) (po_some (pe_fld (pv 0) rfl)) (po_some (pe_op op_add (pe_fld (pv 0) rfl) pe_int)))), ?_⟩
  refine ⟨_, rfl, r, C, dx, _, _, rfl, hR, T.cl, T.nt, rf_text _ _, _, rfl, r, C, dx, _, _, rfl, hR, T.cl, T.np, rf_place _ _, ?_⟩
  refine ⟨_, rfl, _, rfl, r, C, dx, _, _, rfl, hR, T.cl, T.np, rf_place _ _, _, _, rfl, rfl, _, rfl, t, rfl, big9 ht, ?_⟩
  rw [cut_one t p hp]
  exact q
/-- all but what stands at r is as it was: But of the box -/
theorem RdAt.tail {C : Addr} {H : Hp} {r : Addr} {c : Nat} {L : List Nat} (h : RdAt C H r (c :: L)) : ∃ (dx : Addr) (t : Str) (p : Nat), H r = some (.ins C dx (rflds t (p : Int))) ∧ t.length ≤ 9000 ∧ p + 1 ≤ t.length ∧ t.cps.toList.drop p = c :: L ∧ t.cps.toList.drop (p + 1) = L := by
  obtain ⟨dx, t, p, h1, h2, h3, h4⟩ := h
  have hl : t.cps.toList.length = t.length := rfl
  have ll := congrArg List.length h4
  rw [List.length_drop, List.length_cons] at ll
  refine ⟨dx, t, p, h1, h2, by omega, h4, ?_⟩
  rw [← List.drop_drop, h4]
  rfl
theorem rf_eq (t : Str) (z : Int) : rflds t z = ([("text", .str t), ("place", .int z)] : List (Str × V)) := by
  show (if ("text" : Str) = "place" then [(("text" : Str), V.int z)] else (("text" : Str), V.str t) :: putF "place" (V.int z) []) = _
  rw [if_neg tp_ne]
  rfl
theorem rf_put (t : Str) (p q : Int) : putF "place" (.int q) (rflds t p) = rflds t q := by
  rw [rf_eq, rf_eq]
  show (if ("text" : Str) = "place" then _ else (("text" : Str), V.str t) :: (if ("place" : Str) = "place" then [(("place" : Str), V.int q)] else _)) = ([("text", V.str t), ("place", V.int q)] : List (Str × V))
  rw [if_neg tp_ne, if_pos rfl]
/-- the spaces ahead are left out -/
def skip : List Nat → List Nat
  | [] => []
  | c :: L => if c = 32 then skip L else c :: L
def spNext (C : Addr) : Sp := fun vs H Q _ => ∃ (r : Addr) (L : List Nat), vs = [.ref r] ∧ RdAt C H r L ∧ ∀ H', But r H H' → RdAt C H' r (skip L) → Q (.str (S ((skip L).take 1))) H'
theorem scNext : FnScope ["self"] ["self"] (defScope mNext) := ⟨rfl, rfl, rfl, by decide +kernel, rfl, by decide +kernel, by decide +kernel⟩
theorem rf_no (t : Str) (p : Int) {m : Str} (h1 : ¬ m = "place") (h2 : ¬ m = "text") : (rflds t p).lookup m = none := by
  unfold rflds
  rw [lookup_putF, if_neg h1, lookup_putF, if_neg h2]
  all_goals rfl
theorem sp_S : Str.ofString " " = S [32] := by decide +kernel
theorem S_inj {a b : List Nat} (h : S a = S b) : a = b := by
  have e : a.toArray = b.toArray := congrArg Str.cps h
  simpa using congrArg Array.toList e
theorem S_iff {a b : List Nat} : decide (V.str (S a) = V.str (S b)) = decide (a = b) := by
  by_cases z : a = b
  · subst z; rw [decide_eq_true rfl, decide_eq_true rfl]
  · rw [decide_eq_false z, decide_eq_false]
    exact fun q => z (S_inj (V.str.inj q))
theorem ok_next {f g C : Addr} {fd fdg : FuncData} (T : RdT K C) (mHr : Meth K C "here" g) (GH : FnOk P w K mg base CX0 1 g fdg ["self"] (spHere C)) (bH : Binds K fdg ["self"] []) (F : Fun K "next_sign" "Reader.next_sign" mNext f fd) : FnOk P w K mg base CX0 2 f fd ["self"] (spNext C) := by
  refine F.ok scNext (fun vs H Q E h => ?_) (fun cdv A outer s H vs Q E hr h => ?_)
  · obtain ⟨r, L, rfl, _⟩ := h
    rfl
  obtain ⟨r, L, rfl, hR, q⟩ := h
  refine ⟨_, pss_cons (ps_while PassesOwn.never (pt_cmpR op_eq (pe_meth0 (pv 0) T.cl mHr GH hr bH .nil pass0) pe_str (nomark _)) (pss_one (ps_fldaug (pv 0) pe_int in_add))) (pss_one (ps_ret (pe_meth0 (pv 0) T.cl mHr GH hr bH .nil pass0))), ?_⟩
  refine ⟨fun m σ H' => ∃ M, σ = [some (.ref r)] ∧ But r H H' ∧ RdAt C H' r M ∧ skip M = skip L ∧ m = M.length, ⟨_, L, rfl, But.refl _ _, hR, rfl, rfl⟩, ?_⟩
  rintro m σ H1 ⟨M, rfl, b1, hM, e, rfl⟩
  obtain ⟨dx, t, p, h1, h2, h3, h4⟩ := id hM
  have nn : (rflds t (p : Int)).lookup ("here" : Str) = none := rf_no _ _ (by decide +kernel) (by decide +kernel)
  refine ⟨_, rfl, r, dx, _, rfl, h1, nn, r, M, rfl, hM, rfl, _, rfl, ite2 (fun c => ⟨_, fun σ' H' h => h, ?_⟩) (fun c => ?_)⟩
  · rw [sp_S, S_iff] at c
    have c' : M.take 1 = [32] := of_decide_eq_true c
    cases M with
    | nil => cases c'
    | cons x M =>
      have ex : x = 32 := by simpa using c'
      subst ex
      obtain ⟨dx, t, p, g1, g2, g3, g4, g5⟩ := hM.tail
      refine ⟨_, rfl, r, C, dx, _, _, rfl, g1, T.cl, T.np, rf_place _ _, _, _, rfl, rfl, dx, _, g1, (by rw [rf_eq]; show 2 < 1000; decide), ?_⟩
      rw [rf_put]
      exact ⟨M.length, Nat.lt_succ_self _, M, rfl, fun a o ne h => by rw [upd_ne ne]; exact b1 a o ne h, ⟨dx, t, p + 1, upd_same, g2, g3, g5⟩, e, rfl⟩
  · rw [sp_S, S_iff] at c
    have es : skip M = M := by
      cases M with
      | nil => rfl
      | cons x M =>
        show (if x = 32 then _ else _) = _
        rw [if_neg]
        intro z
        subst z
        exact c (decide_eq_true rfl)
    refine ⟨_, rfl, r, dx, _, rfl, h1, nn, r, M, rfl, hM, ?_⟩
    have := q H1 b1
    rw [← e, es] at this
    exact this hM
end
end K2

set_option Elab.async false
set_option linter.all false
set_option maxRecDepth 100000
set_option maxHeartbeats 4000000
namespace K2
open PySem L2 Fo
open C8 (Cal pe_c pss_cut)
/-- a row that is never reached -/
theorem ps_never {X : Cx} {st : Stmt} : PS X st (fun _ _ _ => False) := ⟨fun _ _ _ _ _ _ h => h.elim⟩
theorem for_str {z : Str} {g : TG} {tb : TS} {D : Ends} {σ : St} {H : Hp} (Pv : Nat → St → Hp → Prop) (h0 : Pv 0 σ H)
    (hs : ∀ (i : Nat) (c : Nat) (σ : St) (H : Hp), z.cps[i]? = some c → Pv i σ H → g (.str ⟨#[c]⟩) σ H fun σ2 H2 => tb { nx := Pv (i + 1), rt := D.rt, bk := D.nx, ct := Pv (i + 1) } σ2 H2) (hd : ∀ (σ : St) (H : Hp), Pv z.cps.size σ H → D.nx σ H) :
    ∃ W : Nat → Nat → St → Hp → Prop, (∃ m, W 0 m σ H) ∧ ∀ (i m : Nat) (σ : St) (H : Hp), W i m σ H → (Its z).stop i H ∧ D.nx σ H ∨ (Its z).go i H ∧ ∃ N : St → Hp → Prop, (∀ (σ' : St) (H' : Hp), N σ' H' → ∃ m', m' < m ∧ W (i + 1) m' σ' H') ∧
      ∀ (x : V) (H' : Hp), (Its z).yld i H x H' → g x σ H' fun σ2 H2 => tb { nx := N, rt := D.rt, bk := D.nx, ct := N } σ2 H2 := by
  refine ⟨fun i m σ H => m = z.cps.size - i ∧ i ≤ z.cps.size ∧ Pv i σ H, ⟨_, rfl, Nat.zero_le _, h0⟩, ?_⟩
  rintro i m σ H ⟨rfl, hi, p⟩
  rcases Nat.lt_or_ge i z.cps.size with lt | ge
  · refine .inr ⟨lt, Pv (i + 1), fun σ' H' p' => ⟨_, by omega, rfl, lt, p'⟩, fun x H' y => ?_⟩
    obtain ⟨rfl, c, hc, rfl⟩ := y
    exact hs i c σ _ hc p
  · obtain rfl : i = z.cps.size := by omega
    exact .inl ⟨Nat.le_refl _, hd σ H p⟩
section
variable {P : Program} {w : World} {K : PySem.W.Frag} {mg : Str → Option Value} {base : Heap}
def spWord (C : Addr) : Sp := fun vs H Q _ => ∃ (r : Addr) (wd L : List Nat), vs = [.ref r, .str (S wd)] ∧ RdAt C H r (wd ++ L) ∧ ∀ H', But r H H' → RdAt C H' r L → Q .non H'
theorem scWord : FnScope ["self", "word", "sign"] ["self", "word"] (defScope mWord) := ⟨rfl, rfl, rfl, by decide +kernel, rfl, by decide +kernel, by decide +kernel⟩
theorem ok_word {f g C : Addr} {fd fdg : FuncData} (T : RdT K C) (mHr : Meth K C "here" g) (GH : FnOk P w K mg base CX0 1 g fdg ["self"] (spHere C)) (bH : Binds K fdg ["self"] []) (F : Fun K "take_word" "Reader.take_word" mWord f fd) : FnOk P w K mg base CX0 2 f fd ["self", "word"] (spWord C) := by
  refine F.ok scWord (fun vs H Q E h => ?_) (fun cdv A outer s H vs Q E hr h => ?_)
  · obtain ⟨r, wd, L, rfl, _⟩ := h
    rfl
  obtain ⟨r, wd, L, rfl, hR, q⟩ := h
  have nd := scWord.nd
  refine ⟨_, pss_one (ps_for PassesOwn.never rfl (pi_str (pv 1)) (pg_name (i := 2) nd rfl (.inl rfl)) (pss_cons (ps_if (pt_cmpR op_ne (pe_meth0 (pv 0) T.cl mHr GH hr bH .nil pass0) (pv 2) (nomark _)) (pss_one ps_never) pss_nil) (pss_one (ps_fldaug (pv 0) pe_int in_add)))), ?_⟩
  refine ⟨_, rfl, S wd, rfl, for_str (fun i σ H' => ∃ sg, σ = [some (.ref r), some (.str (S wd)), sg] ∧ But r H H' ∧ RdAt C H' r (wd.drop i ++ L)) ⟨none, rfl, But.refl _ _, hR⟩ ?_ ?_⟩
  · rintro i c σ H1 hc ⟨sg, rfl, b1, hM⟩
    have hc' : wd[i]? = some c := by
      have : (S wd).cps[i]? = wd[i]? := by simp [S]
      rw [← this]; exact hc
    obtain ⟨li, e⟩ := List.getElem?_eq_some_iff.mp hc'
    rw [List.drop_eq_getElem_cons li, e, List.cons_append] at hM
    obtain ⟨dx, t, p, g1, g2, g3, g4, g5⟩ := hM.tail
    have nn : (rflds t (p : Int)).lookup ("here" : Str) = none := rf_no _ _ (by decide +kernel) (by decide +kernel)
    refine ⟨_, rfl, r, dx, _, rfl, g1, nn, r, _, rfl, hM, _, rfl, rfl, false, ?_, ?_⟩
    · show V.bl (!decide (V.str (S [c]) = V.str ⟨#[c]⟩)) = V.bl false
      rw [decide_eq_true (show V.str (S [c]) = V.str ⟨#[c]⟩ from rfl)]
      rfl
    refine ⟨_, rfl, r, C, dx, _, _, rfl, g1, T.cl, T.np, rf_place _ _, _, _, rfl, rfl, dx, _, g1, (by rw [rf_eq]; show 2 < 1000; decide), ?_⟩
    rw [rf_put]
    exact ⟨_, rfl, fun a o ne h => by rw [upd_ne ne]; exact b1 a o ne h, ⟨dx, t, p + 1, upd_same, g2, g3, g5⟩⟩
  · rintro σ H1 ⟨sg, rfl, b1, hM⟩
    have e : wd.drop (S wd).cps.size = [] := List.drop_eq_nil_of_le (by simp [S])
    rw [e] at hM
    exact q H1 b1 hM
def spSign (C : Addr) : Sp := fun vs H Q _ => ∃ (r : Addr) (wd M L : List Nat), vs = [.ref r, .str (S wd)] ∧ RdAt C H r M ∧ skip M = wd ++ L ∧ ∀ H', But r H H' → RdAt C H' r L → Q .non H'
theorem scSign : FnScope ["self", "sign"] ["self", "sign"] (defScope mSign) := ⟨rfl, rfl, rfl, by decide +kernel, rfl, by decide +kernel, by decide +kernel⟩
theorem ok_sign {f g1 g2 C : Addr} {fd fd1 fd2 : FuncData} (T : RdT K C) (mN : Meth K C "next_sign" g1) (GN : FnOk P w K mg base CX0 2 g1 fd1 ["self"] (spNext C)) (bN : Binds K fd1 ["self"] []) (mW : Meth K C "take_word" g2) (GW : FnOk P w K mg base CX0 2 g2 fd2 ["self", "word"] (spWord C)) (bW : Binds K fd2 ["self", "word"] []) (F : Fun K "take_sign" "Reader.take_sign" mSign f fd) : FnOk P w K mg base CX0 3 f fd ["self", "sign"] (spSign C) := by
  refine F.ok scSign (fun vs H Q E h => ?_) (fun cdv A outer s H vs Q E hr h => ?_)
  · obtain ⟨r, wd, M, L, rfl, _⟩ := h
    rfl
  obtain ⟨r, wd, M, L, rfl, hR, e, q⟩ := h
  refine ⟨_, pss_cons (ps_expr (pe_meth0 (pv 0) T.cl mN GN hr bN .nil pass0)) (pss_one (ps_expr (pe_meth (pv 0) T.cl mW GW hr bW .nil pass0 (pa_cons (pv 1) pa_nil)))), ?_⟩
  obtain ⟨dx, t, p, h1, _⟩ := id hR
  refine ⟨_, rfl, r, dx, _, rfl, h1, rf_no _ _ (by decide +kernel) (by decide +kernel), r, M, rfl, hR, fun H1 b1 hM => ?_⟩
  rw [e] at hM
  obtain ⟨dx, t, p, h2, _⟩ := id hM
  exact ⟨_, rfl, r, dx, _, rfl, h2, rf_no _ _ (by decide +kernel) (by decide +kernel), _, rfl, r, wd, L, rfl, hM, fun H2 b2 hL => q H2 (b1.trans b2) hL⟩
end
end K2

set_option Elab.async false
set_option linter.all false
set_option maxRecDepth 100000
set_option maxHeartbeats 4000000
namespace K2
open PySem L2 Fo
open C8 (Cal pe_c pss_cut)
/-- nm is a name that ends ahead of L -/
def IsName (nm L : List Nat) : Prop := (∃ c, nm = [c] ∧ 97 ≤ c ∧ c ≤ 122 ∧ ∀ d, L.head? = some d → ¬ (48 ≤ d ∧ d ≤ 57)) ∨ ∃ c d, nm = [c, d] ∧ 97 ≤ c ∧ c ≤ 122 ∧ 48 ≤ d ∧ d ≤ 57
theorem lt_one (a b : Nat) : decide ([a] < [b]) = decide (a < b) := by
  by_cases h : a < b
  · rw [decide_eq_true h, decide_eq_true]
    exact List.Lex.rel h
  · rw [decide_eq_false h, decide_eq_false]
    intro q
    cases q with
    | rel q => exact h q
    | cons q => cases q
theorem a_S : Str.ofString "a" = S [97] := by decide +kernel
theorem z_S : Str.ofString "z" = S [122] := by decide +kernel
theorem d0_S : Str.ofString "0" = S [48] := by decide +kernel
theorem d9_S : Str.ofString "9" = S [57] := by decide +kernel
theorem le_S (a b : Nat) : (!decide ((S [b]).cps.toList < (S [a]).cps.toList)) = decide (a ≤ b) := by
  show (!decide ([b] < [a])) = _
  rw [lt_one]
  by_cases h : a ≤ b
  · rw [decide_eq_true h, decide_eq_false (by omega)]; rfl
  · rw [decide_eq_false h, decide_eq_true (by omega)]; rfl
section
variable {P : Program} {w : World} {K : PySem.W.Frag} {mg : Str → Option Value} {base : Heap}
def spTName (C : Addr) : Sp := fun vs H Q _ => ∃ (r : Addr) (nm M L : List Nat), vs = [.ref r] ∧ RdAt C H r M ∧ skip M = nm ++ L ∧ IsName nm L ∧ ∀ H', But r H H' → RdAt C H' r L → Q (.str (S nm)) H'
theorem scTName : FnScope ["self", "first", "digit"] ["self"] (defScope mName) := ⟨rfl, rfl, rfl, by decide +kernel, rfl, by decide +kernel, by decide +kernel⟩
theorem ok_tname {f g g1 C : Addr} {fd fdg fd1 : FuncData} (T : RdT K C) (mHr : Meth K C "here" g) (GH : FnOk P w K mg base CX0 1 g fdg ["self"] (spHere C)) (bH : Binds K fdg ["self"] []) (mN : Meth K C "next_sign" g1) (GN : FnOk P w K mg base CX0 2 g1 fd1 ["self"] (spNext C)) (bN : Binds K fd1 ["self"] []) (F : Fun K "take_name" "Reader.take_name" mName f fd) : FnOk P w K mg base CX0 3 f fd ["self"] (spTName C) := by
  refine F.ok scTName (fun vs H Q E h => ?_) (fun cdv A outer s H vs Q E hr h => ?_)
  · obtain ⟨r, nm, M, L, rfl, _⟩ := h
    rfl
  obtain ⟨r, nm, M, L, rfl, hR, e, hN, q⟩ := h
  have nd := scTName.nd
  have hr1 : Room 1 _ := hr.mono (by decide)
  refine ⟨_, pss_cons (ps_set (i := 1) nd rfl (.inl rfl) (pe_meth0 (pv 0) T.cl mN GN hr bN .nil pass0))
    (pss_cons (ps_if (pt_not (pt_chain op_le_str op_le_str pe_str (pv 1) pe_str)) (pss_one ps_never) pss_nil)
    (pss_cons (ps_fldaug (pv 0) pe_int in_add)
    (pss_cons (ps_set (i := 2) nd rfl (.inl rfl) (pe_meth0 (pv 0) T.cl mHr GH hr1 bH .nil pass0))
    (pss_cons (ps_if (pt_not (pt_chain op_le_str op_le_str pe_str (pv 2) pe_str)) (pss_one (ps_ret (pv 1))) pss_nil)
    (pss_cons (ps_fldaug (pv 0) pe_int in_add)
    (pss_one (ps_ret (pe_op op_add_str (pv 1) (pv 2))))))))), ?_⟩
  obtain ⟨dx, t, p, h1, _⟩ := id hR
  refine ⟨_, rfl, r, dx, _, rfl, h1, rf_no _ _ (by decide +kernel) (by decide +kernel), r, M, rfl, hR, fun H1 b1 hM => ?_⟩
  rw [e] at hM ⊢
  obtain ⟨c, X, hnm, c1, c2⟩ : ∃ c X, nm = c :: X ∧ 97 ≤ c ∧ c ≤ 122 := by
    rcases hN with ⟨c, rfl, c1, c2, _⟩ | ⟨c, d, rfl, c1, c2, _, _⟩
    · exact ⟨c, _, rfl, c1, c2⟩
    · exact ⟨c, _, rfl, c1, c2⟩
  have et : ((nm ++ L).take 1) = [c] := by rw [hnm]; rfl
  rw [et]
  refine ⟨_, rfl, _, _, rfl, rfl, true, ?_, _, _, rfl, rfl, true, ?_, ?_⟩
  · rw [a_S, le_S, decide_eq_true c1]
  · rw [z_S, le_S, decide_eq_true c2]
  have hM' : RdAt C H1 r (c :: (X ++ L)) := by rw [hnm] at hM; exact hM
  obtain ⟨dx, t, p, g1, g2, g3, g4, g5⟩ := hM'.tail
  refine ⟨_, rfl, r, C, dx, _, _, rfl, g1, T.cl, T.np, rf_place _ _, _, _, rfl, rfl, dx, _, g1, (by rw [rf_eq]; show 2 < 1000; decide), ?_⟩
  rw [rf_put]
  have b2 : But r H (upd H1 r (.ins C dx (rflds t ((p : Int) + 1)))) := fun a o ne h => by rw [upd_ne ne]; exact b1 a o ne h
  have hM2 : RdAt C (upd H1 r (.ins C dx (rflds t ((p : Int) + 1)))) r (X ++ L) := ⟨dx, t, p + 1, upd_same, g2, g3, g5⟩
  generalize upd H1 r (.ins C dx (rflds t ((p : Int) + 1))) = H2 at b2 hM2 ⊢
  obtain ⟨dx2, t2, p2, h2, _⟩ := id hM2
  refine ⟨_, rfl, r, dx2, _, rfl, h2, rf_no _ _ (by decide +kernel) (by decide +kernel), r, _, rfl, hM2, ?_⟩
  rcases hN with ⟨c', rfl, _, _, hd⟩ | ⟨c', d, rfl, _, _, d1, d2⟩
  · cases hnm
    have hM3 : RdAt C H2 r L := hM2
    cases L with
    | nil =>
      refine ⟨_, rfl, _, _, rfl, rfl, false, ?_, _, rfl, _, rfl, q H2 b2 hM3⟩
      show V.bl (!decide ((S []).cps.toList < (Str.ofString "0").cps.toList)) = V.bl false
      decide +kernel
    | cons d L =>
      have hd' := hd d rfl
      show _
      by_cases z : 48 ≤ d
      · refine ⟨_, rfl, _, _, rfl, rfl, true, ?_, _, _, rfl, rfl, false, ?_, _, rfl, q H2 b2 hM3⟩
        · rw [d0_S]; exact congrArg V.bl ((le_S 48 d).trans (decide_eq_true z))
        · rw [d9_S]; exact congrArg V.bl ((le_S d 57).trans (decide_eq_false (by omega)))
      · refine ⟨_, rfl, _, _, rfl, rfl, false, ?_, _, rfl, _, rfl, q H2 b2 hM3⟩
        rw [d0_S]; exact congrArg V.bl ((le_S 48 d).trans (decide_eq_false z))
  · cases hnm
    refine ⟨_, rfl, _, _, rfl, rfl, true, ?_, _, _, rfl, rfl, true, ?_, ?_⟩
    · rw [d0_S]; exact congrArg V.bl ((le_S 48 d).trans (decide_eq_true d1))
    · rw [d9_S]; exact congrArg V.bl ((le_S d 57).trans (decide_eq_true d2))
    obtain ⟨dx, t, p, g1, g2, g3, g4, g5⟩ := RdAt.tail (L := L) hM2
    refine ⟨_, rfl, r, C, dx, _, _, rfl, g1, T.cl, T.np, rf_place _ _, _, _, rfl, rfl, dx, _, g1, (by rw [rf_eq]; show 2 < 1000; decide), ?_⟩
    rw [rf_put]
    refine ⟨_, rfl, _, rfl, _, _, rfl, rfl, (by show 1 + 1 ≤ sizeLine; decide), ?_⟩
    exact q _ (fun a o ne h => by rw [upd_ne ne]; exact b2 a o ne h) ⟨dx, t, p + 1, upd_same, g2, g3, g5⟩
end
end K2

set_option Elab.async false
set_option linter.all false
set_option maxRecDepth 100000
set_option maxHeartbeats 4000000
namespace K2
open PySem L2 Fo
open C8 (Cal pe_c pss_cut)
theorem starts (t : Str) (wd : List Nat) (p : Nat) (hp : p ≤ t.length) : Txt.startswith3 t (S wd) (p : Int) = decide ((t.cps.toList.drop p).take wd.length = wd) := by
  have hl : t.cps.toList.length = t.length := rfl
  have ew : (S wd).length = wd.length := by simp [S, Str.length]
  have ef : fromIndex t.length (p : Int) = p := by
    show (max 0 (if (p : Int) < 0 then (p : Int) + (t.length : Int) else (p : Int))).toNat = p
    rw [if_neg (by omega)]
    omega
  unfold Txt.startswith3
  rw [ef, ew]
  have es : Builtin.Str.subAt t (S wd) p = decide ((t.cps.toList.drop p).take wd.length = wd) := by
    show (t.cps.extract p (p + (S wd).length) == (S wd).cps) = _
    rw [ew]
    have e : (t.cps.extract p (p + wd.length)).toList = (t.cps.toList.drop p).take wd.length := by
      rw [Array.toList_extract]
      show List.extract _ _ _ = _
      rw [List.extract_eq_take_drop, Nat.add_sub_cancel_left]
    by_cases z : (t.cps.toList.drop p).take wd.length = wd
    · rw [decide_eq_true z, beq_iff_eq]
      apply Array.ext'
      rw [e, z]
      rfl
    · rw [decide_eq_false z]
      apply Bool.eq_false_iff.mpr
      intro q
      rw [beq_iff_eq] at q
      apply z
      rw [← e, q]
      rfl
  rw [es]
  by_cases z : (t.cps.toList.drop p).take wd.length = wd
  · have := congrArg List.length z
    rw [List.length_take, List.length_drop] at this
    rw [decide_eq_true z, decide_eq_true (by omega)]
    rfl
  · rw [decide_eq_false z, Bool.and_false]
section
variable {P : Program} {w : World} {K : PySem.W.Frag} {mg : Str → Option Value} {base : Heap}
def spRInit (C : Addr) : Sp := fun vs H Q _ => ∃ (r dx : Addr) (t : Str), vs = [.ref r, .str t] ∧ H r = some (.ins C dx []) ∧ t.length ≤ 9000 ∧ ∀ H', But r H H' → RdAt C H' r t.cps.toList → Q .non H'
theorem scRInit : FnScope ["self", "text"] ["self", "text"] (defScope mInit) := ⟨rfl, rfl, rfl, by decide +kernel, rfl, by decide +kernel, by decide +kernel⟩
theorem ok_rinit {f C : Addr} {fd : FuncData} (T : RdT K C) (F : Fun K "__init__" "Reader.__init__" mInit f fd) : FnOk P w K mg base CX0 1 f fd ["self", "text"] (spRInit C) := by
  refine F.ok scRInit (fun vs H Q E h => ?_) (fun cdv A outer s H vs Q E hr h => ?_)
  · obtain ⟨r, dx, t, rfl, _⟩ := h
    rfl
  obtain ⟨r, dx, t, rfl, hr0, ht, q⟩ := h
  refine ⟨_, pss_cons (ps_fld (pv 0) (pv 1) rfl) (pss_one (ps_fld (pv 0) pe_int rfl)), ?_⟩
  refine ⟨_, rfl, _, rfl, r, C, dx, [], rfl, hr0, T.cl, T.nt, (by show 0 < 1000; decide), _, rfl, r, C, dx, _, rfl, upd_same, T.cl, T.np, (by show 1 < 1000; decide), ?_⟩
  exact q _ (fun a o ne h => by rw [upd_ne ne, upd_ne ne]; exact h) ⟨dx, t, 0, upd_same, ht, Nat.zero_le _, rfl⟩
def spBegins (C : Addr) : Sp := fun vs H Q _ => ∃ (r : Addr) (wd L : List Nat), vs = [.ref r, .str (S wd)] ∧ RdAt C H r L ∧ Q (.bl (decide (L.take wd.length = wd))) H
theorem scBegins : FnScope ["self", "word"] ["self", "word"] (defScope mBegins) := ⟨rfl, rfl, rfl, by decide +kernel, rfl, by decide +kernel, by decide +kernel⟩
theorem ok_begins {f C : Addr} {fd : FuncData} (T : RdT K C) (F : Fun K "begins" "Reader.begins" mBegins f fd) : FnOk P w K mg base CX0 1 f fd ["self", "word"] (spBegins C) := by
  refine F.ok scBegins (fun vs H Q E h => ?_) (fun cdv A outer s H vs Q E hr h => ?_)
  · obtain ⟨r, wd, L, rfl, _⟩ := h
    rfl
  obtain ⟨r, wd, L, rfl, ⟨dx, t, p, hR, ht, hp, rfl⟩, q⟩ := h
  refine ⟨_, pss_one (ps_ret (pe_bm PySem.F.plainAttrs_str PySem.F.slot_str_startswith PySem.F.type_str_startswith mt_startswith3 (pe_fld (pv 0) rfl) (pa_cons (pv 1) (pa_cons (pe_fld (pv 0) rfl) pa_nil)))), ?_⟩
  refine ⟨_, rfl, r, C, dx, _, _, rfl, hR, T.cl, T.nt, rf_text _ _, ?_⟩
  refine ⟨?_, _, rfl, _, rfl, r, C, dx, _, _, rfl, hR, T.cl, T.np, rf_place _ _, t, S wd, (p : Int), rfl, rfl, ?_⟩
  · exact (rfl : "str" = "str")
  · rw [starts t wd p hp]
    exact q
end
end K2

set_option Elab.async false
set_option linter.all false
set_option maxRecDepth 100000
set_option maxHeartbeats 4000000
namespace K2
open PySem L2 Fo
open C8 (Cal pe_c pss_cut)
def negs : Nat → Fm → Fm
  | 0, f => f
  | k + 1, f => .neg (negs k f)
section
variable {P : Program} {w : World} {K : PySem.W.Frag} {mg : Str → Option Value} {base : Heap}
def spDenied (K : PySem.W.Frag) : Sp := fun vs H Q _ => ∃ (v : V) (k : Nat) (f : Fm), vs = [v, .int (k : Int)] ∧ FmAt K H v f ∧ k ≤ 9000 ∧ ∀ (v' : V) (H' : Hp), Same H H' → FmAt K H' v' (negs k f) → Q v' H'
abbrev nDenied : List Str := ["formula", "nots", "_"]
theorem scDenied : FnScope nDenied ["formula", "nots"] (defScope sDenied) := ⟨rfl, rfl, rfl, by decide +kernel, rfl, by decide +kernel, by decide +kernel⟩
theorem ok_denied {f : Addr} {fd : FuncData} (B : Bt mg) (F : Fun K "denied" "denied" sDenied f fd) : FnOk P w K mg base CX0 1 f fd ["formula", "nots"] (spDenied K) := by
  refine F.ok scDenied (fun vs H Q E h => ?_) (fun cdv A outer s H vs Q E hr h => ?_)
  · obtain ⟨v, k, f, rfl, _⟩ := h
    rfl
  obtain ⟨v, k, f, rfl, hF, hk, q⟩ := h
  have nd := scDenied.nd
  have big' : (k : Int) ≤ 16777216 := by omega
  refine ⟨_, pss_cons (ps_for PassesOwn.never rfl (pi_range1 rfl B.range (pa_cons (pv 1) pa_nil)) (pg_name (i := 2) nd rfl (.inl rfl)) (pss_one (ps_set (i := 0) nd rfl (.inl rfl) (pe_tup (pa_cons pe_str (pa_cons (pv 0) pa_nil)))))) (pss_one (ps_ret (pv 0))), ?_⟩
  refine ⟨_, rfl, (k : Int), rfl, by omega, by omega, for_range (lo := 0) (n := k) (fun i σ H' => ∃ (u : V) (z : Option V), σ = [some u, some (.int (k : Int)), z] ∧ Same H H' ∧ FmAt K H' u (negs i f)) ⟨v, none, rfl, Same.refl _, hF⟩ ?_ ?_⟩
  · rintro i σ H1 hi ⟨u, z, rfl, s1, hu⟩
    refine ⟨_, rfl, l2, fun p np => ⟨_, _, rfl, s1.trans (same_new np _), ?_⟩⟩
    exact mk_neg hu np
  · rintro σ H1 ⟨u, z, rfl, s1, hu⟩
    exact ⟨_, rfl, q u H1 s1 hu⟩
end
end K2

set_option Elab.async false
set_option linter.all false
set_option maxRecDepth 100000
set_option maxHeartbeats 4000000
/-! texts as lists of code points, and how they are read -/
namespace K2
open PySem L2 Fo
def ls (s : Str) : List Nat := s.cps.toList
theorem S_ls (s : Str) : S (ls s) = s := rfl
theorem ls_S (l : List Nat) : ls (S l) = l := rfl
theorem ls_app (a b : Str) : ls (a ++ b) = ls a ++ ls b := by
  show (Str.append a b).cps.toList = _
  simp [Str.append, ls]
theorem ls_e : ls Str.empty = [] := rfl
theorem l_par : ls (Str.ofString "(") = [40] := by decide +kernel
theorem l_par2 : ls (Str.ofString ")") = [41] := by decide +kernel
theorem l_com : ls (Str.ofString ",") = [44] := by decide +kernel
theorem l_eq : ls (Str.ofString "=") = [61] := by decide +kernel
theorem l_sp : ls (Str.ofString " ") = [32] := by decide +kernel
theorem l_sp2 : ls (Str.ofString "  ") = [32, 32] := by decide +kernel
theorem l_neg : ls (Str.ofString "~") = [126] := by decide +kernel
theorem l_col : ls (Str.ofString ":") = [58] := by decide +kernel
def sgc (b : Bool) : Nat := if b = true then 38 else 124
theorem l_sg (b : Bool) : ls (Fm.sg0 b) = [sgc b] := by cases b <;> decide +kernel
/-- levels of parentheses -/
structure Lv where
  nots : Nat
  binders : List (Bool × Str)
  joint : Option Bool
  rows : List Fm
def baseF (j : Option Bool) (rows : List Fm) : Fm := match j with
  | some b => .con b rows
  | none => match rows with
    | f :: _ => f
    | [] => .con true []
def wrap : List (Bool × Str) → Fm → Fm
  | [], f => f
  | (b, x) :: bs, f => .qu b x (wrap bs f)
def Lv.whole (v : Lv) : Fm := wrap v.binders (baseF v.joint v.rows)
def push (f : Fm) : List Lv → List Lv
  | [] => []
  | v :: r => { v with rows := v.rows ++ [f] } :: r
theorem skip_cons {c : Nat} {L : List Nat} (e : c ≠ 32) : skip (c :: L) = c :: L := by
  show (if c = 32 then _ else _) = _
  rw [if_neg e]
theorem skip_idem : ∀ L, skip (skip L) = skip L
  | [] => rfl
  | c :: L => by
    by_cases e : c = 32
    · subst e; exact skip_idem L
    · rw [skip_cons e, skip_cons e]
theorem skip_len : ∀ L, (skip L).length ≤ L.length
  | [] => Nat.le_refl _
  | c :: L => by
    unfold skip
    by_cases e : c = 32
    · rw [if_pos e]; exact Nat.le_succ_of_le (skip_len L)
    · rw [if_neg e]; exact Nat.le_refl _
theorem skip_sp (L : List Nat) : skip (32 :: L) = skip L := rfl
def nots : List Nat → Nat × List Nat
  | [] => (0, [])
  | c :: L => if c = 32 then nots L else if c = 126 then ((nots L).1 + 1, (nots L).2) else (0, c :: L)
theorem nots_skip : ∀ L, nots (skip L) = nots L
  | [] => rfl
  | c :: L => by
    by_cases e : c = 32
    · subst e; exact nots_skip L
    · rw [skip_cons e]
theorem nots_neg (L : List Nat) : nots (126 :: L) = ((nots L).1 + 1, (nots L).2) := rfl
theorem nots_out : ∀ L, skip (nots L).2 = (nots L).2
  | [] => rfl
  | c :: L => by
    unfold nots
    split
    · exact nots_out L
    · split
      · exact nots_out L
      · rename_i e _; exact skip_cons e
theorem nots_len : ∀ L, (nots L).1 + (nots L).2.length ≤ L.length
  | [] => Nat.le_refl _
  | c :: L => by
    have := nots_len L
    unfold nots
    split
    · simp only [List.length_cons]; omega
    · split
      · simp only [List.length_cons]; omega
      · simp
theorem nots_head : ∀ L, (nots L).2.head? ≠ some 126
  | [] => by simp [nots]
  | c :: L => by
    have := nots_head L
    unfold nots
    split
    · exact this
    · split
      · exact this
      · rename_i e; simpa using e
/-- some and all ahead of a formula -/
inductive BindR : List Nat → List (Bool × Str) → List Nat → Prop
  | stop {L : List Nat} : ¬ (skip L).take 2 = [115, 111] → ¬ (skip L).take 2 = [97, 108] → BindR L [] (skip L)
  | go {b : Bool} {L L1 nm L2 L3 L' : List Nat} {bs : List (Bool × Str)} : skip L = ls (qn b) ++ (32 :: L1) → skip L1 = nm ++ L2 → IsName nm L2 → skip L2 = 58 :: L3 → BindR L3 bs L' → BindR L ((b, S nm) :: bs) L'
inductive NamesR : List Nat → List Str → List Nat → Prop
  | one {L L1 n1 L2 L' : List Nat} : skip L = 40 :: L1 → skip L1 = n1 ++ L2 → IsName n1 L2 → skip L2 = 41 :: L' → NamesR L [S n1] L'
  | two {L L1 n1 L2 L3 n2 L4 L' : List Nat} : skip L = 40 :: L1 → skip L1 = n1 ++ L2 → IsName n1 L2 → skip L2 = 44 :: L3 → skip L3 = n2 ++ L4 → IsName n2 L4 → skip L4 = 41 :: L' → NamesR L [S n1, S n2] L'
inductive PlainR : List Nat → Fm → List Nat → Prop
  | word {L L' : List Nat} (b : Bool) : skip L = ls (Fm.word b) ++ L' → PlainR L (.con b []) L'
  | rel {L L1 L' : List Nat} {c : Nat} {ns : List Str} : skip L = c :: L1 → 65 ≤ c → c ≤ 90 → NamesR L1 ns L' → PlainR L (.rel (S [c]) ns) L'
  | same {L n1 L1 L2 n2 L' : List Nat} : skip L = n1 ++ L1 → IsName n1 L1 → ¬ (skip L).take 2 = [116, 114] → ¬ (skip L).take 2 = [102, 97] → skip L1 = 61 :: L2 → skip L2 = n2 ++ L' → IsName n2 L' → PlainR L (.same (S n1) (S n2)) L'
mutual
inductive Ro : List Nat → List Lv → Fm → Prop
  | opn {L L1 L2 : List Nat} {stk : List Lv} {F : Fm} {k : Nat} {bs : List (Bool × Str)} : nots L = (k, 40 :: L1) → BindR L1 bs L2 → Ro L2 (⟨k, bs, none, []⟩ :: stk) F → Ro L stk F
  | pln {L L1 L2 : List Nat} {stk : List Lv} {F g : Fm} {k : Nat} : nots L = (k, L1) → L1.head? ≠ some 40 → PlainR L1 g L2 → Aft L2 (push (negs k g) stk) F → Ro L stk F
inductive Aft : List Nat → List Lv → Fm → Prop
  | close {L L1 : List Nat} {v v2 : Lv} {r : List Lv} {F : Fm} : skip L = 41 :: L1 → v.rows ≠ [] → Aft L1 (push (negs v.nots v.whole) (v2 :: r)) F → Aft L (v :: v2 :: r) F
  | fin {L : List Nat} {v : Lv} : skip L = [] → v.rows ≠ [] → Aft L [v] v.whole
  | joint {L L1 : List Nat} {v : Lv} {r : List Lv} {F : Fm} (b : Bool) : skip L = sgc b :: L1 → (v.joint = none ∨ v.joint = some b) → Ro L1 ({ v with joint := some b } :: r) F → Aft L (v :: r) F
end
theorem BindR.as {L M L' : List Nat} {bs : List (Bool × Str)} (h : BindR L bs L') (e : skip M = skip L) : BindR M bs L' := by
  cases h with
  | stop a b => rw [← e] at a b ⊢; exact .stop a b
  | go a b c d r => exact .go (e.trans a) b c d r
theorem Ro.as {L M : List Nat} {stk : List Lv} {F : Fm} (h : Ro L stk F) (e : nots M = nots L) : Ro M stk F := by
  cases h with
  | opn a b c => exact .opn (e.trans a) b c
  | pln a b c d => exact .pln (e.trans a) b c d
theorem isName_len {nm L : List Nat} (h : IsName nm L) : 1 ≤ nm.length := by
  rcases h with ⟨c, rfl, _⟩ | ⟨c, d, rfl, _⟩ <;> simp
theorem bindR_len {L L' : List Nat} {bs : List (Bool × Str)} (h : BindR L bs L') : bs.length + L'.length ≤ L.length := by
  induction h with
  | @stop L _ _ => have := skip_len L; simpa using this
  | @go b L L1 nm L2 L3 L' bs a1 a2 a3 a4 _ ih =>
    have s1 := skip_len L
    have s2 := skip_len L1
    have s3 := skip_len L2
    rw [a1] at s1; rw [a2] at s2; rw [a4] at s3
    rw [List.length_append, List.length_cons] at s1
    rw [List.length_append] at s2
    rw [List.length_cons] at s3 ⊢
    omega
theorem namesR_len {L L' : List Nat} {ns : List Str} (h : NamesR L ns L') : L'.length ≤ L.length := by
  cases h with
  | @one L1 n1 L2 _ a1 a2 a3 a4 =>
    have s1 := skip_len L
    have s2 := skip_len L1
    have s3 := skip_len L2
    rw [a1] at s1; rw [a2] at s2; rw [a4] at s3
    simp only [List.length_append, List.length_cons] at s1 s2 s3
    omega
  | @two L1 n1 L2 L3 n2 L4 _ a1 a2 a3 a4 a5 a6 a7 =>
    have s1 := skip_len L
    have s2 := skip_len L1
    have s3 := skip_len L2
    have s4 := skip_len L3
    have s5 := skip_len L4
    rw [a1] at s1; rw [a2] at s2; rw [a4] at s3; rw [a5] at s4; rw [a7] at s5
    simp only [List.length_append, List.length_cons] at s1 s2 s3 s4 s5
    omega
theorem word_pos (b : Bool) : 2 ≤ (ls (Fm.word b)).length := by cases b <;> decide +kernel
theorem plainR_len {L L' : List Nat} {g : Fm} (h : PlainR L g L') : L'.length + 1 ≤ L.length := by
  have s0 := skip_len L
  cases h with
  | word b a =>
    rw [a, List.length_append] at s0
    have := word_pos b
    omega
  | rel a _ _ n =>
    have := namesR_len n
    rw [a, List.length_cons] at s0
    omega
  | @same n1 L1 L2 n2 _ a1 a2 _ _ a3 a4 a5 =>
    have s1 := skip_len L1
    have s2 := skip_len L2
    have := isName_len a2
    rw [a1, List.length_append] at s0
    rw [a3, List.length_cons] at s1
    rw [a4, List.length_append] at s2
    omega
/-! ### the texts of formulas -/
def Nd (T : List Nat) : Prop := ∀ d, T.head? = some d → ¬ (48 ≤ d ∧ d ≤ 57)
theorem nd_nil : Nd [] := fun d h => by simp at h
theorem nd_cons {c : Nat} {T : List Nat} (h : ¬ (48 ≤ c ∧ c ≤ 57)) : Nd (c :: T) := fun d e => by
  rw [List.head?_cons, Option.some.injEq] at e
  subst e; exact h
theorem gap_skip {g : Str} (h : Fm.Gap g) (T : List Nat) : skip (ls g ++ T) = skip T := by
  rcases h with rfl | rfl | rfl
  · rw [ls_e]; rfl
  · rw [l_sp]; rfl
  · rw [l_sp2]; rfl
theorem gap_nots {g : Str} (h : Fm.Gap g) (T : List Nat) : nots (ls g ++ T) = nots T := by rw [← nots_skip, gap_skip h, nots_skip]
theorem gap_nd {g : Str} (h : Fm.Gap g) {T : List Nat} (n : Nd T) : Nd (ls g ++ T) := by
  rcases h with rfl | rfl | rfl
  · rw [ls_e]; exact n
  · rw [l_sp]; exact nd_cons (by decide)
  · rw [l_sp2]; exact nd_cons (by decide)
theorem n8 {x : Str} (h : x ∈ N8) : ls x ∈ [[120], [121], [122], [118, 48], [118, 49], [115], [116, 49], [97]] := by
  have e : N8.map ls = [[120], [121], [122], [118, 48], [118, 49], [115], [116, 49], [97]] := by decide +kernel
  rw [← e]
  exact List.mem_map.mpr ⟨x, h, rfl⟩
theorem r4 {x : Str} (h : x ∈ R4) : ls x ∈ [[69], [70], [80], [81]] := by
  have e : R4.map ls = [[69], [70], [80], [81]] := by decide +kernel
  rw [← e]
  exact List.mem_map.mpr ⟨x, h, rfl⟩
theorem n8_name {x : Str} (h : x ∈ N8) {T : List Nat} (n : Nd T) : IsName (ls x) T ∧ skip (ls x ++ T) = ls x ++ T := by
  have := n8 h
  simp only [List.mem_cons, List.not_mem_nil, or_false] at this
  rcases this with e | e | e | e | e | e | e | e <;> rw [e] <;> refine ⟨?_, rfl⟩
  · exact .inl ⟨_, rfl, by decide, by decide, n⟩
  · exact .inl ⟨_, rfl, by decide, by decide, n⟩
  · exact .inl ⟨_, rfl, by decide, by decide, n⟩
  · exact .inr ⟨_, _, rfl, by decide, by decide, by decide, by decide⟩
  · exact .inr ⟨_, _, rfl, by decide, by decide, by decide, by decide⟩
  · exact .inl ⟨_, rfl, by decide, by decide, n⟩
  · exact .inr ⟨_, _, rfl, by decide, by decide, by decide, by decide⟩
  · exact .inl ⟨_, rfl, by decide, by decide, n⟩
def NB (L : List Nat) : Prop := ¬ (skip L).take 2 = [115, 111] ∧ ¬ (skip L).take 2 = [97, 108]
/-- a name and a sign that stands behind names: no word begins so -/
theorem n8_heads {x : Str} (h : x ∈ N8) {T : List Nat} (e : ∀ d, T.head? = some d → d = 32 ∨ d = 61) :
    ((ls x ++ T).take 2 ≠ [115, 111] ∧ (ls x ++ T).take 2 ≠ [97, 108]) ∧ (ls x ++ T).take 2 ≠ [116, 114] ∧ (ls x ++ T).take 2 ≠ [102, 97] ∧ (ls x ++ T).head? ≠ some 40 ∧ nots (ls x ++ T) = (0, ls x ++ T) := by
  have := n8 h
  simp only [List.mem_cons, List.not_mem_nil, or_false] at this
  cases T with
  | nil => rcases this with z | z | z | z | z | z | z | z <;> rw [z] <;> decide
  | cons d T =>
    rcases e d rfl with rfl | rfl <;> rcases this with z | z | z | z | z | z | z | z <;> rw [z] <;> refine ⟨⟨?_, ?_⟩, ?_, ?_, ?_, rfl⟩ <;> simp
theorem r4_head {x : Str} (h : x ∈ R4) : ∃ c, x = S [c] ∧ 65 ≤ c ∧ c ≤ 90 := by
  have := r4 h
  simp only [List.mem_cons, List.not_mem_nil, or_false] at this
  rcases this with e | e | e | e
  · exact ⟨69, by rw [← e]; rfl, by decide, by decide⟩
  · exact ⟨70, by rw [← e]; rfl, by decide, by decide⟩
  · exact ⟨80, by rw [← e]; rfl, by decide, by decide⟩
  · exact ⟨81, by rw [← e]; rfl, by decide, by decide⟩
end K2

set_option Elab.async false
set_option linter.all false
set_option maxRecDepth 100000
set_option maxHeartbeats 4000000
namespace K2
open PySem L2 Fo
theorem nots_stop {c : Nat} {L : List Nat} (h1 : c ≠ 32) (h2 : c ≠ 126) : nots (c :: L) = (0, c :: L) := by
  show (if c = 32 then _ else if c = 126 then _ else _) = _
  rw [if_neg h1, if_neg h2]
theorem negs_neg : ∀ (n : Nat) (f : Fm), negs n (.neg f) = negs (n + 1) f
  | 0, f => rfl
  | n + 1, f => by rw [negs, negs_neg n f]; rfl
theorem lw_t : ls (Fm.word true) = [116, 114, 117, 101] := by decide +kernel
theorem lw_f : ls (Fm.word false) = [102, 97, 108, 115, 101] := by decide +kernel
theorem lq_t : ls (qn true) = [115, 111, 109, 101] := by decide +kernel
theorem lq_f : ls (qn false) = [97, 108, 108] := by decide +kernel
def NBf (f : Fm) : Prop := ∀ (p : Str) (T : List Nat), Fm.Lo f p → WF f → Fm.wide (Fm.bare f) = false → NB (ls p ++ T)
def D0f (f : Fm) : Prop := ∀ (p : Str) (T : List Nat) (n : Nat) (stk : List Lv) (F : Fm) (L0 : List Nat), Fm.Lo f p → WF f → Fm.wide (Fm.bare f) = false → Nd T → nots L0 = (n + (nots (ls p ++ T)).1, (nots (ls p ++ T)).2) → stk ≠ [] → Aft T (push (negs n (Fm.plain f)) stk) F → Ro L0 stk F
def Df (f : Fm) : Prop := ∀ (p : Str) (T : List Nat) (n : Nat) (stk : List Lv) (F : Fm) (L0 : List Nat), Fm.LoP f p → WF f → Nd T → nots L0 = (n + (nots (ls p ++ T)).1, (nots (ls p ++ T)).2) → stk ≠ [] → Aft T (push (negs n (Fm.plain f)) stk) F → Ro L0 stk F
def Cf (f : Fm) : Prop := ∀ (s : Str) (T : List Nat) (k : Nat) (stk : List Lv) (F : Fm) (pre : List (Bool × Str)), Fm.Lo f s → WF f → Nd T →
  (∀ bs jt rows, rows ≠ [] → wrap bs (baseF jt rows) = Fm.plain f → Aft T (⟨k, pre ++ bs, jt, rows⟩ :: stk) F) → ∃ bs L', BindR (ls s ++ T) bs L' ∧ Ro L' (⟨k, pre ++ bs, none, []⟩ :: stk) F
theorem nb_word (b : Bool) (T : List Nat) : NB (ls (Fm.word b) ++ T) := by
  cases b
  · rw [lw_f]; exact ⟨by show ¬ [102, 97] = _; decide, by show ¬ [102, 97] = _; decide⟩
  · rw [lw_t]; exact ⟨by show ¬ [116, 114] = _; decide, by show ¬ [116, 114] = _; decide⟩
theorem nb_head {c : Nat} {L : List Nat} (h0 : c ≠ 32) (h1 : c ≠ 115) (h2 : c ≠ 97) : NB (c :: L) := by
  unfold NB
  rw [skip_cons h0]
  cases L with
  | nil => exact ⟨by simp, by simp⟩
  | cons d L => exact ⟨by simp [h1], by simp [h2]⟩
theorem wf_one {b : Bool} {f : Fm} (h : WF (.con b [f])) : WF f := by
  rw [WF, WFs] at h
  exact h.1
theorem gap_head {g : Str} (h : Fm.Gap g) (L : List Nat) : ∀ d, (ls g ++ (61 :: L)).head? = some d → d = 32 ∨ d = 61 := by
  intro d e
  rcases h with rfl | rfl | rfl
  · rw [ls_e] at e; right; simpa using e.symm
  · rw [l_sp] at e; left; simpa using e.symm
  · rw [l_sp2] at e; left; simpa using e.symm
theorem nb_step (f : Fm) (ih : ∀ k ∈ f.kids, NBf k) : NBf f := by
  intro p T hl hw hb
  cases f with
  | rel n xs =>
    rw [Fm.Lo] at hl
    obtain ⟨g1, g2, g3, g4, g5, G1, G2, G3, G4, G5, rfl⟩ := hl
    obtain ⟨c, rfl, c1, c2⟩ := r4_head hw.1
    rw [ls_app, ls_S, List.append_assoc]
    exact nb_head (by omega) (by omega) (by omega)
  | same x y =>
    rw [Fm.Lo] at hl
    obtain ⟨g1, g2, G1, G2, rfl⟩ := hl
    simp only [ls_app, List.append_assoc, l_eq]
    have h := n8_heads (T := ls g1 ++ (61 :: (ls g2 ++ (ls y ++ T)))) hw.1 (gap_head G1 _)
    have hs := (n8_name hw.1 (T := ls g1 ++ (61 :: (ls g2 ++ (ls y ++ T)))) (gap_nd G1 (nd_cons (by decide)))).2
    unfold NB
    show ¬ (skip (ls x ++ (ls g1 ++ (61 :: (ls g2 ++ (ls y ++ T)))))).take 2 = _ ∧ ¬ (skip (ls x ++ (ls g1 ++ (61 :: (ls g2 ++ (ls y ++ T)))))).take 2 = _
    rw [hs]
    exact h.1
  | neg g =>
    rw [Fm.Lo] at hl
    obtain ⟨gp, p', G, _, rfl⟩ := hl
    rw [ls_app, l_neg]
    exact nb_head (by decide) (by decide) (by decide)
  | con b fs =>
    cases fs with
    | nil =>
      rw [Fm.Lo, Fm.LoL] at hl
      rw [hl]
      exact nb_word b T
    | cons g fs =>
      cases fs with
      | nil =>
        rw [Fm.Lo, Fm.LoL] at hl
        exact ih g (by simp [Fm.kids]) p T hl (wf_one hw) hb
      | cons h fs => exact nomatch (show true = false from hb)
  | qu b x g => exact nomatch (show true = false from hb)
theorem d0_step (f : Fm) (ih0 : ∀ k ∈ f.kids, D0f k) (ihD : ∀ k ∈ f.kids, Df k) : D0f f := by
  intro p T n stk F L0 hl hw hb hT hn hs ha
  cases f with
  | rel nm xs =>
    rw [Fm.Lo] at hl
    obtain ⟨g1, g2, g3, g4, g5, G1, G2, G3, G4, G5, rfl⟩ := hl
    obtain ⟨hR, hx0, hx2, hx8⟩ := hw
    obtain ⟨c, rfl, c1, c2⟩ := r4_head hR
    simp only [ls_app, ls_S, List.append_assoc, l_par, l_par2] at hn
    have e0 : nots ([c] ++ (ls g1 ++ ([40] ++ (ls g2 ++ (ls (jn (g4 ++ (Str.ofString "," ++ g5)) xs) ++ (ls g3 ++ ([41] ++ T))))))) = (0, c :: (ls g1 ++ (40 :: (ls g2 ++ (ls (jn (g4 ++ (Str.ofString "," ++ g5)) xs) ++ (ls g3 ++ (41 :: T))))))) := nots_stop (by omega) (by omega)
    rw [e0] at hn
    refine .pln hn (by simp; omega) (.rel (skip_cons (by omega)) c1 c2 ?_) ha
    have nd3 : Nd (ls g3 ++ (41 :: T)) := gap_nd G3 (nd_cons (by decide))
    match xs, hx0, hx2, hx8 with
    | [], hx0, _, _ => exact absurd rfl hx0
    | [x], _, _, hx8 =>
      obtain ⟨a1, a2⟩ := n8_name (hx8 x List.mem_cons_self) nd3
      rw [jn]
      exact .one (n1 := ls x) (L2 := ls g3 ++ (41 :: T)) (by rw [gap_skip G1]; rfl) (by rw [gap_skip G2]; exact a2) a1 (by rw [gap_skip G3]; rfl)
    | [x, y], _, _, hx8 =>
      obtain ⟨b1, b2⟩ := n8_name (hx8 y (by simp)) nd3
      have nd5 : Nd (ls g4 ++ (44 :: (ls g5 ++ (ls y ++ (ls g3 ++ (41 :: T)))))) := gap_nd G4 (nd_cons (by decide))
      obtain ⟨a1, a2⟩ := n8_name (hx8 x List.mem_cons_self) nd5
      rw [jn, jn]
      simp only [ls_app, List.append_assoc, l_com]
      exact .two (n1 := ls x) (L2 := ls g4 ++ (44 :: (ls g5 ++ (ls y ++ (ls g3 ++ (41 :: T)))))) (n2 := ls y) (L4 := ls g3 ++ (41 :: T)) (by rw [gap_skip G1]; rfl) (by rw [gap_skip G2]; exact a2) a1 (by rw [gap_skip G4]; rfl) (by rw [gap_skip G5]; exact b2) b1 (by rw [gap_skip G3]; rfl)
    | _ :: _ :: _ :: _, _, h, _ => simp at h
  | same x y =>
    rw [Fm.Lo] at hl
    obtain ⟨g1, g2, G1, G2, rfl⟩ := hl
    simp only [ls_app, List.append_assoc, l_eq] at hn
    obtain ⟨z1, z2, z3, z4, z5⟩ := n8_heads (T := ls g1 ++ (61 :: (ls g2 ++ (ls y ++ T)))) hw.1 (gap_head G1 _)
    obtain ⟨a1, a2⟩ := n8_name hw.1 (T := ls g1 ++ (61 :: (ls g2 ++ (ls y ++ T)))) (gap_nd G1 (nd_cons (by decide)))
    obtain ⟨b1, b2⟩ := n8_name hw.2 hT
    have e0 : nots (ls x ++ (ls g1 ++ ([61] ++ (ls g2 ++ (ls y ++ T))))) = (0, ls x ++ (ls g1 ++ (61 :: (ls g2 ++ (ls y ++ T))))) := z5
    rw [e0] at hn
    refine .pln hn z4 (.same (n1 := ls x) (n2 := ls y) a2 a1 (by rw [a2]; exact z2) (by rw [a2]; exact z3) (by rw [gap_skip G1]; rfl) (by rw [gap_skip G2]; exact b2) b1) ha
  | neg g =>
    rw [Fm.Lo] at hl
    obtain ⟨gp, p', G, hp, rfl⟩ := hl
    simp only [ls_app, List.append_assoc, l_neg] at hn
    have e0 : nots ([126] ++ (ls gp ++ (ls p' ++ T))) = ((nots (ls p' ++ T)).1 + 1, (nots (ls p' ++ T)).2) := by
      show nots (126 :: (ls gp ++ (ls p' ++ T))) = _
      rw [nots_neg, gap_nots G]
    rw [e0] at hn
    refine ihD g (by simp [Fm.kids]) p' T (n + 1) stk F L0 hp hw hT (by rw [hn]; congr 1; omega) hs ?_
    rw [Fm.plain, negs_neg] at ha
    exact ha
  | con b fs =>
    cases fs with
    | nil =>
      rw [Fm.Lo, Fm.LoL] at hl
      subst hl
      have e0 : nots (ls (Fm.word b) ++ T) = (0, ls (Fm.word b) ++ T) := by
        cases b
        · rw [lw_f]; rfl
        · rw [lw_t]; rfl
      rw [e0] at hn
      refine .pln hn ?_ (.word b ?_) ha
      · cases b
        · rw [lw_f]; simp
        · rw [lw_t]; simp
      · cases b
        · rw [lw_f]; rfl
        · rw [lw_t]; rfl
    | cons g fs =>
      cases fs with
      | nil =>
        rw [Fm.Lo, Fm.LoL] at hl
        exact ih0 g (by simp [Fm.kids]) p T n stk F L0 hl (wf_one hw) hb hT hn hs ha
      | cons h fs => exact nomatch (show true = false from hb)
  | qu b x g => exact nomatch (show true = false from hb)
theorem d_step (f : Fm) (h0 : D0f f) (hC : Cf f) : Df f := by
  intro p T n stk F L0 hl hw hT hn hs ha
  rcases hl with ⟨hb, hl⟩ | ⟨g1, g2, t, G1, G2, hl, rfl⟩
  · exact h0 p T n stk F L0 hl hw hb hT hn hs ha
  simp only [ls_app, List.append_assoc, l_par, l_par2] at hn
  have e0 : nots ([40] ++ (ls g1 ++ (ls t ++ (ls g2 ++ ([41] ++ T))))) = (0, 40 :: (ls g1 ++ (ls t ++ (ls g2 ++ (41 :: T))))) := rfl
  rw [e0] at hn
  cases stk with
  | nil => exact absurd rfl hs
  | cons v2 r =>
    obtain ⟨bs, L', hB, hR⟩ := hC t (ls g2 ++ (41 :: T)) n (v2 :: r) F [] hl hw (gap_nd G2 (nd_cons (by decide))) (fun bs jt rows hr e => .close (L1 := T) (by rw [gap_skip G2]; rfl) hr (by
      show Aft T (push (negs n (wrap ([] ++ bs) (baseF jt rows))) (v2 :: r)) F
      rw [List.nil_append, e]
      exact ha))
    exact .opn hn (hB.as (gap_skip G1 _)) hR
theorem rows_step (b : Bool) (k : Nat) (pre : List (Bool × Str)) (stk : List Lv) (F : Fm) (T : List Nat) (g1 g2 : Str) (G1 : Fm.Gap g1) (G2 : Fm.Gap g2) (hT : Nd T) : ∀ (fs : List Fm) (ps : List Str) (acc : List Fm) (jt : Option Bool), (∀ f ∈ fs, Df f) → Fm.LoPs fs ps → WFs fs → acc ≠ [] →
    (jt = some b ∨ jt = none ∧ fs ≠ []) → Aft T (⟨k, pre, some b, acc ++ Fm.plains fs⟩ :: stk) F → Aft (ls (cat (ps.map fun p => (g1 ++ (Fm.sg0 b ++ g2)) ++ p)) ++ T) (⟨k, pre, jt, acc⟩ :: stk) F
  | [], ps, acc, jt, _, hl, _, _, hj, ha => by
    rw [Fm.LoPs] at hl
    subst hl
    rw [Fm.plains, List.append_nil] at ha
    rcases hj with rfl | ⟨_, h⟩
    · rw [List.map_nil, cat, ls_e]; exact ha
    · exact absurd rfl h
  | f :: fs, ps, acc, jt, hD, hl, hw, hacc, hj, ha => by
    rw [Fm.LoPs] at hl
    obtain ⟨p, r, rfl, hp, hr⟩ := hl
    rw [WFs] at hw
    rw [List.map_cons, cat]
    simp only [ls_app, List.append_assoc, l_sg]
    refine .joint (L1 := ls g2 ++ (ls p ++ (ls (cat (r.map fun p => (g1 ++ (Fm.sg0 b ++ g2)) ++ p)) ++ T))) b (by rw [gap_skip G1]; exact skip_cons (by cases b <;> decide)) (hj.symm.imp (·.1) id) ?_
    have nT : Nd (ls (cat (r.map fun p => (g1 ++ (Fm.sg0 b ++ g2)) ++ p)) ++ T) := by
      cases r with
      | nil => rw [List.map_nil, cat, ls_e]; exact hT
      | cons q r =>
        rw [List.map_cons, cat]
        simp only [ls_app, List.append_assoc, l_sg]
        exact gap_nd G1 (nd_cons (by cases b <;> decide))
    refine hD f List.mem_cons_self p _ 0 _ F _ hp hw.1 nT (by rw [gap_nots G2, Nat.zero_add]) (by simp) ?_
    have ih := rows_step b k pre stk F T g1 g2 G1 G2 hT fs r (acc ++ [Fm.plain f]) (some b) (fun g hg => hD g (List.mem_cons_of_mem _ hg)) hr hw.2 (by simp) (.inl rfl) (by rw [List.append_assoc]; exact ha)
    simp only [ls_app, List.append_assoc, l_sg] at ih ⊢
    exact ih
theorem ro_at {L : List Nat} {stk : List Lv} {F : Fm} (h : Ro L stk F) : Ro (skip L) stk F := h.as (nots_skip L)
theorem c_step (f : Fm) (hN : NBf f) (h0 : D0f f) (ihN : ∀ k ∈ f.kids, NBf k) (ihC : ∀ k ∈ f.kids, Cf k) (ihD : ∀ k ∈ f.kids, Df k) : Cf f := by
  intro s T k stk F pre hl hw hT ha
  have base : Fm.wide (Fm.bare f) = false → ∃ bs L', BindR (ls s ++ T) bs L' ∧ Ro L' (⟨k, pre ++ bs, none, []⟩ :: stk) F := fun hb => by
    obtain ⟨n1, n2⟩ := hN s T hl hw hb
    refine ⟨[], _, .stop n1 n2, ro_at ?_⟩
    refine h0 s T 0 _ F _ hl hw hb hT (by rw [Nat.zero_add]) (by simp) ?_
    exact ha [] none [Fm.plain f] (by simp) rfl
  cases f with
  | rel nm xs => exact base rfl
  | same x y => exact base rfl
  | neg g => exact base rfl
  | qu b x g =>
    rw [Fm.Lo] at hl
    obtain ⟨g1, g2, g3, t, G1, G2, G3, hl, rfl⟩ := hl
    obtain ⟨hx, hg⟩ := hw
    obtain ⟨bs, L', hB, hR⟩ := ihC g (by simp [Fm.kids]) t T k stk F (pre ++ [(b, x)]) hl hg hT (fun bs jt rows hr e => by
      rw [List.append_assoc]
      exact ha ((b, x) :: bs) jt rows hr (by rw [wrap, e, Fm.plain]))
    rw [List.append_assoc] at hR
    refine ⟨(b, x) :: bs, L', ?_, hR⟩
    simp only [ls_app, List.append_assoc, l_sp, l_col]
    obtain ⟨a1, a2⟩ := n8_name hx (T := ls g2 ++ (58 :: (ls g3 ++ (ls t ++ T)))) (gap_nd G2 (nd_cons (by decide)))
    refine .go (b := b) (L1 := ls g1 ++ (ls x ++ (ls g2 ++ (58 :: (ls g3 ++ (ls t ++ T)))))) (nm := ls x) (L2 := ls g2 ++ (58 :: (ls g3 ++ (ls t ++ T)))) (L3 := ls g3 ++ (ls t ++ T)) ?_ ?_ a1 ?_ (hB.as (gap_skip G3 _))
    · cases b
      · rw [lq_f]; rfl
      · rw [lq_t]; rfl
    · rw [gap_skip G1]; exact a2
    · rw [gap_skip G2]; rfl
  | con b fs =>
    cases fs with
    | nil => exact base rfl
    | cons g fs =>
      cases fs with
      | nil =>
        rw [Fm.Lo, Fm.LoL] at hl
        exact ihC g (by simp [Fm.kids]) s T k stk F pre hl (wf_one hw) hT ha
      | cons h fs =>
        rw [Fm.Lo, Fm.LoL] at hl
        obtain ⟨g1, g2, p, ps, G1, G2, hp, hps, rfl⟩ := hl
        rw [WF, WFs] at hw
        have nbp : NB (ls p ++ (ls (cat (ps.map fun p => (g1 ++ (Fm.sg0 b ++ g2)) ++ p)) ++ T)) := by
          rcases hp with ⟨hb, hl⟩ | ⟨h1, h2, t, _, _, _, rfl⟩
          · exact ihN g (by simp [Fm.kids]) p _ hl hw.1 hb
          · simp only [ls_app, List.append_assoc, l_par]
            exact nb_head (by decide) (by decide) (by decide)
        rw [jn_cat, ls_app, List.append_assoc]
        refine ⟨[], _, .stop nbp.1 nbp.2, ro_at ?_⟩
        have hps' := hps
        rw [Fm.LoPs] at hps'
        obtain ⟨p2, r2, rfl, _, _⟩ := hps'
        have nT : Nd (ls (cat ((p2 :: r2).map fun p => (g1 ++ (Fm.sg0 b ++ g2)) ++ p)) ++ T) := by
          rw [List.map_cons, cat]
          simp only [ls_app, List.append_assoc, l_sg]
          exact gap_nd G1 (nd_cons (by cases b <;> decide))
        refine ihD g (by simp [Fm.kids]) p _ 0 _ F _ hp hw.1 nT (by rw [Nat.zero_add]) (by simp) ?_
        refine rows_step b k (pre ++ []) stk F T g1 g2 G1 G2 hT (h :: fs) (p2 :: r2) [Fm.plain g] none (fun f hf => ihD f (by simp [Fm.kids] at hf ⊢; exact .inr hf)) hps hw.2 (by simp) (.inr ⟨rfl, by simp⟩) ?_
        exact ha [] (some b) _ (by simp) (by rw [Fm.plain, Fm.plainL]; rfl)
theorem all_f : ∀ (n : Nat) (f : Fm), f.ct ≤ n → NBf f ∧ D0f f ∧ Cf f ∧ Df f
  | 0, f, h => by have := Fm.ct_pos f; omega
  | n + 1, f, h => by
    have ih : ∀ k ∈ f.kids, NBf k ∧ D0f k ∧ Cf k ∧ Df k := fun k hk => all_f n k (by have := Fm.ct_kids f; have := Fm.cts_mem hk; omega)
    have hN := nb_step f (fun k hk => (ih k hk).1)
    have h0 := d0_step f (fun k hk => (ih k hk).2.1) (fun k hk => (ih k hk).2.2.2)
    have hC := c_step f hN h0 (fun k hk => (ih k hk).1) (fun k hk => (ih k hk).2.2.1) (fun k hk => (ih k hk).2.2.2)
    exact ⟨hN, h0, hC, d_step f h0 hC⟩
/-- a text with gaps round it is read as the plain formula -/
theorem read_f {f : Fm} {s g h : Str} (hl : Fm.Lo f s) (hw : WF f) (G : Fm.Gap g) (J : Fm.Gap h) : ∃ bs L', BindR (ls (g ++ (s ++ h))) bs L' ∧ Ro L' [⟨0, bs, none, []⟩] (Fm.plain f) := by
  have nh : Nd (ls h) := by have := gap_nd J nd_nil; rwa [List.append_nil] at this
  have sh : skip (ls h) = [] := by have := gap_skip J []; rw [List.append_nil] at this; exact this
  obtain ⟨bs, L', hB, hR⟩ := (all_f _ f (Nat.le_refl _)).2.2.1 s (ls h) 0 [] (Fm.plain f) [] hl hw nh (fun bs jt rows hr e => by
    have := Aft.fin (L := ls h) (v := ⟨0, [] ++ bs, jt, rows⟩) sh hr
    rw [show (Lv.mk 0 ([] ++ bs) jt rows).whole = Fm.plain f from e] at this
    exact this)
  refine ⟨bs, L', ?_, hR⟩
  rw [ls_app, ls_app]
  exact hB.as (gap_skip G _)
end K2

set_option Elab.async false
set_option linter.all false
set_option maxRecDepth 100000
set_option maxHeartbeats 4000000
namespace K2
open PySem PySem.Spec PyProof.Rows
/-! ### a dict of the module, walked over by its keys -/
structure KKeys (K : PySem.W.Frag) (d : Addr) (es : Array DictEntry) (n : Nat) (zs : List Str) : Prop where
  at_ : K.lookup d = some ⟨.type "dict", none, .dict es n, #[]⟩
  low : (d == sysModules) = false
  size : es.size = zs.length
  keys : ∀ (i : Nat) (z : Str), zs[i]? = some z → ∃ (en : DictEntry) (t : Tok), es[i]? = some en ∧ en.key = Value.str z t
open L2
def Itc (zs : List Str) : It := ⟨fun i _ => i < zs.length, fun i H x H' => H' = H ∧ ∃ z, zs[i]? = some z ∧ x = .str z, fun i _ => zs.length ≤ i⟩
theorem turn_kk {P : Program} {w : World} {K : PySem.W.Frag} {tg : Expr} {d : Addr} {es : Array DictEntry} {n : Nat} {zs : List Str} (it : Addr) (D : KKeys K d es n zs) : Turn P w K tg (Itc zs) [it] it (fun i h => h.IsKeyIter it d i zs.length n) where
  mem := by simp
  obj := fun i h st b hb => by
    have e : b = it := by simpa using hb
    subst e
    obtain ⟨oi, e, c, dd⟩ := st
    exact ⟨oi, e, fun v z => by rw [dd] at z; cases z⟩
  keep := fun i h h' st k => st.at fun oi e => k it (by simp) oi e
  item := by
    intro X hP hw hK hc i pins s σ H E I hf st hg
    subst hP hw hK
    have hi : i < zs.length := hg
    obtain ⟨f0, f1, f2, f3, f4, f5⟩ := hf it (by simp)
    have hgd := I.kIn _ _ D.at_
    obtain ⟨en, t, hen, hkey⟩ := D.keys i zs[i] (List.getElem?_eq_getElem hi)
    refine next_key_item st hgd rfl D.size hen fun h' st' sb => ?_
    have I1 : Inv X pins σ H { s with heap := h' } := I.turned (t' := s.toks) (fun b ob hb e => (sb.2 b hb).trans e) f0 f1 f3 f4 f5
    obtain ⟨oi, e, c, dd⟩ := id st'
    exact ⟨en.key, rfl, go_of (s := { s with heap := h' }) e c dd (by decide) ⟨.str zs[i], H, I1, ⟨t, hkey⟩, ⟨rfl, zs[i], List.getElem?_eq_getElem hi, rfl⟩, st', fun b hb => (hf b hb).1⟩⟩
  done := by
    intro X hP hw hK hc i pins s σ H E I hf st hg
    subst hP hw hK
    have hi : zs.length ≤ i := hg
    obtain ⟨f0, f1, f2, f3, f4, f5⟩ := hf it (by simp)
    have hgd := I.kIn _ _ D.at_
    exact next_key_end (I.ok.hd hc) st hgd rfl D.size hi fun h' eb => ⟨rfl, I.turned (t' := s.toks) (fun b ob hb e => eb b ob hb e) f0 f1 f3 f4 f5⟩
  self := fun A i s Q E st h => wpAny_pyIter_keyiter st h
def iKk (d : Addr) (zs : List Str) (td : TE) : TI := fun σ H R => td σ H fun x H1 => x = .ref d ∧ R (Itc zs) H1
theorem pi_kk {X : Cx} {K : PySem.W.Frag} (hK : X.K = K) {tg e : Expr} {td : TE} {d : Addr} {es : Array DictEntry} {n : Nat} {zs : List Str} (D : KKeys K d es n zs) (he : PE X e td) : PI X tg e (iKk d zs td) := by
  subst hK
  refine ⟨fun pins s σ H R I h => ?_⟩
  refine thn (he.run pins s σ H _ I h) fun u s1 ⟨x, H1, I1, rx, ex, q⟩ => ?_
  subst ex
  obtain rfl : u = Value.ref d := rx
  refine iter_keys D.low (I1.kIn _ _ D.at_) ⟨rfl, rfl, rfl⟩ rfl (pi_one (tk := s1.toks) I1 _ (turn_kk _ D) ⟨_, Heap.get?_push_size _ rfl, rfl, ?_⟩ q)
  rw [D.size] <;> rfl
theorem for_kk {zs : List Str} {g : TG} {tb : TS} {D : Ends} {σ : L2.St} {H : Hp} (Pv : Nat → L2.St → Hp → Prop) (h0 : Pv 0 σ H)
    (hs : ∀ (i : Nat) (c : Str) (σ : L2.St) (H : Hp), zs[i]? = some c → Pv i σ H → g (.str c) σ H fun σ2 H2 => tb { nx := Pv (i + 1), rt := D.rt, bk := D.nx, ct := Pv (i + 1) } σ2 H2) (hd : ∀ (σ : L2.St) (H : Hp), Pv zs.length σ H → D.nx σ H) :
    ∃ W : Nat → Nat → L2.St → Hp → Prop, (∃ m, W 0 m σ H) ∧ ∀ (i m : Nat) (σ : L2.St) (H : Hp), W i m σ H → (Itc zs).stop i H ∧ D.nx σ H ∨ (Itc zs).go i H ∧ ∃ N : L2.St → Hp → Prop, (∀ (σ' : L2.St) (H' : Hp), N σ' H' → ∃ m', m' < m ∧ W (i + 1) m' σ' H') ∧
      ∀ (x : V) (H' : Hp), (Itc zs).yld i H x H' → g x σ H' fun σ2 H2 => tb { nx := N, rt := D.rt, bk := D.nx, ct := N } σ2 H2 := by
  refine ⟨fun i m σ H => m = zs.length - i ∧ i ≤ zs.length ∧ Pv i σ H, ⟨_, rfl, Nat.zero_le _, h0⟩, ?_⟩
  rintro i m σ H ⟨rfl, hi, p⟩
  rcases Nat.lt_or_ge i zs.length with lt | ge
  · refine .inr ⟨lt, Pv (i + 1), fun σ' H' p' => ⟨_, by omega, rfl, lt, p'⟩, fun x H' y => ?_⟩
    obtain ⟨rfl, c, hc, rfl⟩ := y
    exact hs i c σ _ hc p
  · obtain rfl : i = zs.length := by omega
    exact .inl ⟨Nat.le_refl _, hd σ H p⟩
open Fo
open C8 (Cal pe_c pss_cut Met pe_mt pe_mt0)
theorem tk_but {K : PySem.W.Frag} {r : Addr} {H H' : Hp} {C dx : Addr} {fs : List (Str × V)} (x : But r H H') (y : H r = some (.ins C dx fs)) : Tk K H H' := fun a xs h => by
  rcases h with (h | ⟨o, h⟩) | h
  · exact .inl (.inl (x a _ (fun z => by rw [z, y] at h; cases h) h))
  · exact .inl (.inr ⟨o, x a _ (fun z => by rw [z, y] at h; cases h) h⟩)
  · exact .inr h
theorem rd_tk {K : PySem.W.Frag} {r C : Addr} {H H' : Hp} {L : List Nat} (x : But r H H') (y : RdAt C H r L) : Tk K H H' := by
  obtain ⟨dx, t, p, h, _⟩ := y
  exact tk_but x h
theorem rd_ne {r C a : Addr} {H : Hp} {L : List Nat} {xs : List V} (y : RdAt C H r L) (h : H a = some (.lst xs)) : a ≠ r := by
  obtain ⟨dx, t, p, e, _⟩ := y
  intro z
  rw [z, e] at h
  cases h
/-- the class Reader, its methods proved -/
structure Rdr (P : Program) (w : World) (K : PySem.W.Frag) (mg : Str → Option Value) (base : Heap) (C : Addr) : Prop where
  T : RdT K C
  next : Met P w K mg base 2 C "next_sign" (spNext C) []
  word : Met P w K mg base 2 C "take_word" (spWord C) []
  sign : Met P w K mg base 3 C "take_sign" (spSign C) []
  name : Met P w K mg base 3 C "take_name" (spTName C) []
  begins : Met P w K mg base 1 C "begins" (spBegins C) []
section
variable {P : Program} {w : World} {K : PySem.W.Frag} {mg : Str → Option Value} {base : Heap}
/-- what a method's reading asks first -/
theorem rd_ins {C r : Addr} {H : Hp} {L : List Nat} (h : RdAt C H r L) : ∃ dx fs, H r = some (.ins C dx fs) ∧ ∀ m, ¬ m = ("place" : Str) → ¬ m = ("text" : Str) → fs.lookup m = none := by
  obtain ⟨dx, t, p, e, _⟩ := h
  exact ⟨dx, _, e, fun m => rf_no _ _⟩
/-! ### read_nots -/
def spNots (C : Addr) : Sp := fun vs H Q _ => ∃ (r : Addr) (L : List Nat), vs = [.ref r] ∧ RdAt C H r L ∧ ∀ H', But r H H' → RdAt C H' r (nots L).2 → Q (.int ((nots L).1 : Int)) H'
abbrev nNots : List Str := ["reader", "many"]
theorem scNots : FnScope nNots ["reader"] (defScope sNots) := ⟨rfl, rfl, rfl, by decide +kernel, rfl, by decide +kernel, by decide +kernel⟩
theorem til_S : Str.ofString "~" = S [126] := by decide +kernel
theorem ok_nots {f C : Addr} {fd : FuncData} (R : Rdr P w K mg base C) (F : Fun K "read_nots" "read_nots" sNots f fd) : FnOk P w K mg base CX0 4 f fd ["reader"] (spNots C) := by
  refine F.ok scNots (fun vs H Q E h => ?_) (fun cdv A outer s H vs Q E hr h => ?_)
  · obtain ⟨r, L, rfl, _⟩ := h
    rfl
  obtain ⟨r, L, rfl, hR, q⟩ := h
  have nd := scNots.nd
  refine ⟨_, (pss_cons (ps_set (i := 1) nd rfl (.inl rfl) pe_int)
    (pss_cons (ps_while PassesOwn.never (pt_cmpR op_eq (pe_mt0 R.next hr (by decide) (pv 0)) pe_str (nomark _)) (pss_cons (ps_expr (pe_mt R.sign hr (by decide) (pv 0) (pa_cons pe_str pa_nil)))
    (pss_one (ps_aug (i := 1) nd rfl (.inl rfl) pe_int ip_add))))
    (pss_one (ps_ret (pv 1))))), ?_⟩
  refine ⟨fun m σ H' => ∃ (M : List Nat) (k : Nat), σ = [some (.ref r), some (.int (k : Int))] ∧ But r H H' ∧ RdAt C H' r M ∧ (nots L).1 = k + (nots M).1 ∧ (nots L).2 = (nots M).2 ∧ m = M.length, ⟨_, L, 0, rfl, But.refl _ _, hR, by omega, rfl, rfl⟩, ?_⟩
  rintro m σ H1 ⟨M, k, rfl, b1, hM, e1, e2, rfl⟩
  obtain ⟨dx, fs, h1, hn⟩ := rd_ins hM
  refine ⟨_, rfl, r, dx, fs, rfl, h1, hn _ (by decide +kernel) (by decide +kernel), r, M, rfl, hM, fun H2 b2 hM2 => ?_⟩
  refine ⟨rfl, _, rfl, ite2 (fun c => ⟨_, fun σ' H' h => h, ?_⟩) (fun c => ?_)⟩
  · rw [til_S, S_iff] at c
    have c' : (skip M).take 1 = [126] := of_decide_eq_true c
    obtain ⟨M', eM⟩ : ∃ M', skip M = 126 :: M' := by
      cases hs : skip M with
      | nil => rw [hs] at c'; cases c'
      | cons x M' => rw [hs] at c'; exact ⟨M', by have : x = 126 := by simpa using c'
                                                  rw [this]⟩
    obtain ⟨dx2, fs2, h2, hn2⟩ := rd_ins hM2
    refine ⟨_, rfl, r, dx2, fs2, rfl, h2, hn2 _ (by decide +kernel) (by decide +kernel), r, [126], skip M, M', by rw [til_S]; rfl, hM2, by rw [skip_idem, eM]; rfl, fun H3 b3 hM3 => ?_⟩
    have en : nots M = ((nots M').1 + 1, (nots M').2) := by rw [← nots_skip, eM]; rfl
    have sl := skip_len M
    rw [eM, List.length_cons] at sl
    refine ⟨_, rfl, _, _, rfl, rfl, M'.length, by omega, M', k + 1, ?_, (b1.trans b2).trans b3, hM3, ?_, ?_, rfl⟩
    · rfl
    · rw [en] at e1; simp only at e1; omega
    · rw [en] at e2; exact e2
  · rw [til_S, S_iff] at c
    have es : nots M = (0, skip M) := by
      rw [← nots_skip]
      cases hs : skip M with
      | nil => rfl
      | cons x M' =>
        refine nots_stop (fun z => ?_) (fun z => ?_)
        · subst z
          have := skip_idem M
          rw [hs] at this
          have l := skip_len M'
          rw [show skip (32 :: M') = skip M' from rfl] at this
          rw [this, List.length_cons] at l
          omega
        · subst z
          rw [hs] at c
          exact c (decide_eq_true rfl)
    rw [es] at e1 e2
    refine ⟨_, rfl, ?_⟩
    have := q H2 (b1.trans b2)
    rw [e2, e1] at this
    exact this hM2
end
end K2

set_option Elab.async false
set_option linter.all false
set_option maxRecDepth 100000
set_option maxHeartbeats 4000000
namespace K2
open PySem L2 Fo
open C8 (Cal pe_c pss_cut Met pe_mt pe_mt0)
section
variable {P : Program} {w : World} {K : PySem.W.Frag} {mg : Str → Option Value} {base : Heap}
def BdAt (K : PySem.W.Frag) (H : Hp) (u : V) (p : Bool × Str) : Prop := ∃ a, u = .ref a ∧ SqT K H a [.str (qn p.1), .str p.2]
theorem BdAt.tk {H H' : Hp} {u : V} {p : Bool × Str} (k : Tk K H H') (h : BdAt K H u p) : BdAt K H' u p := let ⟨a, e, h1⟩ := h; ⟨a, e, k _ _ h1⟩
def spBinders (K : PySem.W.Frag) (C : Addr) : Sp := fun vs H Q _ => ∃ (r : Addr) (L L' : List Nat) (bs : List (Bool × Str)), vs = [.ref r] ∧ RdAt C H r L ∧ BindR L bs L' ∧ bs.length ≤ 9000 ∧ ∀ (F : Addr) (us : List V) (H' : Hp), But r H H' → RdAt C H' r L' → H F = none → H' F = some (.lst us) → All2 (BdAt K H') us bs → Q (.ref F) H'
abbrev nBinders : List Str := ["reader", "found", "kind"]
theorem scBinders : FnScope nBinders ["reader"] (defScope sBinders) := ⟨rfl, rfl, rfl, by decide +kernel, rfl, by decide +kernel, by decide +kernel⟩
theorem so_S : Str.ofString "so" = S [115, 111] := by decide +kernel
theorem al_S : Str.ofString "al" = S [97, 108] := by decide +kernel
theorem s_S : Str.ofString "s" = S [115] := by decide +kernel
theorem a_S1 : Str.ofString "a" = S [97] := by decide +kernel
theorem some_S : Str.ofString "some" = qn true := rfl
theorem all_S : Str.ofString "all" = qn false := rfl
theorem col_S : Str.ofString ":" = S [58] := by decide +kernel
theorem but_lst {r F : Addr} {H H' : Hp} {o : HO} (x : But r H H') (n : H F = none) : But r H (upd H' F o) := fun a u ne h => by
  rw [upd_ne (ne_of_none h n)]; exact x a u ne h
theorem rd_upd {C r F : Addr} {H : Hp} {L : List Nat} {xs ys : List V} (y : RdAt C H r L) (h : H F = some (.lst xs)) : RdAt C (upd H F (.lst ys)) r L := by
  have ne := rd_ne y h
  obtain ⟨dx, t, p, e, r1⟩ := y
  exact ⟨dx, t, p, by rw [upd_ne ne.symm]; exact e, r1⟩
theorem rd_same {C r : Addr} {H H' : Hp} {L : List Nat} (y : RdAt C H r L) (s : Same H H') : RdAt C H' r L := by
  obtain ⟨dx, t, p, e, r1⟩ := y
  exact ⟨dx, t, p, s _ _ e, r1⟩
theorem ok_binders {f C : Addr} {fd : FuncData} (R : Rdr P w K mg base C) (F : Fun K "read_binders" "read_binders" sBinders f fd) : FnOk P w K mg base CX0 4 f fd ["reader"] (spBinders K C) := by
  refine F.ok scBinders (fun vs H Q E h => ?_) (fun cdv A outer s H vs Q E hr h => ?_)
  · obtain ⟨r, L, L', bs, rfl, _⟩ := h
    rfl
  obtain ⟨r, L, L', bs, rfl, hR, hB, hl, q⟩ := h
  have nd := scBinders.nd
  refine ⟨_, (pss_cons (ps_set (i := 1) nd rfl (.inl rfl) (pe_lst pa_nil))
    (pss_cons (ps_while PassesOwn.never (pt_cmpR op_in_seq (pe_mt0 R.next hr (by decide) (pv 0)) (pe_tup (pa_cons pe_str (pa_cons pe_str pa_nil))) rfl) (pss_cut (ps_if (pt_val (pe_mt R.begins hr (by decide) (pv 0) (pa_cons pe_str pa_nil))) (pss_one (ps_set (i := 2) nd rfl (.inl rfl) pe_str)) (pss_one (ps_if (pt_val (pe_mt R.begins hr (by decide) (pv 0) (pa_cons pe_str pa_nil))) (pss_one (ps_set (i := 2) nd rfl (.inl rfl) pe_str)) (pss_one ps_break))))
    (pss_cons (ps_expr (pe_mt R.word hr (by decide) (pv 0) (pa_cons (pv 2) pa_nil)))
    (pss_cons (ps_expr (pe_mt R.word hr (by decide) (pv 0) (pa_cons pe_str pa_nil)))
    (pss_cons (ps_expr (pe_bm PySem.F.plainAttrs_list PySem.F.slot_list_append PySem.F.type_list_append mt_append (pv 1) (pa_cons (pe_tup (pa_cons (pv 2) (pa_cons (pe_mt0 R.name hr (by decide) (pv 0)) pa_nil))) pa_nil)))
    (pss_one (ps_expr (pe_mt R.sign hr (by decide) (pv 0) (pa_cons pe_str pa_nil)))))))))
    (pss_one (ps_ret (pv 1))))), ?_⟩
  refine ⟨Nat.zero_le _, fun F nF => ?_⟩
  have nFr : F ≠ r := by
    obtain ⟨dx, fs, h1, _⟩ := rd_ins hR
    intro z; rw [z, h1] at nF; cases nF
  refine ⟨fun m σ H' => ∃ (M : List Nat) (bs1 bs2 : List (Bool × Str)) (us : List V) (kd : Option V), σ = [some (.ref r), some (.ref F), kd] ∧ But r H H' ∧ RdAt C H' r M ∧ BindR M bs2 L' ∧ bs = bs1 ++ bs2 ∧ H' F = some (.lst us) ∧ All2 (BdAt K H') us bs1 ∧ m = bs2.length,
    ⟨_, L, [], bs, [], none, rfl, But.of_same (same_new nF _), rd_same hR (same_new nF _), hB, rfl, upd_same, .nil, rfl⟩, ?_⟩
  rintro m σ H1 ⟨M, bs1, bs2, us, kd, rfl, b1, hM, hBM, rfl, hF, hus, rfl⟩
  obtain ⟨dx, fs, h1, hn⟩ := rd_ins hM
  refine ⟨_, rfl, r, dx, fs, rfl, h1, hn _ (by decide +kernel) (by decide +kernel), r, M, rfl, hM, fun H2 b2 hM2 => ?_⟩
  have hF2 := b2 _ _ nFr hF
  have hus2 := hus.imp fun _ _ h => BdAt.tk (rd_tk b2 hM) h
  refine ⟨l2, fun T nT => ⟨T, _, rfl, .inr (SqT.of upd_same), rfl, rfl, _, rfl, ?_⟩⟩
  have sT := same_new nT (.tup [V.str "s", V.str "a"])
  have hM3 := rd_same hM2 sT
  have hF3 := sT _ _ hF2
  have hus3 := hus2.imp fun _ _ h => BdAt.tk (.of_same sT) h
  have b3 : But r H (upd H2 T (.tup [V.str "s", V.str "a"])) := (b1.trans b2).trans (But.of_same sT)
  obtain ⟨dx3, fs3, h3, hn3⟩ := rd_ins hM3
  generalize upd H2 T (.tup [V.str "s", V.str "a"]) = H3 at *
  have ll : us.length ≤ 9000 := by
    have := hus.length
    rw [List.length_append] at hl
    omega
  cases hBM with
  | stop n1 n2 =>
    have fin : Q (.ref F) H3 := q F us H3 b3 hM3 nF hF3 (by rw [List.append_nil]; exact hus3)
    refine ite2 (fun _ => ⟨_, fun σ' H' h => h, ?_⟩) (fun _ => ⟨_, rfl, fin⟩)
    refine ⟨fun _ _ => False, ?_, fun _ _ h => h.elim⟩
    refine ⟨_, rfl, r, dx3, fs3, rfl, h3, hn3 _ (by decide +kernel) (by decide +kernel), r, [115, 111], _, by rw [so_S]; rfl, hM3, _, rfl, ?_⟩
    refine ite2 (fun c => absurd (of_decide_eq_true c) n1) fun _ => ?_
    refine ⟨_, rfl, r, dx3, fs3, rfl, h3, hn3 _ (by decide +kernel) (by decide +kernel), r, [97, 108], _, by rw [al_S]; rfl, hM3, _, rfl, ?_⟩
    refine ite2 (fun c => absurd (of_decide_eq_true c) n2) fun _ => ?_
    exact ⟨_, rfl, fin⟩
  | @go b _ L1 nm L2 L3 _ bs3 a1 a2 a3 a4 hB3 =>
    have hin : (if false = true then !inV (V.str (S ((skip M).take 1))) [V.str "s", V.str "a"] else inV (V.str (S ((skip M).take 1))) [V.str "s", V.str "a"]) = true := by
      have z : (ls (qn b) ++ (32 :: L1)).take 1 = (ls (qn b)).take 1 := by
        cases b
        · rw [lq_f]; rfl
        · rw [lq_t]; rfl
      rw [a1, z]
      cases b <;> decide +kernel
    rw [hin]
    refine ⟨_, fun σ' H' h => h, ?_⟩
    refine ⟨fun σ' H' => σ' = [some (.ref r), some (.ref F), some (.str (qn b))] ∧ H' = H3, ?_, ?_⟩
    · refine ⟨_, rfl, r, dx3, fs3, rfl, h3, hn3 _ (by decide +kernel) (by decide +kernel), r, [115, 111], _, by rw [so_S]; rfl, hM3, _, rfl, ?_⟩
      cases b with
      | true =>
        rw [show decide ((skip M).take [115, 111].length = [115, 111]) = true by rw [a1, lq_t]; rfl]
        exact ⟨rfl, rfl⟩
      | false =>
        rw [show decide ((skip M).take [115, 111].length = [115, 111]) = false by rw [a1, lq_f]; rfl]
        refine ⟨_, rfl, r, dx3, fs3, rfl, h3, hn3 _ (by decide +kernel) (by decide +kernel), r, [97, 108], _, by rw [al_S]; rfl, hM3, _, rfl, ?_⟩
        rw [show decide ((skip M).take [97, 108].length = [97, 108]) = true by rw [a1, lq_f]; rfl]
        exact ⟨rfl, rfl⟩
    rintro σ' H3' ⟨rfl, rfl⟩
    have hM3' : RdAt C H3' r (ls (qn b) ++ (32 :: L1)) := by rw [← a1]; exact hM3
    refine ⟨_, rfl, r, dx3, fs3, rfl, h3, hn3 _ (by decide +kernel) (by decide +kernel), _, rfl, r, ls (qn b), _, rfl, hM3', fun H4 b4 hM4 => ?_⟩
    obtain ⟨dx4, fs4, h4, hn4⟩ := rd_ins hM4
    refine ⟨_, rfl, r, dx4, fs4, rfl, h4, hn4 _ (by decide +kernel) (by decide +kernel), r, [32], L1, by rw [sp_S]; rfl, hM4, fun H5 b5 hM5 => ?_⟩
    obtain ⟨dx5, fs5, h5, hn5⟩ := rd_ins hM5
    have hF5 := b5 _ _ nFr (b4 _ _ nFr hF3)
    refine ⟨_, rfl, .inl ⟨rfl, _, SqL.of hF5⟩, _, rfl, _, rfl, r, dx5, fs5, rfl, h5, hn5 _ (by decide +kernel) (by decide +kernel), r, nm, L1, L2, rfl, hM5, a2, a3, fun H6 b6 hM6 => ?_⟩
    have hF6 := b6 _ _ nFr hF5
    refine ⟨l2, fun p np => ⟨F, _, _, rfl, rfl, same_new np _ _ _ hF6, lineOk (by omega), ?_⟩⟩
    have hF7 := same_new np (.tup [V.str (qn b), V.str (S nm)]) _ _ hF6
    have hM7 := rd_upd (ys := us ++ [.ref p]) (rd_same hM6 (same_new np (.tup [V.str (qn b), V.str (S nm)]))) hF7
    have t36 : Tk K H3' H6 := ((rd_tk b4 hM3).trans (rd_tk b5 hM4)).trans (rd_tk b6 hM5)
    have t7 := (tk_new (K := K) np (.tup [V.str (qn b), V.str (S nm)])).trans (tk_lst hF7 (.lst (us ++ [.ref p])))
    have b7 : But r H (upd (upd H6 p (.tup [V.str (qn b), V.str (S nm)])) F (.lst (us ++ [.ref p]))) := but_lst ((((b3.trans b4).trans b5).trans b6).trans (But.of_same (same_new np _))) nF
    have hF8 : upd (upd H6 p (.tup [V.str (qn b), V.str (S nm)])) F (.lst (us ++ [.ref p])) F = some (.lst (us ++ [.ref p])) := upd_same
    have hu8 : All2 (BdAt K (upd (upd H6 p (.tup [V.str (qn b), V.str (S nm)])) F (.lst (us ++ [.ref p])))) (us ++ [.ref p]) (bs1 ++ [(b, S nm)]) :=
      (hus3.imp fun _ _ h => BdAt.tk (t36.trans t7) h).append (.cons (BdAt.tk (tk_lst hF7 _) ⟨p, rfl, SqT.of upd_same⟩) .nil)
    generalize upd (upd H6 p (.tup [V.str (qn b), V.str (S nm)])) F (.lst (us ++ [.ref p])) = H7 at *
    obtain ⟨dx7, fs7, h7, hn7⟩ := rd_ins hM7
    refine ⟨_, rfl, r, dx7, fs7, rfl, h7, hn7 _ (by decide +kernel) (by decide +kernel), r, [58], L2, L3, by rw [col_S]; rfl, hM7, a4, fun H8 b8 hM8 => ?_⟩
    refine ⟨bs3.length, by simp, L3, bs1 ++ [(b, S nm)], bs3, us ++ [.ref p], _, rfl, b7.trans b8, hM8, hB3, by simp, b8 _ _ nFr hF8, hu8.imp fun _ _ h => BdAt.tk (rd_tk b8 hM7) h, rfl⟩
end
end K2

set_option Elab.async false
set_option linter.all false
set_option maxRecDepth 100000
set_option maxHeartbeats 4000000
namespace K2
open PySem L2 Fo
open C8 (Cal pe_c pss_cut Met pe_mt pe_mt0)
section
variable {P : Program} {w : World} {K : PySem.W.Frag} {mg : Str → Option Value} {base : Heap}
def spNames (K : PySem.W.Frag) (C : Addr) : Sp := fun vs H Q _ => ∃ (r : Addr) (L L' : List Nat) (ns : List Str), vs = [.ref r] ∧ RdAt C H r L ∧ NamesR L ns L' ∧ ∀ (t : Addr) (H' : Hp), But r H H' → RdAt C H' r L' → SqT K H' t (ns.map V.str) → Q (.ref t) H'
abbrev nNames : List Str := ["reader", "names"]
theorem scNames : FnScope nNames ["reader"] (defScope sNames) := ⟨rfl, rfl, rfl, by decide +kernel, rfl, by decide +kernel, by decide +kernel⟩
theorem par_S : Str.ofString "(" = S [40] := by decide +kernel
theorem par2_S : Str.ofString ")" = S [41] := by decide +kernel
theorem com_S : Str.ofString "," = S [44] := by decide +kernel
theorem eq_S : Str.ofString "=" = S [61] := by decide +kernel
theorem ok_names {f C : Addr} {fd : FuncData} (B : Bt mg) (R : Rdr P w K mg base C) (F : Fun K "read_names" "read_names" sNames f fd) : FnOk P w K mg base CX0 4 f fd ["reader"] (spNames K C) := by
  refine F.ok scNames (fun vs H Q E h => ?_) (fun cdv A outer s H vs Q E hr h => ?_)
  · obtain ⟨r, L, L', ns, rfl, _⟩ := h
    rfl
  obtain ⟨r, L, L', ns, rfl, hR, hN, q⟩ := h
  have nd := scNames.nd
  refine ⟨_, (pss_cons (ps_expr (pe_mt R.sign hr (by decide) (pv 0) (pa_cons pe_str pa_nil)))
    (pss_cons (ps_set (i := 1) nd rfl (.inl rfl) (pe_lst (pa_cons (pe_mt0 R.name hr (by decide) (pv 0)) pa_nil)))
    (pss_cons (ps_if (pt_cmpR op_eq (pe_mt0 R.next hr (by decide) (pv 0)) pe_str (nomark _)) (pss_cons (ps_expr (pe_mt R.sign hr (by decide) (pv 0) (pa_cons pe_str pa_nil)))
    (pss_one (ps_expr (pe_bm PySem.F.plainAttrs_list PySem.F.slot_list_append PySem.F.type_list_append mt_append (pv 1) (pa_cons (pe_mt0 R.name hr (by decide) (pv 0)) pa_nil))))) pss_nil)
    (pss_cons (ps_expr (pe_mt R.sign hr (by decide) (pv 0) (pa_cons pe_str pa_nil)))
    (pss_one (ps_ret (pe_callTy call_tuple_of rfl B.tuple (by decide +kernel) (pa_cons (pv 1) pa_nil)))))))), ?_⟩
  obtain ⟨L1, n1, L2, e1, e2, e3, hN2⟩ : ∃ L1 n1 L2, skip L = 40 :: L1 ∧ skip L1 = n1 ++ L2 ∧ IsName n1 L2 ∧ (skip L2 = 41 :: L' ∧ ns = [S n1] ∨ ∃ L3 n2 L4, skip L2 = 44 :: L3 ∧ skip L3 = n2 ++ L4 ∧ IsName n2 L4 ∧ skip L4 = 41 :: L' ∧ ns = [S n1, S n2]) := by
    cases hN with
    | one a b c d => exact ⟨_, _, _, a, b, c, .inl ⟨d, rfl⟩⟩
    | two a b c d e f g => exact ⟨_, _, _, a, b, c, .inr ⟨_, _, _, d, e, f, g, rfl⟩⟩
  obtain ⟨dx, fs, h1, hn⟩ := rd_ins hR
  refine ⟨_, rfl, r, dx, fs, rfl, h1, hn _ (by decide +kernel) (by decide +kernel), r, [40], L, L1, by rw [par_S]; rfl, hR, e1, fun H1 b1 hM1 => ?_⟩
  obtain ⟨dx1, fs1, h1, hn1⟩ := rd_ins hM1
  refine ⟨_, rfl, r, dx1, fs1, rfl, h1, hn1 _ (by decide +kernel) (by decide +kernel), r, n1, L1, L2, rfl, hM1, e2, e3, fun H2 b2 hM2 => ?_⟩
  refine ⟨l1, fun N nN => ?_⟩
  have sN := same_new nN (.lst [.str (S n1)])
  have hN3 : upd H2 N (.lst [.str (S n1)]) N = some (.lst [.str (S n1)]) := upd_same
  have hM3 := rd_same hM2 sN
  have b3 : But r H (upd H2 N (.lst [.str (S n1)])) := (b1.trans b2).trans (But.of_same sN)
  have nNH : N ≠ r := rd_ne hM3 hN3
  generalize upd H2 N (.lst [.str (S n1)]) = H3 at *
  obtain ⟨dx3, fs3, h3, hn3⟩ := rd_ins hM3
  refine ⟨_, rfl, r, dx3, fs3, rfl, h3, hn3 _ (by decide +kernel) (by decide +kernel), r, L2, rfl, hM3, fun H4 b4 hM4 => ?_⟩
  have hN4 := b4 _ _ nNH hN3
  obtain ⟨dx4, fs4, h4, hn4⟩ := rd_ins hM4
  refine ⟨rfl, _, rfl, ?_⟩
  rw [com_S, S_iff]
  rcases hN2 with ⟨e4, rfl⟩ | ⟨L3, n2, L4, e4, e5, e6, e7, rfl⟩
  · rw [e4, show decide ((41 :: L').take 1 = [44]) = false from decide_eq_false (by simp)]
    refine ⟨_, rfl, r, dx4, fs4, rfl, h4, hn4 _ (by decide +kernel) (by decide +kernel), r, [41], skip L2, L', by rw [par2_S]; rfl, hM4, by rw [skip_idem, e4]; rfl, fun H5 b5 hM5 => ?_⟩
    have hN5 := b5 _ _ nNH hN4
    refine ⟨_, rfl, N, _, rfl, .inl ⟨SqL.of hN5, fun t nt => ?_⟩⟩
    exact q t _ (((b3.trans b4).trans b5).trans (But.of_same (same_new nt _))) (rd_same hM5 (same_new nt _)) (SqT.of upd_same)
  · rw [e4, show decide ((44 :: L3).take 1 = [44]) = true from decide_eq_true (by simp)]
    refine ⟨_, rfl, r, dx4, fs4, rfl, h4, hn4 _ (by decide +kernel) (by decide +kernel), r, [44], skip L2, L3, rfl, hM4, by rw [skip_idem, e4]; rfl, fun H5 b5 hM5 => ?_⟩
    have hN5 := b5 _ _ nNH hN4
    obtain ⟨dx5, fs5, h5, hn5⟩ := rd_ins hM5
    refine ⟨_, rfl, .inl ⟨rfl, _, SqL.of hN5⟩, _, rfl, r, dx5, fs5, rfl, h5, hn5 _ (by decide +kernel) (by decide +kernel), r, n2, L3, L4, rfl, hM5, e5, e6, fun H6 b6 hM6 => ?_⟩
    have hN6 := b6 _ _ nNH hN5
    refine ⟨N, _, _, rfl, rfl, hN6, lineOk (by show 1 ≤ 10000; decide), ?_⟩
    have hM7 := rd_upd (ys := [.str (S n1), .str (S n2)]) hM6 hN6
    have b7 : But r H (upd H6 N (.lst [.str (S n1), .str (S n2)])) := by
      intro a u ne h
      by_cases z : a = N
      · subst z
        have := (b1.trans b2) a u ne h
        rw [nN] at this; cases this
      · rw [upd_ne z]; exact (((b3.trans b4).trans b5).trans b6) a u ne h
    have hN7 : upd H6 N (.lst [.str (S n1), .str (S n2)]) N = some (.lst [.str (S n1), .str (S n2)]) := upd_same
    show _
    obtain ⟨dx7, fs7, h7, hn7⟩ := rd_ins hM7
    refine ⟨_, rfl, r, dx7, fs7, rfl, h7, hn7 _ (by decide +kernel) (by decide +kernel), r, [41], L4, L', by rw [par2_S]; rfl, hM7, e7, fun H8 b8 hM8 => ?_⟩
    have hN8 := b8 _ _ nNH hN7
    refine ⟨_, rfl, N, _, rfl, .inl ⟨SqL.of hN8, fun t nt => ?_⟩⟩
    exact q t _ ((b7.trans b8).trans (But.of_same (same_new nt _))) (rd_same hM8 (same_new nt _)) (SqT.of upd_same)
/-! ### read_plain -/
structure Er (K : PySem.W.Frag) (w : World) (dR : Addr) : Prop where
  kk : ∃ es n, KKeys K dR es n ["true", "false"]
  row : ∀ b, ∃ a, KDct K w dR (Fm.word b) (.ref a) ∧ ∀ H, FmAt K H (.ref a) (.con b [])
def spPlain (K : PySem.W.Frag) (C : Addr) : Sp := fun vs H Q _ => ∃ (r : Addr) (L L' : List Nat) (g : Fm), vs = [.ref r] ∧ RdAt C H r L ∧ PlainR L g L' ∧ ∀ (v : V) (H' : Hp), But r H H' → RdAt C H' r L' → FmAt K H' v g → Q v H'
abbrev nPlain : List Str := ["reader", "first", "word", "one"]
theorem scPlain : FnScope nPlain ["reader"] (defScope sPlain) := ⟨rfl, rfl, rfl, by decide +kernel, rfl, by decide +kernel, by decide +kernel⟩
theorem tr_S : S ((Fm.word true).cps.toList.take 2) = S [116, 114] := by decide +kernel
theorem cut_w (b : Bool) : cutS (Fm.word b) none (some 2) = S ((ls (Fm.word b)).take 2) := by cases b <;> decide +kernel
theorem A_S : Str.ofString "A" = S [65] := by decide +kernel
theorem Z_S : Str.ofString "Z" = S [90] := by decide +kernel
theorem words : (["true", "false"] : List Str) = [Fm.word true, Fm.word false] := rfl
theorem ok_plain {f C dR : Addr} {fd : FuncData} (B : Bt mg) (R : Rdr P w K mg base C) (hER : mg "EMPTY_ROWS" = some (.ref dR)) (er : Er K w dR) (cNames : Cal P w K mg base 4 "read_names" (spNames K C) []) (F : Fun K "read_plain" "read_plain" sPlain f fd) : FnOk P w K mg base CX0 5 f fd ["reader"] (spPlain K C) := by
  refine F.ok scPlain (fun vs H Q E h => ?_) (fun cdv A outer s H vs Q E hr h => ?_)
  · obtain ⟨r, L, L', g, rfl, _⟩ := h
    rfl
  obtain ⟨r, L, L', g, rfl, hR, hP, q⟩ := h
  have nd := scPlain.nd
  obtain ⟨es, n, KK⟩ := er.kk
  refine ⟨_, (pss_cons (ps_set (i := 1) nd rfl (.inl rfl) (pe_mt0 R.next hr (by decide) (pv 0)))
    (pss_cons (ps_for PassesOwn.never rfl (pi_kk rfl KK (pe_glob (v := .ref dR) rfl hER rfl)) (pg_name (i := 2) nd rfl (.inl rfl)) (pss_one (ps_if (pt_val (pe_mt R.begins hr (by decide) (pv 0) (pa_cons (pe_slice sl_str (pv 2) po_none (po_some pe_int)) pa_nil))) (pss_cons (ps_expr (pe_mt R.word hr (by decide) (pv 0) (pa_cons (pv 2) pa_nil)))
    (pss_one (ps_ret (pe_ix ix_kdict (pe_glob (v := .ref dR) rfl hER rfl) (pv 2) (fun _ _ => rfl))))) pss_nil)))
    (pss_cons (ps_if (pt_chain op_le_str op_le_str pe_str (pv 1) pe_str) (pss_cons (ps_expr (pe_mt R.sign hr (by decide) (pv 0) (pa_cons (pv 1) pa_nil)))
    (pss_one (ps_ret (pe_tup (pa_cons pe_str (pa_cons (pv 1) (pa_cons (pe_c cNames hr (by decide) rfl (pa_cons (pv 0) pa_nil)) pa_nil))))))) pss_nil)
    (pss_cons (ps_set (i := 3) nd rfl (.inl rfl) (pe_mt0 R.name hr (by decide) (pv 0)))
    (pss_cons (ps_expr (pe_mt R.sign hr (by decide) (pv 0) (pa_cons pe_str pa_nil)))
    (pss_one (ps_ret (pe_tup (pa_cons pe_str (pa_cons (pv 3) (pa_cons (pe_mt0 R.name hr (by decide) (pv 0)) pa_nil))))))))))), ?_⟩
  obtain ⟨dx, fs, h1, hn⟩ := rd_ins hR
  refine ⟨_, rfl, r, dx, fs, rfl, h1, hn _ (by decide +kernel) (by decide +kernel), r, L, rfl, hR, fun H1 b1 hM1 => ?_⟩
  obtain ⟨dx1, fs1, h1, hn1⟩ := rd_ins hM1
  have h2l : ∀ b, (ls (Fm.word b)).take 2 = if b = true then [116, 114] else [102, 97] := by intro b; cases b <;> decide +kernel
  refine ⟨rfl, for_kk (zs := ["true", "false"]) (fun i σ' H' => H' = H1 ∧ ∃ wd, σ' = [some (.ref r), some (.str (S ((skip L).take 1))), wd, none] ∧ (1 ≤ i → ¬ (skip L).take 2 = [116, 114]) ∧ (2 ≤ i → ¬ (skip L).take 2 = [102, 97])) ⟨rfl, none, rfl, by omega, by omega⟩ ?_ ?_⟩
  · rintro i c σ' H1' hc ⟨rfl, wd, rfl, k1, k2⟩
    obtain ⟨b, rfl, hi⟩ : ∃ b, c = Fm.word b ∧ i = if b = true then 0 else 1 := by
      match i, hc with
      | 0, hc => exact ⟨true, (Option.some.inj hc).symm, rfl⟩
      | 1, hc => exact ⟨false, (Option.some.inj hc).symm, rfl⟩
      | i + 2, hc => exact absurd hc (by simp)
    refine ⟨_, rfl, r, dx1, fs1, rfl, h1, hn1 _ (by decide +kernel) (by decide +kernel), _, rfl, ?_⟩
    refine ⟨_, rfl, _, rfl, big9 (by have := lword b; omega), r, (ls (Fm.word b)).take 2, skip L, by rw [cut_w]; rfl, hM1, _, rfl, ?_⟩
    have el : ((ls (Fm.word b)).take 2).length = 2 := by cases b <;> decide +kernel
    rw [el, h2l b]
    refine ite2 (fun c => ?_) (fun c => ?_)
    · have c' := of_decide_eq_true c
      have eg : g = .con b [] ∧ skip L = ls (Fm.word b) ++ L' := by
        cases hP with
        | word b2 a =>
          have : b2 = b := by
            rw [a] at c'
            cases b <;> cases b2
            · rfl
            · rw [lw_t] at c'; exact absurd c' (by simp)
            · rw [lw_f] at c'; exact absurd c' (by simp)
            · rfl
          subst this
          exact ⟨rfl, a⟩
        | rel a a1 a2 _ =>
          rw [a] at c'
          exfalso
          rename_i L1 cc ns
          cases b <;> (cases L1 <;> simp at c') <;> omega
        | same _ _ n1 n2 _ _ _ =>
          cases b
          · exact absurd c' n2
          · exact absurd c' n1
      obtain ⟨rfl, e0⟩ := eg
      rw [e0] at hM1
      refine ⟨_, rfl, r, dx1, fs1, rfl, h1, hn1 _ (by decide +kernel) (by decide +kernel), _, rfl, r, ls (Fm.word b), L', rfl, hM1, fun H2 b2 hM2 => ?_⟩
      obtain ⟨aT, hk, hT⟩ := er.row b
      exact ⟨_, rfl, dR, _, _, rfl, rfl, hk, q _ H2 (b1.trans b2) hM2 (hT H2)⟩
    · refine ⟨rfl, _, rfl, fun _ => ?_, fun h2 => ?_⟩
      · cases b with
        | true => exact fun z => c (decide_eq_true z)
        | false => exact k1 (by rw [hi]; decide)
      · cases b with
        | true => rw [hi] at h2; simp at h2
        | false => exact fun z => c (decide_eq_true z)
  rintro σ' H1' ⟨rfl, wd, rfl, k1, k2⟩
  have k1' := k1 (by decide)
  have k2' := k2 (by decide)
  cases hP with
  | word b a =>
    exfalso
    cases b
    · rw [a, lw_f] at k2'; exact k2' rfl
    · rw [a, lw_t] at k1'; exact k1' rfl
  | @rel L1 _ c ns a a1 a2 a3 =>
    rw [a]
    rw [a] at hM1
    refine ⟨_, rfl, _, _, rfl, rfl, true, ?_, _, _, rfl, rfl, true, ?_, ?_⟩
    · rw [A_S]; exact congrArg V.bl ((le_S 65 c).trans (decide_eq_true a1))
    · rw [Z_S]; exact congrArg V.bl ((le_S c 90).trans (decide_eq_true a2))
    refine ⟨_, rfl, r, dx1, fs1, rfl, h1, hn1 _ (by decide +kernel) (by decide +kernel), _, rfl, r, [c], c :: L1, L1, rfl, hM1, skip_cons (by omega), fun H2 b2 hM2 => ?_⟩
    refine ⟨_, rfl, _, rfl, r, L1, L', ns, rfl, hM2, a3, fun t H3 b3 hM3 ht => ⟨l3, fun T nT => ?_⟩⟩
    refine q _ _ (((b1.trans b2).trans b3).trans (But.of_same (same_new nT _))) (rd_same hM3 (same_new nT _)) ?_
    rw [FmAt]
    exact ⟨T, t, rfl, SqT.of upd_same, tk_new nT _ _ _ ht⟩
  | @same n1 L1 L2 n2 _ a1 a2 a3 a4 a5 a6 a7 =>
    have hc : ∃ c X, n1 = c :: X ∧ 97 ≤ c := by
      rcases a2 with ⟨c, rfl, h, _⟩ | ⟨c, d, rfl, h, _⟩ <;> exact ⟨c, _, rfl, h⟩
    obtain ⟨c, X, en, hc⟩ := hc
    have e1 : (skip L).take 1 = [c] := by rw [a1, en]; rfl
    rw [e1]
    refine ⟨_, rfl, _, _, rfl, rfl, true, ?_, _, _, rfl, rfl, false, ?_, ?_⟩
    · rw [A_S]; exact congrArg V.bl ((le_S 65 c).trans (decide_eq_true (by omega)))
    · rw [Z_S]; exact congrArg V.bl ((le_S c 90).trans (decide_eq_false (by omega)))
    refine ⟨_, rfl, r, dx1, fs1, rfl, h1, hn1 _ (by decide +kernel) (by decide +kernel), r, n1, skip L, L1, rfl, hM1, by rw [skip_idem]; exact a1, a2, fun H2 b2 hM2 => ?_⟩
    obtain ⟨dx2, fs2, h2, hn2⟩ := rd_ins hM2
    refine ⟨_, rfl, r, dx2, fs2, rfl, h2, hn2 _ (by decide +kernel) (by decide +kernel), r, [61], L1, L2, by rw [eq_S]; rfl, hM2, a5, fun H3 b3 hM3 => ?_⟩
    obtain ⟨dx3, fs3, h3, hn3⟩ := rd_ins hM3
    refine ⟨_, rfl, _, rfl, r, dx3, fs3, rfl, h3, hn3 _ (by decide +kernel) (by decide +kernel), r, n2, L2, L', rfl, hM3, a6, a7, fun H4 b4 hM4 => ⟨l3, fun T nT => ?_⟩⟩
    refine q _ _ ((((b1.trans b2).trans b3).trans b4).trans (But.of_same (same_new nT _))) (rd_same hM4 (same_new nT _)) ?_
    rw [FmAt]
    exact ⟨T, rfl, SqT.of upd_same⟩
end
end K2

set_option Elab.async false
set_option linter.all false
set_option maxRecDepth 100000
set_option maxHeartbeats 4000000
/-! the levels of parentheses, in the heap -/
namespace K2
open PySem L2 Fo
abbrev mLInit : Stmt := inClass (top 14) 0
def lflds (n : Int) (B : Addr) (j : V) (R : Addr) : List (Str × V) := [("nots", .int n), ("binders", .ref B), ("joint", j), ("rows", .ref R)]
theorem lf_nots (n : Int) (B : Addr) (j : V) (R : Addr) : (lflds n B j R).lookup ("nots" : Str) = some (.int n) := rfl
theorem lf_binders (n : Int) (B : Addr) (j : V) (R : Addr) : (lflds n B j R).lookup ("binders" : Str) = some (.ref B) := rfl
theorem lf_joint (n : Int) (B : Addr) (j : V) (R : Addr) : (lflds n B j R).lookup ("joint" : Str) = some j := rfl
theorem lf_rows (n : Int) (B : Addr) (j : V) (R : Addr) : (lflds n B j R).lookup ("rows" : Str) = some (.ref R) := rfl
theorem lf_put (n : Int) (B : Addr) (j k : V) (R : Addr) : putF "joint" k (lflds n B j R) = lflds n B k R := rfl
structure LvT (K : PySem.W.Frag) (C : Addr) : Prop where
  cl : Cls K C
  nn : NoAttr K C "nots"
  nb : NoAttr K C "binders"
  nj : NoAttr K C "joint"
  nr : NoAttr K C "rows"
def jv : Option Bool → V
  | none => .non
  | some b => .str (sg1 b)
abbrev Ad := Addr × Addr × Addr
def LvAt (K : PySem.W.Frag) (C : Addr) (H : Hp) (d : Ad) (v : Lv) : Prop := ∃ (dx : Addr) (us ws : List V), H d.1 = some (.ins C dx (lflds (v.nots : Int) d.2.1 (jv v.joint) d.2.2)) ∧ H d.2.1 = some (.lst us) ∧ All2 (BdAt K H) us v.binders ∧ H d.2.2 = some (.lst ws) ∧ FmsAt K H ws v.rows
def fl (ads : List Ad) : List Addr := ads.flatMap fun d => [d.1, d.2.1, d.2.2]
theorem fl_cons (d : Ad) (ads : List Ad) : fl (d :: ads) = d.1 :: d.2.1 :: d.2.2 :: fl ads := rfl
theorem LvAt.fr {K : PySem.W.Frag} {C x : Addr} {H H' : Hp} {d : Ad} {v : Lv} (h : LvAt K C H d v) (b : But x H H') (t : Tk K H H') (h1 : d.1 ≠ x) (h2 : d.2.1 ≠ x) (h3 : d.2.2 ≠ x) : LvAt K C H' d v := by
  obtain ⟨dx, us, ws, a1, a2, a3, a4, a5⟩ := h
  exact ⟨dx, us, ws, b _ _ h1 a1, b _ _ h2 a2, a3.imp fun _ _ h => BdAt.tk t h, b _ _ h3 a4, a5.tk t⟩
theorem lvs_fr {K : PySem.W.Frag} {C x : Addr} {H H' : Hp} {ads : List Ad} {stk : List Lv} (h : All2 (LvAt K C H) ads stk) (b : But x H H') (t : Tk K H H') (n : x ∉ fl ads) : All2 (LvAt K C H') ads stk := by
  induction h with
  | nil => exact .nil
  | @cons d v ads stk r _ ih =>
    rw [fl_cons] at n
    simp only [List.mem_cons, not_or] at n
    exact .cons (r.fr b t (Ne.symm n.1) (Ne.symm n.2.1) (Ne.symm n.2.2.1)) (ih n.2.2.2)
structure RS (K : PySem.W.Frag) (C C2 : Addr) (H0 H : Hp) (r A : Addr) (ads : List Ad) (stk : List Lv) (L : List Nat) : Prop where
  rd : RdAt C H r L
  ls : H A = some (.lst (ads.reverse.map fun d => V.ref d.1))
  lv : All2 (LvAt K C2 H) ads stk
  nd : (r :: A :: fl ads).Nodup
  s : Same H0 H
  new : ∀ x ∈ r :: A :: fl ads, H0 x = none
theorem same_but {H0 H H' : Hp} {x : Addr} (s : Same H0 H) (b : But x H H') (n : H0 x = none) : Same H0 H' := fun a o e => b a o (ne_of_none e n) (s a o e)
theorem rd_fr {C r x : Addr} {H H' : Hp} {L : List Nat} (y : RdAt C H r L) (b : But x H H') (n : r ≠ x) : RdAt C H' r L := by
  obtain ⟨dx, t, p, e, r1⟩ := y
  exact ⟨dx, t, p, b _ _ n e, r1⟩
theorem but_upd (x : Addr) (H : Hp) (o : HO) : But x H (upd H x o) := fun a u ne h => by rw [upd_ne ne]; exact h
section
variable {K : PySem.W.Frag} {C C2 : Addr} {H0 H H' : Hp} {r A : Addr} {ads : List Ad} {stk : List Lv} {L L' : List Nat}
theorem RS.rdr (z : RS K C C2 H0 H r A ads stk L) (b : But r H H') (h : RdAt C H' r L') : RS K C C2 H0 H' r A ads stk L' := by
  have n := z.nd
  simp only [List.nodup_cons, List.mem_cons, not_or] at n
  exact ⟨h, b _ _ (Ne.symm n.1.1) z.ls, lvs_fr z.lv b (rd_tk b z.rd) n.1.2, z.nd, same_but z.s b (z.new r List.mem_cons_self), z.new⟩
theorem RS.same (z : RS K C C2 H0 H r A ads stk L) (e : Same H H') : RS K C C2 H0 H' r A ads stk L := by
  refine ⟨rd_same z.rd e, e _ _ z.ls, z.lv.imp fun d v h => ?_, z.nd, z.s.trans e, z.new⟩
  obtain ⟨dx, us, ws, a1, a2, a3, a4, a5⟩ := h
  exact ⟨dx, us, ws, e _ _ a1, e _ _ a2, a3.imp fun _ _ h => BdAt.tk (.of_same e) h, e _ _ a4, a5.tk (.of_same e)⟩
theorem RS.row {d : Ad} {v : Lv} {ws : List V} {u : V} {f : Fm} (z : RS K C C2 H0 H r A (d :: ads) (v :: stk) L) (hw : H d.2.2 = some (.lst ws)) (hu : FmAt K H u f) :
    RS K C C2 H0 (upd H d.2.2 (.lst (ws ++ [u]))) r A (d :: ads) ({ v with rows := v.rows ++ [f] } :: stk) L := by
  have n := z.nd
  rw [fl_cons] at n
  simp only [List.nodup_cons, List.mem_cons, not_or] at n
  obtain ⟨⟨n1, n2, n3, n4, n5⟩, ⟨n6, n7, n8, n9⟩, ⟨n10, n11, n12⟩, ⟨n13, n14⟩, n15, n16⟩ := n
  have b := but_upd d.2.2 H (.lst (ws ++ [u]))
  have t := tk_lst (K := K) hw (.lst (ws ++ [u]))
  obtain ⟨hv, hr⟩ : LvAt K C2 H d v ∧ All2 (LvAt K C2 H) ads stk := by
    have := z.lv
    cases this with
    | cons a b => exact ⟨a, b⟩
  obtain ⟨dx, us, ws', a1, a2, a3, a4, a5⟩ := hv
  rw [hw] at a4
  cases a4
  refine ⟨rd_fr z.rd b n4, b _ _ n8 z.ls, .cons ⟨dx, us, ws ++ [u], b _ _ n11 a1, b _ _ n13 a2, a3.imp fun _ _ h => BdAt.tk t h, upd_same, ?_⟩ (lvs_fr hr b t n15), z.nd, same_but z.s b (z.new _ (by rw [fl_cons]; simp)), z.new⟩
  exact (FmsAt.append (.cons hu .nil) a5).tk t
theorem RS.jt {d : Ad} {v : Lv} {dx : Addr} (b : Bool) (z : RS K C C2 H0 H r A (d :: ads) (v :: stk) L) (hd : H d.1 = some (.ins C2 dx (lflds (v.nots : Int) d.2.1 (jv v.joint) d.2.2))) :
    RS K C C2 H0 (upd H d.1 (.ins C2 dx (lflds (v.nots : Int) d.2.1 (.str (sg1 b)) d.2.2))) r A (d :: ads) ({ v with joint := some b } :: stk) L := by
  have n := z.nd
  rw [fl_cons] at n
  simp only [List.nodup_cons, List.mem_cons, not_or] at n
  obtain ⟨⟨n1, n2, n3, n4, n5⟩, ⟨n6, n7, n8, n9⟩, ⟨n10, n11, n12⟩, ⟨n13, n14⟩, n15, n16⟩ := n
  have b' := but_upd d.1 H (.ins C2 dx (lflds (v.nots : Int) d.2.1 (.str (sg1 b)) d.2.2))
  have t := tk_but (K := K) b' hd
  obtain ⟨hv, hr⟩ : LvAt K C2 H d v ∧ All2 (LvAt K C2 H) ads stk := by
    have := z.lv
    cases this with
    | cons a b => exact ⟨a, b⟩
  obtain ⟨dx', us, ws', a1, a2, a3, a4, a5⟩ := hv
  exact ⟨rd_fr z.rd b' n2, b' _ _ n6 z.ls, .cons ⟨dx, us, ws', upd_same, b' _ _ (Ne.symm n10) a2, a3.imp fun _ _ h => BdAt.tk t h, b' _ _ (Ne.symm n11) a4, a5.tk t⟩ (lvs_fr hr b' t n12), z.nd, same_but z.s b' (z.new _ (by rw [fl_cons]; simp)), z.new⟩
theorem rev_snoc {d : Ad} : ((d :: ads).reverse.map fun d : Ad => V.ref d.1) = (ads.reverse.map fun d : Ad => V.ref d.1) ++ [V.ref d.1] := by simp
theorem RS.pop {d : Ad} {v : Lv} (z : RS K C C2 H0 H r A (d :: ads) (v :: stk) L) :
    RS K C C2 H0 (upd H A (.lst (ads.reverse.map fun d => V.ref d.1))) r A ads stk L ∧ LvAt K C2 (upd H A (.lst (ads.reverse.map fun d => V.ref d.1))) d v := by
  have n := z.nd
  rw [fl_cons] at n
  simp only [List.nodup_cons, List.mem_cons, not_or] at n
  obtain ⟨⟨n1, n2, n3, n4, n5⟩, ⟨n6, n7, n8, n9⟩, ⟨n10, n11, n12⟩, ⟨n13, n14⟩, n15, n16⟩ := n
  have b' := but_upd A H (.lst (ads.reverse.map fun d => V.ref d.1))
  have t := tk_lst (K := K) z.ls (.lst (ads.reverse.map fun d => V.ref d.1))
  obtain ⟨hv, hr⟩ : LvAt K C2 H d v ∧ All2 (LvAt K C2 H) ads stk := by
    have := z.lv
    cases this with
    | cons a b => exact ⟨a, b⟩
  refine ⟨⟨rd_fr z.rd b' n1, upd_same, lvs_fr hr b' t n9, ?_, same_but z.s b' (z.new A (by simp)), fun x hx => z.new x ?_⟩, hv.fr b' t (Ne.symm n6) (Ne.symm n7) (Ne.symm n8)⟩
  · simp only [List.nodup_cons, List.mem_cons, not_or]
    exact ⟨⟨n1, n5⟩, n9, n16⟩
  · rw [fl_cons]
    simp only [List.mem_cons] at hx ⊢
    rcases hx with h | h | h
    · exact .inl h
    · exact .inr (.inl h)
    · exact .inr (.inr (.inr (.inr (.inr h))))
theorem RS.push {d : Ad} {v : Lv} (z : RS K C C2 H0 H r A ads stk L) (hv : LvAt K C2 H d v) (nw : H0 d.1 = none ∧ H0 d.2.1 = none ∧ H0 d.2.2 = none) (nd : (d.1 :: d.2.1 :: d.2.2 :: r :: A :: fl ads).Nodup) :
    RS K C C2 H0 (upd H A (.lst ((ads.reverse.map fun d => V.ref d.1) ++ [V.ref d.1]))) r A (d :: ads) (v :: stk) L := by
  simp only [List.nodup_cons, List.mem_cons, not_or] at nd
  obtain ⟨⟨n1, n2, n3, n4, n5⟩, ⟨n6, n7, n8, n9⟩, ⟨n10, n11, n12⟩, ⟨n13, n14⟩, n15, n16⟩ := nd
  have b' := but_upd A H (.lst ((ads.reverse.map fun d => V.ref d.1) ++ [V.ref d.1]))
  have t := tk_lst (K := K) z.ls (.lst ((ads.reverse.map fun d => V.ref d.1) ++ [V.ref d.1]))
  refine ⟨rd_fr z.rd b' n13, by rw [upd_same, rev_snoc], .cons (hv.fr b' t n4 n8 n11) (lvs_fr z.lv b' t n15), ?_, same_but z.s b' (z.new A (by simp)), fun x hx => ?_⟩
  · rw [fl_cons]
    simp only [List.nodup_cons, List.mem_cons, not_or]
    exact ⟨⟨n13, Ne.symm n3, Ne.symm n7, Ne.symm n10, n14⟩, ⟨Ne.symm n4, Ne.symm n8, Ne.symm n11, n15⟩, ⟨n1, n2, n5⟩, ⟨n6, n9⟩, n12, n16⟩
  · rw [fl_cons] at hx
    simp only [List.mem_cons] at hx
    rcases hx with h | h | h | h | h | h
    · exact z.new x (by simp [h])
    · exact z.new x (by simp [h])
    · exact h ▸ nw.1
    · exact h ▸ nw.2.1
    · exact h ▸ nw.2.2
    · exact z.new x (by simp [h])
end
/-- how much stands in the levels -/
def wts : List Lv → Nat
  | [] => 0
  | v :: r => 1 + v.nots + v.binders.length + v.rows.length + wts r
end K2

set_option Elab.async false
set_option linter.all false
set_option maxRecDepth 100000
set_option maxHeartbeats 4000000
namespace K2
open PySem L2 Fo
open C8 (Cal pe_c pss_cut Met pe_mt pe_mt0)
section
variable {P : Program} {w : World} {K : PySem.W.Frag} {mg : Str → Option Value} {base : Heap}
def spLInit (C2 : Addr) : Sp := fun vs H Q _ => ∃ (a dx : Addr) (n : Int) (B : Addr), vs = [.ref a, .int n, .ref B] ∧ H a = some (.ins C2 dx []) ∧ ∀ (H' : Hp) (R : Addr), But a H H' → H R = none → H' a = some (.ins C2 dx (lflds n B .non R)) → H' R = some (.lst []) → Q .non H'
theorem scLInit : FnScope ["self", "nots", "binders"] ["self", "nots", "binders"] (defScope mLInit) := ⟨rfl, rfl, rfl, by decide +kernel, rfl, by decide +kernel, by decide +kernel⟩
theorem ok_linit {f C2 : Addr} {fd : FuncData} (T : LvT K C2) (F : Fun K "__init__" "Level.__init__" mLInit f fd) : FnOk P w K mg base CX0 1 f fd ["self", "nots", "binders"] (spLInit C2) := by
  refine F.ok scLInit (fun vs H Q E h => ?_) (fun cdv A outer s H vs Q E hr h => ?_)
  · obtain ⟨a, dx, n, B, rfl, _⟩ := h
    rfl
  obtain ⟨a, dx, n, B, rfl, ha, q⟩ := h
  refine ⟨_, pss_cons (ps_fld (pv 0) (pv 1) rfl) (pss_cons (ps_fld (pv 0) (pv 2) rfl) (pss_cons (ps_fld (pv 0) pe_non rfl) (pss_one (ps_fld (pv 0) (pe_lst pa_nil) rfl)))), ?_⟩
  refine ⟨_, rfl, _, rfl, a, C2, dx, [], rfl, ha, T.cl, T.nn, (by show 0 < 1000; decide), ?_⟩
  refine ⟨_, rfl, _, rfl, a, C2, dx, _, rfl, upd_same, T.cl, T.nb, (by show 1 < 1000; decide), ?_⟩
  refine ⟨_, rfl, a, C2, dx, _, rfl, upd_same, T.cl, T.nj, (by show 2 < 1000; decide), ?_⟩
  refine ⟨Nat.zero_le _, fun R nR => ⟨_, rfl, a, C2, dx, _, rfl, same_new nR _ _ _ upd_same, T.cl, T.nr, (by show 3 < 1000; decide), ?_⟩⟩
  have nRa : R ≠ a := by
    intro z
    rw [z, upd_same] at nR
    cases nR
  have nR0 : H R = none := by
    rw [upd_ne nRa, upd_ne nRa, upd_ne nRa] at nR
    exact nR
  refine q _ R (fun b o ne h => ?_) nR0 upd_same (by rw [upd_ne nRa]; exact upd_same)
  have nbR : b ≠ R := fun z => by rw [z, nR0] at h; cases h
  rw [upd_ne ne, upd_ne nbR, upd_ne ne, upd_ne ne, upd_ne ne]
  exact h
/-! ### whole -/
structure Kn (K : PySem.W.Frag) (w : World) (dK : Addr) : Prop where
  kd : ∀ b, KDct K w dK (sg1 b) (.str (cn b))
  inn : ∃ es n, KDict K w dK es n ∧ ∀ b, ∃ u, PySem.W.nsIn K dK (sg1 b) = some (some u)
def spWhole (K : PySem.W.Frag) (C2 : Addr) : Sp := fun vs H Q _ => ∃ (d : Ad) (v : Lv), vs = [.ref d.1] ∧ LvAt K C2 H d v ∧ v.rows ≠ [] ∧ v.rows.length ≤ 9000 ∧ v.binders.length ≤ 9000 ∧ ∀ (u : V) (H' : Hp), Same H H' → FmAt K H' u v.whole → Q u H'
abbrev nWhole : List Str := ["level", "formula", "kind", "name"]
theorem scWhole : FnScope nWhole ["level"] (defScope sWhole) := ⟨rfl, rfl, rfl, by decide +kernel, rfl, by decide +kernel, by decide +kernel⟩
theorem wrap_append : ∀ (a b : List (Bool × Str)) (f : Fm), wrap (a ++ b) f = wrap a (wrap b f)
  | [], b, f => rfl
  | (x, y) :: a, b, f => by rw [List.cons_append, wrap, wrap_append a b f, wrap]
theorem wrap_fold : ∀ (bs : List (Bool × Str)) (f : Fm), bs.foldl (fun f p => Fm.qu p.1 p.2 f) f = wrap bs.reverse f
  | [], f => rfl
  | (b, x) :: bs, f => by rw [List.foldl_cons, wrap_fold bs, List.reverse_cons, wrap_append]; rfl
theorem ok_whole {f C2 dK : Addr} {fd : FuncData} (B : Bt mg) (T : LvT K C2) (hK : mg "KINDS" = some (.ref dK)) (kn : Kn K w dK) (F : Fun K "whole" "whole" sWhole f fd) : FnOk P w K mg base CX0 1 f fd ["level"] (spWhole K C2) := by
  refine F.ok scWhole (fun vs H Q E h => ?_) (fun cdv A outer s H vs Q E hr h => ?_)
  · obtain ⟨d, v, rfl, _⟩ := h
    rfl
  obtain ⟨d, v, rfl, ⟨dx, us, ws, a1, a2, a3, a4, a5⟩, hne, hl1, hl2, q⟩ := h
  have nd := scWhole.nd
  refine ⟨_, (pss_cons (ps_set (i := 1) nd rfl (.inl rfl) (pe_ix ix_list (pe_fld (pv 0) rfl) pe_int (fun _ _ => rfl)))
    (pss_cut (ps_if (pt_cmpR op_notN (pe_fld (pv 0) rfl) pe_non (nomark _)) (pss_one (ps_set (i := 1) nd rfl (.inl rfl) (pe_tup (pa_cons (pe_ix ix_kdict (pe_glob (v := .ref dK) rfl hK rfl) (pe_fld (pv 0) rfl) (fun _ _ => rfl)) (pa_cons (pe_callTy call_tuple_of rfl B.tuple (by decide +kernel) (pa_cons (pe_fld (pv 0) rfl) pa_nil)) pa_nil))))) pss_nil)
    (pss_cons (ps_for PassesOwn.never rfl (pi_list (pe_revL (pe_fld (pv 0) rfl))) (pg_tup rfl (pgs_cons (pg_name (i := 2) nd rfl (.inl rfl)) (pgs_cons (pg_name (i := 3) nd rfl (.inl rfl)) pgs_nil))) (pss_one (ps_set (i := 1) nd rfl (.inl rfl) (pe_tup (pa_cons (pv 2) (pa_cons (pv 3) (pa_cons (pv 1) pa_nil)))))))
    (pss_one (ps_ret (pv 1)))))), ?_⟩
  have lw := a5.length
  obtain ⟨u0, ws', rfl⟩ : ∃ u0 ws', ws = u0 :: ws' := by
    cases ws with
    | nil => exact absurd (List.eq_nil_of_length_eq_zero lw.symm) hne
    | cons a b => exact ⟨a, b, rfl⟩
  refine ⟨_, rfl, d.1, C2, dx, _, _, rfl, a1, T.cl, T.nr, lf_rows _ _ _ _, d.2.2, _, _, u0, rfl, rfl, SqL.of a4, at_of (j := 0) rfl rfl, ?_⟩
  refine ⟨fun σ' H' => ∃ u, σ' = [some (.ref d.1), some u, none, none] ∧ Same H H' ∧ FmAt K H' u (baseF v.joint v.rows), ?_, ?_⟩
  · refine ⟨_, rfl, d.1, C2, dx, _, _, rfl, a1, T.cl, T.nj, lf_joint _ _ _ _, ?_⟩
    refine ⟨rfl, _, rfl, ?_⟩
    generalize hj : v.joint = j
    rw [hj] at a1
    cases j with
    | none =>
      refine ⟨u0, rfl, Same.refl _, ?_⟩
      cases hrw : v.rows with
      | nil => exact absurd hrw hne
      | cons g gs =>
        rw [hrw] at a5
        obtain ⟨u, r, e, h1, _⟩ := a5.uncons
        cases e
        exact h1
    | some b =>
      refine ⟨_, rfl, d.1, C2, dx, _, _, rfl, a1, T.cl, T.nj, lf_joint _ _ _ _, dK, _, _, rfl, rfl, kn.kd b, _, rfl, d.1, C2, dx, _, _, rfl, a1, T.cl, T.nr, lf_rows _ _ _ _, d.2.2, _, rfl, .inl ⟨SqL.of a4, fun t nt => ⟨l2, fun p np => ?_⟩⟩⟩
      have st := same_new nt (.tup (u0 :: ws'))
      have sp := same_new np (.tup [V.str (cn b), .ref t])
      refine ⟨_, rfl, st.trans sp, ?_⟩
      show FmAt K _ _ (.con b v.rows)
      rw [FmAt]
      exact ⟨p, t, _, rfl, SqT.of upd_same, tk_new np _ _ _ (SqT.of upd_same), a5.tk (.of_same (st.trans sp))⟩
  rintro σ' H1 ⟨u, rfl, s1, hu⟩
  refine ⟨_, rfl, d.1, C2, dx, _, _, rfl, s1 _ _ a1, T.cl, T.nb, lf_binders _ _ _ _, d.2.1, us, rfl, SqL.of (s1 _ _ a2), fun R nR => ⟨R, rfl, ⟨_, SqL.of upd_same⟩, ?_⟩⟩
  have sR := same_new nR (.lst us.reverse)
  have hB := (all2_rev a3).imp fun _ _ h => BdAt.tk (.of_same (s1.trans sR)) h
  have lb := a3.length
  refine for_list (xs := us.reverse) (fun i σ H' => ∃ (u : V) (kd nm : Option V), σ = [some (.ref d.1), some u, kd, nm] ∧ Same (upd H1 R (.lst us.reverse)) H' ∧ FmAt K H' u ((v.binders.reverse.take i).foldl (fun f p => Fm.qu p.1 p.2 f) (baseF v.joint v.rows))) ⟨u, none, none, rfl, Same.refl _, hu.tk (.of_same sR)⟩ (fun i σ H' _ ⟨_, _, _, _, h, _⟩ => SqL.of (h _ _ upd_same)) ?_ ?_
  · rintro i x σ H2 hi ⟨u, kd, nm, rfl, s2, hu2⟩
    obtain ⟨⟨b, y⟩, hg, a, rfl, hx⟩ := (hB.imp fun _ _ h => BdAt.tk (.of_same s2) h).get hi
    refine ⟨a, _, rfl, hx, rfl, _, _, rfl, _, _, rfl, rfl, ?_⟩
    refine ⟨_, rfl, _, rfl, _, rfl, l3, fun p np => ⟨_, _, _, rfl, s2.trans (same_new np _), ?_⟩⟩
    rw [List.take_succ, hg, List.foldl_append]
    exact mk_qu hu2 np
  · rintro σ H2 ⟨u, kd, nm, rfl, s2, hu2⟩
    rw [List.length_reverse, lb, ← List.length_reverse (as := v.binders), List.take_length, wrap_fold, List.reverse_reverse] at hu2
    exact ⟨_, rfl, q u H2 (s1.trans (sR.trans s2)) hu2⟩
end
end K2

set_option Elab.async false
set_option linter.all false
set_option maxRecDepth 100000
set_option maxHeartbeats 4000000
namespace K2
open PySem L2 Fo
open C8 (Cal pe_c pss_cut Met pe_mt pe_mt0)
section
variable {P : Program} {w : World} {K : PySem.W.Frag} {mg : Str → Option Value} {base : Heap}
def Ended (L' : List Nat) (stk' : List Lv) (F : Fm) : Prop := (L' = [] ∧ ∃ v, stk' = [v] ∧ v.rows ≠ [] ∧ F = v.whole) ∨ ∃ b L1 v rest, L' = sgc b :: L1 ∧ stk' = v :: rest ∧ (v.joint = none ∨ v.joint = some b) ∧ Ro L1 ({ v with joint := some b } :: rest) F
def spClose (K : PySem.W.Frag) (C C2 : Addr) : Sp := fun vs H Q _ => ∃ (H0 : Hp) (r A : Addr) (L : List Nat) (ads : List Ad) (stk : List Lv) (F : Fm), vs = [.ref r, .ref A] ∧ RS K C C2 H0 H r A ads stk L ∧ Aft L stk F ∧ wts stk + L.length ≤ 9001 ∧
  ∀ (H' : Hp) (L' : List Nat) (ads' : List Ad) (stk' : List Lv), RS K C C2 H0 H' r A ads' stk' L' → L'.length ≤ L.length → wts stk' + L'.length ≤ 9001 → Ended L' stk' F → Q .non H'
abbrev nClose : List Str := ["reader", "levels", "closed"]
theorem scClose : FnScope nClose ["reader", "levels"] (defScope sClose) := ⟨rfl, rfl, rfl, by decide +kernel, rfl, by decide +kernel, by decide +kernel⟩
theorem lvs_len {C2 : Addr} {H : Hp} {ads : List Ad} {stk : List Lv} (h : All2 (LvAt K C2 H) ads stk) : (ads.reverse.map fun d : Ad => V.ref d.1).length = stk.length := by
  rw [List.length_map, List.length_reverse, h.length]
theorem at_m1 {α : Type} (xs : List α) (x : α) : atI (xs ++ [x]) (-1) = some x := by
  unfold atI ixN
  rw [List.length_append, List.length_singleton, if_neg (by decide), if_pos (by omega)]
  show (xs ++ [x])[(-1 + ((xs.length + 1 : Nat) : Int)).toNat]? = some x
  rw [show (-1 + ((xs.length + 1 : Nat) : Int)).toNat = xs.length by omega]
  simp
theorem ok_close {f C C2 : Addr} {fd : FuncData} (B : Bt mg) (R : Rdr P w K mg base C) (T : LvT K C2) (cWhole : Cal P w K mg base 1 "whole" (spWhole K C2) []) (cDenied : Cal P w K mg base 1 "denied" (spDenied K) []) (F : Fun K "close_levels" "close_levels" sClose f fd) : FnOk P w K mg base CX0 4 f fd ["reader", "levels"] (spClose K C C2) := by
  refine F.ok scClose (fun vs H Q E h => ?_) (fun cdv A outer s H vs Q E hr h => ?_)
  · obtain ⟨H0, r, A, L, ads, stk, F, rfl, _⟩ := h
    rfl
  obtain ⟨H0, r, A, L, ads, stk, F, rfl, z, hA, hw, q⟩ := h
  have nd := scClose.nd
  refine ⟨_, (pss_one (ps_while PassesOwn.never (PW.pt (pw_and (pt_cmpR op_eq (pe_mt0 R.next hr (by decide) (pv 0)) pe_str (nomark _)) (pw_and1 (pt_cmpR op_gt (pe_callB call_len_seq rfl B.len PySem.boot_len (pa_cons (pv 1) pa_nil)) pe_int (nomark _))))) (pss_cons (ps_expr (pe_mt R.sign hr (by decide) (pv 0) (pa_cons pe_str pa_nil)))
    (pss_cons (ps_set (i := 2) nd rfl (.inl rfl) (pe_bm0 PySem.F.plainAttrs_list PySem.F.slot_list_pop PySem.F.type_list_pop mt_pop (pv 1)))
    (pss_one (ps_expr (pe_bm PySem.F.plainAttrs_list PySem.F.slot_list_append PySem.F.type_list_append mt_append (pe_fld (pe_ix ix_list (pv 1) (pe_un un_neg pe_int) (fun _ _ => rfl)) rfl) (pa_cons (pe_c cDenied hr (by decide) rfl (pa_cons (pe_c cWhole hr (by decide) rfl (pa_cons (pv 2) pa_nil)) (pa_cons (pe_fld (pv 2) rfl) pa_nil))) pa_nil)))))))), ?_⟩
  refine ⟨fun m σ H' => ∃ (M : List Nat) (ads1 : List Ad) (stk1 : List Lv) (cl : Option V), σ = [some (.ref r), some (.ref A), cl] ∧ RS K C C2 H0 H' r A ads1 stk1 M ∧ Aft M stk1 F ∧ M.length ≤ L.length ∧ wts stk1 + M.length ≤ 9001 ∧ m = M.length, ⟨_, L, ads, stk, none, rfl, z, hA, Nat.le_refl _, hw, rfl⟩, ?_⟩
  rintro m σ H1 ⟨M, ads1, stk1, cl, rfl, z1, hA1, hl1, hw1, rfl⟩
  obtain ⟨dx, fs, h1, hn⟩ := rd_ins z1.rd
  have sl := skip_len M
  refine ⟨_, rfl, r, dx, fs, rfl, h1, hn _ (by decide +kernel) (by decide +kernel), r, M, rfl, z1.rd, fun H2 b2 hM2 => ?_⟩
  have z2 := z1.rdr b2 hM2
  refine ⟨rfl, _, rfl, ?_⟩
  rw [par2_S, S_iff]
  cases hA1 with
  | fin e hne =>
    rw [e] at z2 ⊢
    rw [show decide (([] : List Nat).take 1 = [41]) = false from rfl]
    exact q H2 [] _ _ z2 (by simp) (by rw [List.length_nil]; omega) (.inl ⟨rfl, _, rfl, hne, rfl⟩)
  | @joint _ L1 v rest _ b e hj hRo =>
    rw [e] at z2 sl ⊢
    rw [show decide ((sgc b :: L1).take 1 = [41]) = false from decide_eq_false (by cases b <;> simp [sgc])]
    exact q H2 _ _ _ z2 (by omega) (by omega) (.inr ⟨b, L1, v, rest, rfl, rfl, hj, hRo⟩)
  | @close _ L1 v v2 rest _ e hne hA2 =>
    rw [e] at z2 sl ⊢
    rw [show decide ((41 :: L1).take 1 = [41]) = true from decide_eq_true (by simp)]
    have ln := lvs_len z2.lv
    refine ⟨_, rfl, A, _, rfl, .inl (SqL.of z2.ls), ?_⟩
    obtain ⟨d, d2, ads, rfl⟩ : ∃ d d2 ads, ads1 = d :: d2 :: ads := by
      have := z2.lv
      cases this with
      | cons _ t => cases t with
        | cons _ t => exact ⟨_, _, _, rfl⟩
    refine ⟨_, _, rfl, rfl, true, congrArg V.bl (decide_eq_true (by rw [ln, List.length_cons, List.length_cons]; omega)), ⟨_, fun σ' H' h => h, ?_⟩⟩
    obtain ⟨dx2, fs2, h2, hn2⟩ := rd_ins z2.rd
    refine ⟨_, rfl, r, dx2, fs2, rfl, h2, hn2 _ (by decide +kernel) (by decide +kernel), r, [41], 41 :: L1, L1, rfl, z2.rd, skip_cons (by decide), fun H3 b3 hM3 => ?_⟩
    have z3 := z2.rdr b3 hM3
    have ls3 := z3.ls
    rw [rev_snoc] at ls3
    refine ⟨_, rfl, .inl ⟨rfl, _, SqL.of ls3⟩, A, _, _, rfl, rfl, ls3, at_last _ _, ?_⟩
    rw [drop_last]
    obtain ⟨z4, hv4⟩ := z3.pop
    generalize upd H3 A (.lst ((d2 :: ads).reverse.map fun d => V.ref d.1)) = H4 at *
    have ls4 := z4.ls
    rw [rev_snoc] at ls4
    obtain ⟨dx4, us4, ws4, y1, y2, y3, y4, y5⟩ : LvAt K C2 H4 d2 v2 := by
      have := z4.lv
      cases this with
      | cons a _ => exact a
    rw [List.length_cons] at sl
    have wv : wts (v :: v2 :: rest) = (1 + v.nots + v.binders.length + v.rows.length) + ((1 + v2.nots + v2.binders.length + v2.rows.length) + wts rest) := rfl
    rw [wv] at hw1
    have pr : 1 ≤ v.rows.length := List.length_pos_iff.mpr hne
    refine ⟨_, rfl, _, rfl, A, _, _, _, rfl, rfl, SqL.of ls4, at_m1 _ _, d2.1, C2, dx4, _, _, rfl, y1, T.cl, T.nr, lf_rows _ _ _ _, .inl ⟨rfl, _, SqL.of y4⟩, ?_⟩
    refine ⟨_, rfl, d, v, rfl, hv4, hne, by omega, by omega, fun u H5 s5 hu => ?_⟩
    obtain ⟨dx5, us5, ws5, x1, _⟩ := hv4
    refine ⟨_, rfl, d.1, C2, dx5, _, _, rfl, s5 _ _ x1, T.cl, T.nn, lf_nots _ _ _ _, u, v.nots, v.whole, rfl, hu, by omega, fun u' H6 s6 hu' => ?_⟩
    have y4' := s6 _ _ (s5 _ _ y4)
    have l5 := y5.length
    refine ⟨d2.2.2, _, _, rfl, rfl, y4', lineOk (by omega), ?_⟩
    have z6 := (z4.same (s5.trans s6)).row y4' hu'
    refine ⟨L1.length, by omega, L1, d2 :: ads, _, _, rfl, z6, hA2, by omega, ?_, rfl⟩
    show (1 + v2.nots + v2.binders.length + (v2.rows ++ [negs v.nots v.whole]).length) + wts rest + L1.length ≤ 9001
    rw [List.length_append, List.length_singleton]
    omega
/-! ### read_joint -/
def spJoint (K : PySem.W.Frag) (C C2 : Addr) : Sp := fun vs H Q _ => ∃ (H0 : Hp) (r A : Addr) (L1 : List Nat) (d : Ad) (ads : List Ad) (v : Lv) (stk : List Lv) (b : Bool), vs = [.ref r, .ref d.1] ∧ RS K C C2 H0 H r A (d :: ads) (v :: stk) (sgc b :: L1) ∧ (v.joint = none ∨ v.joint = some b) ∧
  ∀ (H' : Hp), RS K C C2 H0 H' r A (d :: ads) ({ v with joint := some b } :: stk) L1 → Q .non H'
abbrev nJoint : List Str := ["reader", "level", "joint"]
theorem scJoint : FnScope nJoint ["reader", "level"] (defScope sJoint) := ⟨rfl, rfl, rfl, by decide +kernel, rfl, by decide +kernel, by decide +kernel⟩
theorem sg1_S (b : Bool) : sg1 b = S [sgc b] := by cases b <;> decide +kernel
theorem ok_joint {f C C2 dK : Addr} {fd : FuncData} (B : Bt mg) (R : Rdr P w K mg base C) (T : LvT K C2) (hK : mg "KINDS" = some (.ref dK)) (kn : Kn K w dK) (F : Fun K "read_joint" "read_joint" sJoint f fd) : FnOk P w K mg base CX0 4 f fd ["reader", "level"] (spJoint K C C2) := by
  refine F.ok scJoint (fun vs H Q E h => ?_) (fun cdv A outer s H vs Q E hr h => ?_)
  · obtain ⟨H0, r, A, L1, d, ads, v, stk, b, rfl, _⟩ := h
    rfl
  obtain ⟨H0, r, A, L1, d, ads, v, stk, b, rfl, z, hj, q⟩ := h
  have nd := scJoint.nd
  obtain ⟨es, n, KD, ku⟩ := kn.inn
  refine ⟨_, (pss_cons (ps_set (i := 2) nd rfl (.inl rfl) (pe_mt0 R.next hr (by decide) (pv 0)))
    (pss_cons (ps_if (PW.pt (pw_or (pt_cmpR (op_notIn_kd KD) (pv 2) (pe_glob (v := .ref dK) rfl hK rfl) rfl) (pw_or1 (pt_cmpR op_notIn_seq (pe_fld (pv 1) rfl) (pe_tup (pa_cons pe_non (pa_cons (pv 2) pa_nil))) rfl)))) (pss_one ps_never) pss_nil)
    (pss_cons (ps_expr (pe_mt R.sign hr (by decide) (pv 0) (pa_cons (pv 2) pa_nil)))
    (pss_one (ps_fld (pv 1) (pv 2) rfl))))), ?_⟩
  obtain ⟨dx, fs, h1, hn⟩ := rd_ins z.rd
  refine ⟨_, rfl, r, dx, fs, rfl, h1, hn _ (by decide +kernel) (by decide +kernel), r, _, rfl, z.rd, fun H1 b1 hM1 => ?_⟩
  have es : skip (sgc b :: L1) = sgc b :: L1 := skip_cons (by cases b <;> decide)
  rw [es] at hM1 ⊢
  have z1 := z.rdr b1 hM1
  have e1 : S ((sgc b :: L1).take 1) = sg1 b := by rw [sg1_S]; rfl
  rw [e1]
  obtain ⟨u0, hu0⟩ := ku b
  obtain ⟨dx1, us, ws, y1, y2, y3, y4, y5⟩ : LvAt K C2 H1 d v := by
    have := z1.lv
    cases this with
    | cons a _ => exact a
  refine ⟨_, rfl, _, _, rfl, rfl, hu0, false, rfl, ?_⟩
  refine ⟨_, rfl, d.1, C2, dx1, _, _, rfl, y1, T.cl, T.nj, lf_joint _ _ _ _, _, rfl, l2, fun T' nT => ?_⟩
  have sT := same_new nT (.tup [V.non, .str (sg1 b)])
  have z2 := z1.same sT
  have y1' := sT _ _ y1
  have ht : SqT K (upd H1 T' (.tup [V.non, .str (sg1 b)])) T' [V.non, .str (sg1 b)] := SqT.of upd_same
  generalize upd H1 T' (.tup [V.non, .str (sg1 b)]) = H2 at *
  refine ⟨T', _, rfl, .inr ht, ?_, rfl, false, ?_, ?_⟩
  · rcases hj with h | h <;> rw [h] <;> rfl
  · have : inV (jv v.joint) [V.non, .str (sg1 b)] = true := by
      rcases hj with h | h <;> rw [h]
      · rfl
      · simp only [jv, inV, List.any_cons, List.any_nil, Bool.or_false, Bool.or_eq_true]
        right
        show (sg1 b == sg1 b) = true
        exact beq_self_eq_true _
    show V.bl (!inV (jv v.joint) [V.non, .str (sg1 b)]) = V.bl false
    rw [this]
    rfl
  obtain ⟨dx2, fs2, h2, hn2⟩ := rd_ins z2.rd
  refine ⟨_, rfl, r, dx2, fs2, rfl, h2, hn2 _ (by decide +kernel) (by decide +kernel), _, rfl, r, [sgc b], sgc b :: L1, L1, by rw [sg1_S]; rfl, z2.rd, es, fun H3 b3 hM3 => ?_⟩
  have z3 := z2.rdr b3 hM3
  have ner : d.1 ≠ r := by
    have n := z.nd
    rw [fl_cons] at n
    simp only [List.nodup_cons, List.mem_cons, not_or] at n
    exact Ne.symm n.1.2.1
  refine ⟨_, rfl, _, rfl, d.1, C2, dx1, _, rfl, b3 _ _ ner y1', T.cl, T.nj, (by show 4 < 1000; decide), ?_⟩
  rw [lf_put]
  exact q _ (z3.jt b (b3 _ _ ner y1'))
end
end K2

set_option Elab.async false
set_option linter.all false
set_option maxRecDepth 100000
set_option maxHeartbeats 4000000
namespace K2
open PySem L2 Fo
open C8 (Cal pe_c pss_cut Met Mak pe_mt pe_mt0 pe_mk)
section
variable {P : Program} {w : World} {K : PySem.W.Frag} {mg : Str → Option Value} {base : Heap}
theorem some_of {H : Hp} {a : Addr} {o : HO} (h : H a = some o) {x : Addr} (n : H x = none) : a ≠ x := ne_of_none h n
theorem mk_lv {C C2 r F a dx R : Addr} {H H2 H3 : Hp} {L1 L2 : List Nat} {us : List V} {bs : List (Bool × Str)} {k : Nat} (hR : RdAt C H r L1) (b2 : But r H H2) (hR2 : RdAt C H2 r L2) (nF : H F = none) (hF : H2 F = some (.lst us)) (hus : All2 (BdAt K H2) us bs)
    (na : H2 a = none) (ndx : H2 dx = none) (nda : dx ≠ a) (b3 : But a (upd (upd H2 dx (.own a)) a (.ins C2 dx [])) H3) (nR : (upd (upd H2 dx (.own a)) a (.ins C2 dx [])) R = none) (hA : H3 a = some (.ins C2 dx (lflds (k : Int) F .non R))) (hR3 : H3 R = some (.lst [])) :
    But r H H3 ∧ RdAt C H3 r L2 ∧ LvAt K C2 H3 (a, F, R) ⟨k, bs, none, []⟩ ∧ (H a = none ∧ H F = none ∧ H R = none) ∧ a ≠ F ∧ a ≠ R ∧ F ≠ R := by
  have nRa : R ≠ a := by intro z; rw [z, upd_same] at nR; cases nR
  have nRd : R ≠ dx := by intro z; rw [z, upd_ne nda, upd_same] at nR; cases nR
  have nR2 : H2 R = none := by rw [upd_ne nRa, upd_ne nRd] at nR; exact nR
  have s1 : Same H2 (upd (upd H2 dx (.own a)) a (.ins C2 dx [])) := (same_new ndx _).trans (same_new (by rw [upd_ne (Ne.symm nda)]; exact na) _)
  have s3 : Same H2 H3 := same_but s1 b3 na
  have old : ∀ x, H2 x = none → H x = none := fun x hx => by
    cases e : H x with
    | none => rfl
    | some o =>
      by_cases z : x = r
      · obtain ⟨dx', t, p, h, _⟩ := hR2
        rw [z, h] at hx; cases hx
      · rw [b2 _ _ z e] at hx; cases hx
  refine ⟨fun b o ne h => s3 _ _ (b2 _ _ ne h), rd_same hR2 s3, ⟨dx, us, [], hA, s3 _ _ hF, hus.imp fun _ _ h => BdAt.tk (.of_same s3) h, hR3, .nil⟩, ⟨old a na, nF, old R nR2⟩, (some_of hF na).symm, nRa.symm, some_of hF nR2⟩
theorem RS.notin {C C2 : Addr} {H0 H : Hp} {r A : Addr} {ads : List Ad} {stk : List Lv} {L : List Nat} (z : RS K C C2 H0 H r A ads stk L) {x : Addr} (n : H x = none) : x ∉ r :: A :: fl ads := by
  have hl : ∀ {ads : List Ad} {stk : List Lv}, All2 (LvAt K C2 H) ads stk → x ∉ fl ads := by
    intro ads stk h
    induction h with
    | nil => simp [fl]
    | @cons d v ads stk h _ ih =>
      obtain ⟨dx, us, ws, a1, a2, _, a4, _⟩ := h
      rw [fl_cons]
      simp only [List.mem_cons, not_or]
      exact ⟨(some_of a1 n).symm, (some_of a2 n).symm, (some_of a4 n).symm, ih⟩
  obtain ⟨dx, t, p, h, _⟩ := z.rd
  simp only [List.mem_cons, not_or]
  exact ⟨(some_of h n).symm, (some_of z.ls n).symm, hl z.lv⟩
def spRead (K : PySem.W.Frag) : Sp := fun vs H Q _ => ∃ (t : Str) (bs : List (Bool × Str)) (L' : List Nat) (F : Fm), vs = [.str t] ∧ t.length ≤ 9000 ∧ BindR (ls t) bs L' ∧ Ro L' [⟨0, bs, none, []⟩] F ∧ ∀ (u : V) (H' : Hp), Same H H' → FmAt K H' u F → Q u H'
abbrev nRead : List Str := ["text", "reader", "levels", "nots"]
theorem scRead : FnScope nRead ["text"] (defScope sRead) := ⟨rfl, rfl, rfl, by decide +kernel, rfl, by decide +kernel, by decide +kernel⟩
theorem e_S : Str.ofString "" = S [] := by decide +kernel
theorem ok_read {f C C2 : Addr} {fd : FuncData} (B : Bt mg) (R : Rdr P w K mg base C) (T : LvT K C2) (mReader : Mak P w K mg base 1 "Reader" C (spRInit C) []) (mLevel : Mak P w K mg base 1 "Level" C2 (spLInit C2) [])
    (cBinders : Cal P w K mg base 4 "read_binders" (spBinders K C) []) (cNots : Cal P w K mg base 4 "read_nots" (spNots C) []) (cPlain : Cal P w K mg base 5 "read_plain" (spPlain K C) []) (cDenied : Cal P w K mg base 1 "denied" (spDenied K) []) (cClose : Cal P w K mg base 4 "close_levels" (spClose K C C2) []) (cWhole : Cal P w K mg base 1 "whole" (spWhole K C2) []) (cJoint : Cal P w K mg base 4 "read_joint" (spJoint K C C2) [])
    (F : Fun K "read" "read" sRead f fd) : FnOk P w K mg base CX0 6 f fd ["text"] (spRead K) := by
  refine F.ok scRead (fun vs H Q E h => ?_) (fun cdv A outer s H vs Q E hr h => ?_)
  · obtain ⟨t, bs, L', F, rfl, _⟩ := h
    rfl
  obtain ⟨t, bs, L', F, rfl, ht, hB, hRo, q⟩ := h
  have nd := scRead.nd
  refine ⟨_, (pss_cons (ps_set (i := 1) nd rfl (.inl rfl) (pe_mk mReader hr (by decide) rfl (pa_cons (pv 0) pa_nil)))
    (pss_cons (ps_set (i := 2) nd rfl (.inl rfl) (pe_lst (pa_cons (pe_mk mLevel hr (by decide) rfl (pa_cons pe_int (pa_cons (pe_c cBinders hr (by decide) rfl (pa_cons (pv 1) pa_nil)) pa_nil))) pa_nil)))
    (pss_one (ps_while PassesOwn.never (pt_truth pe_bl (by intro _; rfl)) (pss_cons (ps_set (i := 3) nd rfl (.inl rfl) (pe_c cNots hr (by decide) rfl (pa_cons (pv 1) pa_nil)))
    (pss_cons (ps_if (pt_cmpR op_eq (pe_mt0 R.next hr (by decide) (pv 1)) pe_str (nomark _)) (pss_cons (ps_expr (pe_mt R.sign hr (by decide) (pv 1) (pa_cons pe_str pa_nil)))
    (pss_cons (ps_expr (pe_bm PySem.F.plainAttrs_list PySem.F.slot_list_append PySem.F.type_list_append mt_append (pv 2) (pa_cons (pe_mk mLevel hr (by decide) rfl (pa_cons (pv 3) (pa_cons (pe_c cBinders hr (by decide) rfl (pa_cons (pv 1) pa_nil)) pa_nil))) pa_nil)))
    (pss_one ps_continue))) pss_nil)
    (pss_cons (ps_expr (pe_bm PySem.F.plainAttrs_list PySem.F.slot_list_append PySem.F.type_list_append mt_append (pe_fld (pe_ix ix_list (pv 2) (pe_un un_neg pe_int) (fun _ _ => rfl)) rfl) (pa_cons (pe_c cDenied hr (by decide) rfl (pa_cons (pe_c cPlain hr (by decide) rfl (pa_cons (pv 1) pa_nil)) (pa_cons (pv 3) pa_nil))) pa_nil)))
    (pss_cons (ps_expr (pe_c cClose hr (by decide) rfl (pa_cons (pv 1) (pa_cons (pv 2) pa_nil))))
    (pss_cons (ps_if (PW.pt (pw_and (pt_cmpR op_eq (pe_mt0 R.next hr (by decide) (pv 1)) pe_str (nomark _)) (pw_and1 (pt_cmpR op_eq (pe_callB call_len_seq rfl B.len PySem.boot_len (pa_cons (pv 2) pa_nil)) pe_int (nomark _))))) (pss_one (ps_ret (pe_c cWhole hr (by decide) rfl (pa_cons (pe_ix ix_list (pv 2) pe_int (fun _ _ => rfl)) pa_nil)))) pss_nil)
    (pss_one (ps_expr (pe_c cJoint hr (by decide) rfl (pa_cons (pv 1) (pa_cons (pe_ix ix_list (pv 2) (pe_un un_neg pe_int) (fun _ _ => rfl)) pa_nil)))))))))))))), ?_⟩
  have lt : (ls t).length ≤ 9000 := ht
  have lB := bindR_len hB
  refine ⟨_, rfl, fun r dx nr ndx ne => ⟨r, dx, t, rfl, upd_same, ht, fun H1 b1 hR1 => ⟨rfl, ?_⟩⟩⟩
  have s1 : Same H H1 := same_but ((same_new ndx _).trans (same_new (by rw [upd_ne ne.symm]; exact nr) _)) b1 nr
  refine ⟨_, rfl, r, ls t, L', bs, rfl, hR1, hB, by omega, fun Fb us H2 b2 hR2 nF hF hus => ?_⟩
  refine fun a dx2 na ndx2 ne2 => ⟨a, dx2, 0, Fb, rfl, upd_same, fun H3 Rr b3 nR hA3 hR3 => ⟨rfl, l1, fun A nA => ?_⟩⟩
  obtain ⟨m1, m2, m3, ⟨m4, m5, m6⟩, m7, m8, m9⟩ := mk_lv (k := 0) hR1 b2 hR2 nF hF hus na ndx2 ne2 b3 nR hA3 hR3
  have s3 : Same H H3 := same_but s1 m1 nr
  have sA := same_new nA (.lst [.ref a])
  have z0 : RS K C C2 H (upd H3 A (.lst [.ref a])) r A [(a, Fb, Rr)] [⟨0, bs, none, []⟩] L' := by
    obtain ⟨dx5, us5, ws5, x1, x2, x3, x4, x5⟩ := id m3
    obtain ⟨dxr, tr, pr, hr1, _⟩ := id m2
    have hr0 := hR1
    obtain ⟨dxq, tq, pq, hq1, _⟩ := hr0
    refine ⟨rd_same m2 sA, upd_same, .cons (m3.fr (but_upd A H3 _) (.of_same sA) (some_of x1 nA) (some_of x2 nA) (some_of x4 nA)) .nil, ?_, s3.trans sA, ?_⟩
    · show (r :: A :: [a, Fb, Rr]).Nodup
      simp only [List.nodup_cons, List.mem_cons, List.not_mem_nil, or_false, not_or, not_false_eq_true, List.nodup_nil, and_true]
      exact ⟨⟨some_of hr1 nA, some_of hq1 m4, some_of hq1 m5, some_of hq1 m6⟩, ⟨(some_of x1 nA).symm, (some_of x2 nA).symm, (some_of x4 nA).symm⟩, ⟨m7, m8⟩, m9⟩
    · intro x hx
      have hx' : x = r ∨ x = A ∨ x = a ∨ x = Fb ∨ x = Rr := by simpa [fl] using hx
      rcases hx' with rfl | rfl | rfl | rfl | rfl
      · exact nr
      · exact s3.free nA
      · exact s1.free m4
      · exact s1.free m5
      · exact s1.free m6
  generalize upd H3 A (.lst [.ref a]) = H4 at z0 ⊢
  refine ⟨fun m σ H' => ∃ (M : List Nat) (ads : List Ad) (stk : List Lv) (nt : Option V), σ = [some (.str t), some (.ref r), some (.ref A), nt] ∧ RS K C C2 H H' r A ads stk M ∧ Ro M stk F ∧ wts stk + M.length ≤ 9001 ∧ stk ≠ [] ∧ m = M.length, ⟨_, L', _, _, none, rfl, z0, hRo, by show (1 + 0 + bs.length + 0) + 0 + L'.length ≤ 9001; omega, by simp, rfl⟩, ?_⟩
  rintro m σ H5 ⟨M, ads, stk, nt, rfl, z, hRo, hw, hst, rfl⟩
  refine ⟨true, rfl, ⟨_, fun σ' H' h => h, ?_⟩⟩
  refine ⟨_, rfl, r, M, rfl, z.rd, fun H6 b6 hM6 => ?_⟩
  have z6 := z.rdr b6 hM6
  have nl := nots_len M
  have no := nots_out M
  obtain ⟨dx6, fs6, h6, hn6⟩ := rd_ins z6.rd
  refine ⟨_, rfl, r, dx6, fs6, rfl, h6, hn6 _ (by decide +kernel) (by decide +kernel), r, _, rfl, z6.rd, fun H7 b7 hM7 => ?_⟩
  rw [no] at hM7 ⊢
  have z7 := z6.rdr b7 hM7
  obtain ⟨dx7, fs7, h7, hn7⟩ := rd_ins z7.rd
  refine ⟨rfl, _, rfl, ?_⟩
  rw [par_S, S_iff]
  cases hRo with
  | @opn _ L1 L2 _ _ k bs1 en hB1 hRo2 =>
    rw [en] at z7 nl ⊢
    have nl' : k + (L1.length + 1) ≤ M.length := nl
    have lB1 := bindR_len hB1
    show (if decide ((40 :: L1).take 1 = [40]) = true then _ else _)
    rw [show decide ((40 :: L1).take 1 = [40]) = true from decide_eq_true (by simp)]
    refine ⟨_, rfl, r, dx7, fs7, rfl, h7, hn7 _ (by decide +kernel) (by decide +kernel), r, [40], 40 :: L1, L1, rfl, z7.rd, skip_cons (by decide), fun H8 b8 hM8 => ?_⟩
    have z8 := z7.rdr b8 hM8
    refine ⟨_, rfl, .inl ⟨rfl, _, SqL.of z8.ls⟩, _, rfl, _, rfl, r, L1, L2, bs1, rfl, z8.rd, hB1, by omega, fun Fb us H9 b9 hM9 nF hF hus => ?_⟩
    refine fun a dx9 na ndx nda => ⟨a, dx9, (k : Int), Fb, rfl, upd_same, fun H10 Rr b10 nR hA10 hR10 => ⟨rfl, ?_⟩⟩
    obtain ⟨m1, m2, m3, ⟨m4, m5, m6⟩, m7, m8, m9⟩ := mk_lv (k := k) z8.rd b9 hM9 nF hF hus na ndx nda b10 nR hA10 hR10
    have z10 := z8.rdr m1 m2
    have f1 := z8.notin m4
    have f2 := z8.notin m5
    have f3 := z8.notin m6
    have ln := lvs_len z10.lv
    have lw : stk.length ≤ 9001 := by
      have : ∀ l : List Lv, l.length ≤ wts l := by
        intro l
        induction l with
        | nil => exact Nat.le_refl _
        | cons v l ih => show _ ≤ 1 + v.nots + v.binders.length + v.rows.length + wts l; rw [List.length_cons]; omega
      have := this stk
      omega
    refine ⟨A, _, _, rfl, rfl, z10.ls, lineOk (by omega), ?_⟩
    have z11 := z10.push (d := (a, Fb, Rr)) m3 ⟨z8.s.free m4, z8.s.free m5, z8.s.free m6⟩ (by
      simp only [List.nodup_cons]
      have nd10 := z10.nd
      simp only [List.nodup_cons] at nd10
      exact ⟨by simp only [List.mem_cons, not_or] at f1 ⊢; exact ⟨m7, m8, f1⟩, by simp only [List.mem_cons, not_or] at f2 ⊢; exact ⟨m9, f2⟩, f3, nd10⟩)
    refine ⟨L2.length, by omega, L2, _, _, _, rfl, z11, hRo2, ?_, by simp, rfl⟩
    show (1 + k + bs1.length + 0) + wts stk + L2.length ≤ 9001
    omega
  | @pln _ L1 L2 _ _ g k en h40 hP hA =>
    rw [en] at z7 nl ⊢
    have nl' : k + L1.length ≤ M.length := nl
    have lP := plainR_len hP
    show (if decide (L1.take 1 = [40]) = true then _ else _)
    rw [show decide (L1.take 1 = [40]) = false from decide_eq_false (fun z => h40 (by cases L1 with
      | nil => cases z
      | cons c L => simpa using z))]
    obtain ⟨d, ads', v, stk', rfl, rfl⟩ : ∃ d ads' v stk', ads = d :: ads' ∧ stk = v :: stk' := by
      have := z7.lv
      cases this with
      | nil => exact absurd rfl hst
      | cons _ _ => exact ⟨_, _, _, _, rfl, rfl⟩
    have ls7 := z7.ls
    rw [rev_snoc] at ls7
    obtain ⟨dx8, us8, ws8, y1, y2, y3, y4, y5⟩ : LvAt K C2 H7 d v := by
      have := z7.lv
      cases this with
      | cons a _ => exact a
    have ner : d.2.2 ≠ r := by
      have n := z.nd
      rw [fl_cons] at n
      simp only [List.nodup_cons, List.mem_cons, not_or] at n
      exact Ne.symm n.1.2.2.2.1
    have wv : wts (v :: stk') = (1 + v.nots + v.binders.length + v.rows.length) + wts stk' := rfl
    rw [wv] at hw
    refine ⟨_, rfl, _, rfl, A, _, _, _, rfl, rfl, SqL.of ls7, at_m1 _ _, d.1, C2, dx8, _, _, rfl, y1, T.cl, T.nr, lf_rows _ _ _ _, .inl ⟨rfl, _, SqL.of y4⟩, ?_⟩
    refine ⟨_, rfl, r, L1, L2, g, rfl, z7.rd, hP, fun u H8 b8 hM8 hu => ?_⟩
    have z8 := z7.rdr b8 hM8
    refine ⟨_, rfl, u, k, g, rfl, hu, by omega, fun u' H9 s9 hu' => ?_⟩
    have y4' := s9 _ _ (b8 _ _ ner y4)
    have l5 := y5.length
    refine ⟨d.2.2, _, _, rfl, rfl, y4', lineOk (by omega), ?_⟩
    have z10 := (z8.same s9).row y4' hu'
    have hw10 : wts ({ v with rows := v.rows ++ [negs k g] } :: stk') + L2.length ≤ 9001 := by
      show (1 + v.nots + v.binders.length + (v.rows ++ [negs k g]).length) + wts stk' + L2.length ≤ 9001
      rw [List.length_append, List.length_singleton]
      omega
    refine ⟨_, rfl, _, rfl, H, r, A, L2, _, _, F, rfl, z10, hA, hw10, fun H11 L6 ads6 stk6 z11 hl6 hw6 hE => ?_⟩
    obtain ⟨dx11, fs11, h11, hn11⟩ := rd_ins z11.rd
    refine ⟨_, rfl, r, dx11, fs11, rfl, h11, hn11 _ (by decide +kernel) (by decide +kernel), r, _, rfl, z11.rd, fun H12 b12 hM12 => ?_⟩
    have z12 := z11.rdr b12 hM12
    refine ⟨rfl, _, rfl, ?_⟩
    rw [e_S, S_iff]
    rcases hE with ⟨rfl, v', rfl, hne, rfl⟩ | ⟨b, L7, v', rest, rfl, rfl, hj, hRo7⟩
    · rw [show decide ((skip []).take 1 = []) = true from rfl]
      obtain ⟨d', rfl⟩ : ∃ d', ads6 = [d'] := by
        have := z12.lv
        cases this with
        | cons _ t => cases t with
          | nil => exact ⟨_, rfl⟩
      have hv' : LvAt K C2 H12 d' v' := by
        have := z12.lv
        cases this with
        | cons a _ => exact a
      have wv' : wts [v'] = (1 + v'.nots + v'.binders.length + v'.rows.length) + 0 := rfl
      rw [wv'] at hw6
      refine ⟨_, rfl, A, _, rfl, .inl (SqL.of z12.ls), rfl, _, rfl, ?_⟩
      refine ⟨_, rfl, A, _, _, _, rfl, rfl, SqL.of z12.ls, at_of (j := 0) rfl rfl, d', v', rfl, hv', hne, by omega, by omega, fun u8 H13 s13 hu8 => ?_⟩
      exact q u8 H13 (z12.s.trans s13) hu8
    · have es : skip (sgc b :: L7) = sgc b :: L7 := skip_cons (by cases b <;> decide)
      rw [es] at z12 ⊢
      rw [show decide ((sgc b :: L7).take 1 = []) = false from decide_eq_false (by simp)]
      obtain ⟨d', ads7, rfl⟩ : ∃ d' ads7, ads6 = d' :: ads7 := by
        have := z12.lv
        cases this with
        | cons _ t => exact ⟨_, _, rfl⟩
      have ls12 := z12.ls
      rw [rev_snoc] at ls12
      rw [List.length_cons] at hl6 hw6
      refine ⟨_, rfl, _, rfl, _, rfl, A, _, _, _, rfl, rfl, SqL.of ls12, at_m1 _ _, H, r, A, L7, d', ads7, v', rest, b, rfl, z12, hj, fun H13 z13 => ?_⟩
      refine ⟨L7.length, by omega, L7, _, _, _, rfl, z13, hRo7, ?_, by simp, rfl⟩
      show (1 + v'.nots + v'.binders.length + v'.rows.length) + wts rest + L7.length ≤ 9001
      have : wts (v' :: rest) = (1 + v'.nots + v'.binders.length + v'.rows.length) + wts rest := rfl
      omega
end
end K2

set_option Elab.async false
set_option linter.all false
set_option maxRecDepth 100000
set_option maxHeartbeats 4000000
namespace Fo
open PySem L2
namespace Fm
mutual
theorem plain_ct : ∀ f : Fm, ct (plain f) ≤ ct f
  | .rel n xs => by rw [plain]; exact Nat.le_refl _
  | .same x y => by rw [plain]; exact Nat.le_refl _
  | .neg f => by rw [plain, ct, ct]; have := plain_ct f; omega
  | .con b fs => by rw [plain, ct]; exact plainL_ct b fs
  | .qu b x f => by rw [plain, ct, ct]; have := plain_ct f; omega
theorem plainL_ct (b : Bool) : ∀ fs : List Fm, ct (plainL b fs) ≤ 1 + cts fs
  | [] => by rw [plainL]; exact Nat.le_refl _
  | [f] => by rw [plainL]; have := plain_ct f; rw [cts]; omega
  | f :: g :: fs => by
    rw [plainL, ct, cts, cts]
    have := plain_ct f
    have := plains_ct (g :: fs)
    omega
theorem plains_ct : ∀ fs : List Fm, cts (plains fs) ≤ cts fs
  | [] => by rw [plains]; exact Nat.le_refl _
  | f :: fs => by rw [plains, cts, cts]; have := plain_ct f; have := plains_ct fs; omega
end
mutual
theorem plain_dp : ∀ f : Fm, dp (plain f) ≤ dp f
  | .rel n xs => by rw [plain]; exact Nat.le_refl _
  | .same x y => by rw [plain]; exact Nat.le_refl _
  | .neg f => by rw [plain, dp, dp]; have := plain_dp f; omega
  | .con b fs => by rw [plain, dp]; exact plainL_dp b fs
  | .qu b x f => by rw [plain, dp, dp]; have := plain_dp f; omega
theorem plainL_dp (b : Bool) : ∀ fs : List Fm, dp (plainL b fs) ≤ dps fs
  | [] => by rw [plainL]; exact Nat.le_refl _
  | [f] => by rw [plainL]; have := plain_dp f; rw [dps]; omega
  | f :: g :: fs => by
    rw [plainL, dp, dps, dps]
    have := plain_dp f
    have := plains_dp (g :: fs)
    omega
theorem plains_dp : ∀ fs : List Fm, dps (plains fs) ≤ dps fs
  | [] => by rw [plains]; exact Nat.le_refl _
  | f :: fs => by rw [plains, dps, dps]; have := plain_dp f; have := plains_dp fs; omega
end
end Fm
mutual
theorem tree_dep : ∀ f : Fm, (tree f).dep ≤ 2 * f.dp + 2
  | .rel n xs => by
    rw [tree]
    have h : ∀ xs : List Str, Tr.deps (xs.map Tr.tx) ≤ 1 := by
      intro xs
      induction xs with
      | nil => exact Nat.zero_le _
      | cons x xs ih => rw [List.map_cons, Tr.deps, Tr.dep]; omega
    have := h xs
    rw [Tr.dep, Tr.deps, Tr.deps, Tr.deps, Tr.deps, Tr.dep, Tr.dep, Tr.dep]
    omega
  | .same x y => by rw [tree, Tr.dep, Tr.deps, Tr.deps, Tr.deps, Tr.deps, Tr.dep, Tr.dep, Tr.dep]; omega
  | .neg f => by
    have := tree_dep f
    rw [tree, Tr.dep, Tr.deps, Tr.deps, Tr.deps, Tr.dep, Fm.dp]; omega
  | .con b fs => by
    have := trees_dep fs
    rw [tree, Tr.dep, Tr.deps, Tr.deps, Tr.deps, Tr.dep, Tr.dep, Fm.dp]; omega
  | .qu b x f => by
    have := tree_dep f
    rw [tree, Tr.dep, Tr.deps, Tr.deps, Tr.deps, Tr.deps, Tr.dep, Tr.dep, Fm.dp]; omega
theorem trees_dep : ∀ fs : List Fm, Tr.deps (trees fs) ≤ 2 * Fm.dps fs + 1
  | [] => by rw [trees]; exact Nat.zero_le _
  | f :: fs => by
    have := tree_dep f
    have := trees_dep fs
    rw [trees, Tr.deps, Fm.dps]; omega
end
end Fo
namespace K2
open PySem L2 Fo
open C8 (Cal pe_c pss_cut)
mutual
theorem plain_wf : ∀ {f : Fm}, WF f → WF (Fm.plain f)
  | .rel n xs, h => by rw [Fm.plain]; exact h
  | .same x y, h => by rw [Fm.plain]; exact h
  | .neg f, h => by rw [WF] at h; rw [Fm.plain, WF]; exact plain_wf h
  | .con b fs, h => by rw [WF] at h; rw [Fm.plain]; exact plainL_wf b h
  | .qu b x f, h => by rw [WF] at h; rw [Fm.plain, WF]; exact ⟨h.1, plain_wf h.2⟩
theorem plainL_wf (b : Bool) : ∀ {fs : List Fm}, WFs fs → WF (Fm.plainL b fs)
  | [], h => by rw [Fm.plainL, WF, WFs]; trivial
  | [f], h => by rw [WFs] at h; rw [Fm.plainL]; exact plain_wf h.1
  | f :: g :: fs, h => by
    rw [WFs] at h
    rw [Fm.plainL, WF, WFs]
    exact ⟨plain_wf h.1, plains_wf h.2⟩
theorem plains_wf : ∀ {fs : List Fm}, WFs fs → WFs (Fm.plains fs)
  | [], h => by rw [Fm.plains]; exact h
  | f :: fs, h => by
    rw [WFs] at h
    rw [Fm.plains, WFs]
    exact ⟨plain_wf h.1, plains_wf h.2⟩
end
mutual
theorem tree_wid : ∀ {f : Fm}, WF f → (tree f).wid ≤ f.ct + 3
  | .rel n xs, h => by
    have hw : ∀ xs : List Str, Tr.wids (xs.map Tr.tx) = 0 := by
      intro xs
      induction xs with
      | nil => rfl
      | cons x xs ih => rw [List.map_cons, Tr.wids, Tr.wid, ih]; rfl
    have := hw xs
    have := h.2.2.1
    rw [tree, Tr.wid, Tr.wids, Tr.wids, Tr.wids, Tr.wids, Tr.wid, Tr.wid, Tr.wid, List.length_map]
    simp only [List.length_cons, List.length_nil]
    omega
  | .same x y, h => by
    rw [tree, Tr.wid, Tr.wids, Tr.wids, Tr.wids, Tr.wids, Tr.wid, Tr.wid, Tr.wid]
    simp only [List.length_cons, List.length_nil]
    omega
  | .neg f, h => by
    rw [WF] at h
    have := tree_wid h
    rw [tree, Tr.wid, Tr.wids, Tr.wids, Tr.wids, Tr.wid, Fm.ct]
    simp only [List.length_cons, List.length_nil]
    omega
  | .con b fs, h => by
    rw [WF] at h
    have := trees_wid h
    have := Fm.len_cts fs
    have : (trees fs).length = fs.length := by
      have hl : ∀ fs : List Fm, (trees fs).length = fs.length := by
        intro fs
        induction fs with
        | nil => rw [trees]; rfl
        | cons f fs ih => rw [trees, List.length_cons, List.length_cons, ih]
      exact hl fs
    rw [tree, Tr.wid, Tr.wids, Tr.wids, Tr.wids, Tr.wid, Tr.wid, Fm.ct]
    simp only [List.length_cons, List.length_nil]
    omega
  | .qu b x f, h => by
    rw [WF] at h
    have := tree_wid h.2
    rw [tree, Tr.wid, Tr.wids, Tr.wids, Tr.wids, Tr.wids, Tr.wid, Tr.wid, Fm.ct]
    simp only [List.length_cons, List.length_nil]
    omega
theorem trees_wid : ∀ {fs : List Fm}, WFs fs → Tr.wids (trees fs) ≤ Fm.cts fs + 3
  | [], h => by rw [trees]; exact Nat.zero_le _
  | f :: fs, h => by
    rw [WFs] at h
    have := tree_wid h.1
    have := trees_wid h.2
    rw [trees, Tr.wids, Fm.cts]; omega
end
section
variable {P : Program} {w : World} {K : PySem.W.Frag} {mg : Str → Option Value} {base : Heap}
def spFormula (K : PySem.W.Frag) : Sp := fun vs H Q _ => ∃ (b d : Addr) (kv : V), vs = [.ref b, kv, .int 24] ∧ BoxAt H b d ∧ KindsAt K H kv ∧
  ∀ (v : V) (f : Fm) (H' : Hp), But b H H' → BoxAt H' b d → FmAt K H' v f → Fine 24 f → Q v H'
abbrev nLFormula : List Str := ["box", "kinds", "room"]
theorem scFormula : FnScope nLFormula nLFormula (defScope sFormula) := ⟨rfl, rfl, rfl, by decide +kernel, rfl, by decide +kernel, by decide +kernel⟩
theorem ok_formula {f : Addr} {fd : FuncData} (cBelow : Cal P w K mg base 27 "_law_below" (spBelow K 25) []) (F : Fun K "_law_formula" "_law_formula" sFormula f fd) : FnOk P w K mg base CX0 28 f fd nLFormula (spFormula K) := by
  refine F.ok scFormula (fun vs H Q E h => ?_) (fun cdv A outer s H vs Q E hr h => ?_)
  · obtain ⟨b, d, kv, rfl, _⟩ := h
    rfl
  obtain ⟨b, d, kv, rfl, hB, hK, q⟩ := h
  refine ⟨_, (pss_one (ps_ret (pe_c cBelow hr (by decide) rfl (pa_cons (pv 0) (pa_cons (pv 1) (pa_cons (pv 2) (pa_cons pe_int pa_nil))))))), ?_⟩
  exact ⟨_, rfl, _, rfl, _, rfl, b, d, kv, 24, 4, rfl, hB, hK, by decide, q⟩
def spLaw (K : PySem.W.Frag) : Sp := fun vs H Q _ => ∃ (a : Addr) (ns : List Int), vs = [.ref a] ∧ SqL K H a (ns.map V.int) ∧ ns.length ≤ 63 ∧ ∀ H', Q (.bl true) H'
abbrev nLaw : List Str := ["script", "box", "turn", "formula", "text", "plain", "other"]
theorem scLaw : FnScope nLaw ["script"] (defScope sLaw) := ⟨rfl, rfl, rfl, by decide +kernel, rfl, by decide +kernel, by decide +kernel⟩
theorem ok_law {f : Addr} {fd : FuncData} (B : Bt mg) (cBox : Cal P w K mg base 3 "_law_box" (spBox K) []) (cFormula : Cal P w K mg base 28 "_law_formula" (spFormula K) []) (cKinds : Cal P w K mg base 2 "_law_kinds" (spKinds K) [])
    (cText : Cal P w K mg base 51 "_law_text" (spText K 25) []) (cPlainer : Cal P w K mg base 26 "_law_plainer" (spPlainer K 25) []) (cSame : Cal P w K mg base 51 "_law_same" (spSame K 51) []) (cGap : Cal P w K mg base 2 "_law_gap" spGap []) (cLoose : Cal P w K mg base 52 "_law_loose" (spLoose K 25) [])
    (cWrite : Cal P w K mg base 5 "write" (spWrite K) []) (cRead : Cal P w K mg base 6 "read" (spRead K) [])
    (F : Fun K "law" "law" sLaw f fd) : FnOk P w K mg base CX0 53 f fd ["script"] (spLaw K) := by
  refine F.ok scLaw (fun vs H Q E h => ?_) (fun cdv A outer s H vs Q E hr h => ?_)
  · obtain ⟨a, ns, rfl, _⟩ := h
    rfl
  obtain ⟨a, ns, rfl, hS, _, q⟩ := h
  have nd := scLaw.nd
  refine ⟨_, (pss_cons (ps_set (i := 1) nd rfl (.inl rfl) (pe_c cBox hr (by decide) rfl (pa_cons (pv 0) (pa_cons pe_int (pa_cons pe_int pa_nil)))))
    (pss_cons (ps_for PassesOwn.never rfl (pi_range1 rfl B.range (pa_cons pe_int pa_nil)) (pg_name (i := 2) nd rfl (.inl rfl)) (pss_cons (ps_set (i := 3) nd rfl (.inl rfl) (pe_c cFormula hr (by decide) rfl (pa_cons (pv 1) (pa_cons (pe_c cKinds hr (by decide) rfl (pa_cons (pv 1) pa_nil)) (pa_cons pe_int pa_nil)))))
    (pss_cons (ps_set (i := 4) nd rfl (.inl rfl) (pe_c cText hr (by decide) rfl (pa_cons (pv 3) pa_nil)))
    (pss_cons (ps_set (i := 5) nd rfl (.inl rfl) (pe_c cPlainer hr (by decide) rfl (pa_cons (pv 3) pa_nil)))
    (pss_cons (ps_if (PW.pt (pw_or (pt_not (pt_val (pe_c cSame hr (by decide) rfl (pa_cons (pe_c cWrite hr (by decide) rfl (pa_cons (pv 3) pa_nil)) (pa_cons (pv 4) pa_nil))))) (pw_or (pt_not (pt_val (pe_c cSame hr (by decide) rfl (pa_cons (pe_c cRead hr (by decide) rfl (pa_cons (pv 4) pa_nil)) (pa_cons (pv 5) pa_nil))))) (pw_or1 (pt_not (pt_val (pe_c cSame hr (by decide) rfl (pa_cons (pe_c cWrite hr (by decide) rfl (pa_cons (pv 5) pa_nil)) (pa_cons (pv 4) pa_nil))))))))) (pss_one (ps_ret pe_bl)) pss_nil)
    (pss_cons (ps_set (i := 6) nd rfl (.inl rfl) (pe_op op_add_str (pe_op op_add_str (pe_c cGap hr (by decide) rfl (pa_cons (pv 1) pa_nil)) (pe_c cLoose hr (by decide) rfl (pa_cons (pv 1) (pa_cons (pv 3) pa_nil)))) (pe_c cGap hr (by decide) rfl (pa_cons (pv 1) pa_nil))))
    (pss_one (ps_if (pt_not (pt_val (pe_c cSame hr (by decide) rfl (pa_cons (pe_c cRead hr (by decide) rfl (pa_cons (pv 6) pa_nil)) (pa_cons (pv 5) pa_nil))))) (pss_one (ps_ret pe_bl)) pss_nil))))))))
    (pss_one (ps_ret pe_bl)))), ?_⟩
  refine ⟨_, rfl, a, ns, rfl, hS, fun b d H1 s1 nb xb => ?_⟩
  refine ⟨5, rfl, by decide, by decide, for_range (lo := 0) (n := 5) (fun i σ H' => ∃ t u v w' z, σ = [some (.ref a), some (.ref b), t, u, v, w', z] ∧ BoxAt H' b d) ⟨none, none, none, none, none, rfl, xb⟩ ?_ ?_⟩
  · rintro i σ H2 hi ⟨t, u, v0, w', z, rfl, x2⟩
    refine ⟨_, rfl, _, rfl, b, d, rfl, x2, fun kv H3 b3 x3 k3 => ⟨b, d, kv, rfl, x3, k3, fun v fm H4 b4 x4 hf fi => ?_⟩⟩
    have c1 : fm.ct ≤ 48 := fi.ct
    have c2 : fm.dp ≤ 24 := fi.dp
    have wf := fi.wf
    have tl := txt_le wf
    have pc := Fm.plain_ct fm
    have pd := Fm.plain_dp fm
    have pw := plain_wf wf
    have td := tree_dep (Fm.plain fm)
    have tw := tree_wid pw
    refine ⟨_, rfl, v, fm, rfl, hf, by omega, wf, by omega, fun H5 s5 => ?_⟩
    refine ⟨_, rfl, v, fm, rfl, hf.tk (.of_same s5), by omega, by omega, fun vp H6 s6 hp => ?_⟩
    have s46 := s5.trans s6
    refine ⟨_, rfl, v, fm, rfl, hf.tk (.of_same s46), wf, by omega, fun H7 s7 => ⟨_, rfl, _, _, .tx (Fm.txt fm), rfl, by rw [TrAt], by rw [TrAt], by rw [Tr.dep]; omega, by rw [Tr.wid]; omega, fun H8 s8 => ⟨true, rfl, ?_⟩⟩⟩
    have s68 := s7.trans s8
    have hp8 := hp.tk (.of_same s68)
    obtain ⟨bs, L', hBd, hRo⟩ := read_f (Fm.lo_txt fm) wf Fm.gap0 Fm.gap0
    rw [s_e, s_ae] at hBd
    refine ⟨_, rfl, Fm.txt fm, bs, L', Fm.plain fm, rfl, by omega, hBd, hRo, fun vr H9 s9 hr9 => ⟨_, rfl, _, _, tree (Fm.plain fm), rfl, tree_at hr9, tree_at (hp8.tk (.of_same s9)), by omega, by omega, fun H10 s10 => ⟨true, rfl, ?_⟩⟩⟩
    have s8a := s9.trans s10
    have hp10 := hp8.tk (.of_same s8a)
    refine ⟨_, rfl, vp, Fm.plain fm, rfl, hp10, pw, by omega, fun H11 s11 => ⟨_, rfl, _, _, .tx (Fm.txt fm), rfl, by rw [TrAt, Fm.txt_plain], by rw [TrAt], by rw [Tr.dep]; omega, by rw [Tr.wid]; omega, fun H12 s12 => ⟨true, rfl, ?_⟩⟩⟩
    have s4c := ((s46.trans s68).trans s8a).trans (s11.trans s12)
    have hp12 := hp10.tk (.of_same (s11.trans s12))
    have x12 := x4.same s4c
    have hf12 := hf.tk (.of_same s4c)
    refine ⟨_, rfl, b, d, rfl, x12, fun g1 H13 G1 b13 x13 => ?_⟩
    have tk13 : Tk K H12 H13 := But.tk b13 x12
    refine ⟨_, rfl, _, rfl, b, d, v, fm, rfl, x13, hf12.tk tk13, by omega, wf, by omega, fun so H14 hlo hsl b14 x14 => ?_⟩
    have tk14 : Tk K H13 H14 := But.tk b14 x13
    have l1' := gap_len G1
    refine ⟨_, _, rfl, rfl, big9 (by omega), ?_⟩
    refine ⟨_, rfl, b, d, rfl, x14, fun g2 H15 G2 b15 x15 => ?_⟩
    have tk15 : Tk K H14 H15 := But.tk b15 x14
    have l2' := gap_len G2
    refine ⟨_, _, rfl, rfl, big9 (by rw [s_len]; omega), ?_⟩
    have hp15 := hp12.tk ((tk13.trans tk14).trans tk15)
    obtain ⟨bs2, L2', hBd2, hRo2⟩ := read_f hlo wf G1 G2
    rw [← Str.append_assoc] at hBd2
    refine ⟨_, rfl, (g1 ++ so) ++ g2, bs2, L2', Fm.plain fm, rfl, by rw [s_len, s_len]; omega, hBd2, hRo2, fun vr H16 s16 hr16 => ⟨_, rfl, _, _, tree (Fm.plain fm), rfl, tree_at hr16, tree_at (hp15.tk (.of_same s16)), by omega, by omega, fun H17 s17 => ⟨true, rfl, ?_⟩⟩⟩
    exact ⟨_, _, _, _, _, rfl, x15.same (s16.trans s17)⟩
  · rintro σ H2 ⟨t, u, v0, w', z, rfl, x2⟩
    exact q H2
/-! ### the recursions, for every depth -/
theorem vac {k : Nat} {f : Addr} {fd : FuncData} {ps : List Str} {sp : Sp} (no : ∀ vs H Q E, ¬ sp vs H Q E) : FnOk P w K mg base CX0 k f fd ps sp :=
  ⟨fun vs H Q E h => absurd h (no vs H Q E), fun A outer s H args us vs Q E _ _ _ _ h => absurd h (no vs H Q E)⟩
section
variable {f g : Addr} {fd fdg : FuncData}
theorem cal_below (B : Bt mg) (cDraw : Cal P w K mg base 1 "_law_draw" spDraw []) (cName : Cal P w K mg base 2 "_law_name" spName []) (F : Fun K "_law_below" "_law_below" sBelow f fd) (m : mg "_law_below" = some (.ref f)) (b : Binds K fd pBelow []) :
    ∀ n, Cal P w K mg base (n + 2) "_law_below" (spBelow K n) []
  | 0 => cal_of (vac fun vs H Q E ⟨_, _, _, _, _, _, _, _, h, _⟩ => Nat.not_lt_zero _ h) m F.kp b
  | n + 1 => cal_of (ok_below B cDraw cName (cal_below B cDraw cName F m b n) F) m F.kp b
theorem cal_same (B : Bt mg) (F : Fun K "_law_same" "_law_same" sSame f fd) (m : mg "_law_same" = some (.ref f)) (b : Binds K fd ["actual", "expected"] []) : ∀ n, Cal P w K mg base n "_law_same" (spSame K n) []
  | 0 => cal_of (vac fun vs H Q E ⟨_, _, _, _, _, _, h, _⟩ => Nat.not_lt_zero _ h) m F.kp b
  | n + 1 => cal_of (ok_same B (cal_same B F m b n) F) m F.kp b
theorem cal_bare (B : Bt mg) (F : Fun K "_law_bare" "_law_bare" sBare f fd) (m : mg "_law_bare" = some (.ref f)) (b : Binds K fd ["formula"] []) : ∀ n, Cal P w K mg base n "_law_bare" (spBare K n) []
  | 0 => cal_of (vac fun vs H Q E ⟨_, _, _, _, h, _⟩ => Nat.not_lt_zero _ h) m F.kp b
  | n + 1 => cal_of (ok_bare B (cal_bare B F m b n) F) m F.kp b
theorem cal_plainer (B : Bt mg) (cB : ∀ n, Cal P w K mg base n "_law_bare" (spBare K n) []) (F : Fun K "_law_plainer" "_law_plainer" sPlainer f fd) (m : mg "_law_plainer" = some (.ref f)) (b : Binds K fd ["formula"] []) : ∀ n, Cal P w K mg base (n + 1) "_law_plainer" (spPlainer K n) []
  | 0 => cal_of (vac fun vs H Q E ⟨_, _, _, _, h, _⟩ => Nat.not_lt_zero _ h) m F.kp b
  | n + 1 => cal_of (ok_plainer B (cB _) (cal_plainer B cB F m b n) F) m F.kp b
theorem cal_text (B : Bt mg) (cB : ∀ n, Cal P w K mg base n "_law_bare" (spBare K n) []) (F : Fun K "_law_text" "_law_text" sText f fd) (m : mg "_law_text" = some (.ref f)) (b : Binds K fd ["formula"] []) (G : Fun K "_law_held" "_law_held" sHeld g fdg) (mG : mg "_law_held" = some (.ref g)) (bG : Binds K fdg ["formula"] []) :
    ∀ n k, 2 * n + 1 ≤ k → Cal P w K mg base k "_law_text" (spText K n) []
  | 0, _, _ => cal_of (vac fun vs H Q E ⟨_, _, _, _, h, _⟩ => Nat.not_lt_zero _ h) m F.kp b
  | n + 1, 0, h => absurd h (by omega)
  | n + 1, 1, h => absurd h (by omega)
  | n + 1, k + 2, h => by
    have ih := fun j hj => cal_text B cB F m b G mG bG n j hj
    exact cal_of (ok_text (n := n) (k := k + 1) (by omega) B (cB _) (cal_of (ok_held (n := n) (k := k) (by omega) B (cB _) (ih k (by omega)) G) mG G.kp bG) (ih (k + 1) (by omega)) F) m F.kp b
theorem cal_loose (B : Bt mg) (cDraw : Cal P w K mg base 1 "_law_draw" spDraw []) (cGap : Cal P w K mg base 2 "_law_gap" spGap []) (cB : ∀ n, Cal P w K mg base n "_law_bare" (spBare K n) []) (F : Fun K "_law_loose" "_law_loose" sLoose f fd) (m : mg "_law_loose" = some (.ref f)) (b : Binds K fd ["box", "formula"] []) (G : Fun K "_law_loose_part" "_law_loose_part" sLoosePart g fdg) (mG : mg "_law_loose_part" = some (.ref g)) (bG : Binds K fdg ["box", "formula"] []) :
    ∀ n k, 2 * n + 2 ≤ k → Cal P w K mg base k "_law_loose" (spLoose K n) []
  | 0, _, _ => cal_of (vac fun vs H Q E ⟨_, _, _, _, _, _, _, h, _⟩ => Nat.not_lt_zero _ h) m F.kp b
  | n + 1, 0, h => absurd h (by omega)
  | n + 1, 1, h => absurd h (by omega)
  | n + 1, k + 2, h => by
    have ih := fun j hj => cal_loose B cDraw cGap cB F m b G mG bG n j hj
    exact cal_of (ok_loose (n := n) (k := k + 1) (by omega) (by omega) B cGap (cB _) (ih (k + 1) (by omega)) (cal_of (ok_loosep (n := n) (k := k) (by omega) (by omega) B cDraw cGap (cB _) (ih k (by omega)) G) mG G.kp bG) F) m F.kp b
end
end
end K2

set_option Elab.async false
set_option linter.all false
set_option maxRecDepth 100000
set_option maxHeartbeats 4000000
namespace K2
open PySem L2 Fo
section
variable {w : World} {K : PySem.W.Frag}
theorem tb_of {dE dS : Addr} {es es' : Array DictEntry} {n n' : Nat} {t1 t2 t3 t4 : Tok} (lE : K.lookup dE = some { cls := .type "dict", data := .dict es n }) (kE : PySem.W.KeysLit w.params es.toList) (lS : K.lookup dS = some { cls := .type "dict", data := .dict es' n' }) (kS : PySem.W.KeysLit w.params es'.toList)
    (o1 : PySem.W.nsIn K dE "and" = some (some (.str "true" t1))) (o2 : PySem.W.nsIn K dE "or" = some (some (.str "false" t2))) (o3 : PySem.W.nsIn K dS "and" = some (some (.str "&" t3))) (o4 : PySem.W.nsIn K dS "or" = some (some (.str "|" t4))) : Tb K w dE dS := by
  refine ⟨fun b => ?_, fun b => ?_⟩
  · cases b with
    | true => exact ⟨es, n, _, lE, kE, o1, _, rfl⟩
    | false => exact ⟨es, n, _, lE, kE, o2, _, rfl⟩
  · cases b with
    | true => exact ⟨es', n', _, lS, kS, o3, _, rfl⟩
    | false => exact ⟨es', n', _, lS, kS, o4, _, rfl⟩
theorem kn_of {dK : Addr} {es : Array DictEntry} {n : Nat} {t1 t2 : Tok} (lK : K.lookup dK = some { cls := .type "dict", data := .dict es n }) (kK : PySem.W.KeysLit w.params es.toList) (low : (dK == sysModules) = false)
    (o1 : PySem.W.nsIn K dK "&" = some (some (.str "and" t1))) (o2 : PySem.W.nsIn K dK "|" = some (some (.str "or" t2))) : Kn K w dK := by
  refine ⟨fun b => ?_, es, n, ⟨lK, kK, low⟩, fun b => ?_⟩
  · cases b with
    | true => exact ⟨es, n, _, lK, kK, o1, _, rfl⟩
    | false => exact ⟨es, n, _, lK, kK, o2, _, rfl⟩
  · cases b with
    | true => exact ⟨_, o1⟩
    | false => exact ⟨_, o2⟩
theorem er_of {dR aT aF eT eF : Addr} {es : Array DictEntry} {n m1 m2 m3 m4 : Nat} {t1 t2 : Tok} (lR : K.lookup dR = some { cls := .type "dict", data := .dict es n }) (kR : PySem.W.KeysLit w.params es.toList) (low : (dR == sysModules) = false) (sz : es.size = 2)
    (e0 : ∃ (en : DictEntry) (t : Tok), es[0]? = some en ∧ en.key = Value.str "true" t) (e1 : ∃ (en : DictEntry) (t : Tok), es[1]? = some en ∧ en.key = Value.str "false" t)
    (o1 : PySem.W.nsIn K dR "true" = some (some (.ref aT))) (o2 : PySem.W.nsIn K dR "false" = some (some (.ref aF)))
    (lT : K.lookup aT = some { cls := .type "tuple", data := .seq #[.str "and" t1, .ref eT] m1 }) (lF : K.lookup aF = some { cls := .type "tuple", data := .seq #[.str "or" t2, .ref eF] m2 })
    (lTe : K.lookup eT = some { cls := .type "tuple", data := .seq #[] m3 }) (lFe : K.lookup eF = some { cls := .type "tuple", data := .seq #[] m4 }) : Er K w dR := by
  refine ⟨⟨es, n, lR, low, sz, fun i z h => ?_⟩, fun b => ?_⟩
  · match i, h with
    | 0, h => obtain rfl := Option.some.inj h; exact e0
    | 1, h => obtain rfl := Option.some.inj h; exact e1
    | i + 2, h => exact absurd h (by simp)
  · cases b with
    | true =>
      refine ⟨aT, ⟨es, n, _, lR, kR, o1, rfl⟩, fun H => ?_⟩
      rw [FmAt]
      exact ⟨aT, eT, [], rfl, .inr ⟨_, _, _, lT, rfl, rfl, l2, .cons ⟨t1, rfl⟩ (.cons rfl .nil)⟩, .inr ⟨_, _, _, lTe, rfl, rfl, by decide, .nil⟩, by rw [FmsAt]⟩
    | false =>
      refine ⟨aF, ⟨es, n, _, lR, kR, o2, rfl⟩, fun H => ?_⟩
      rw [FmAt]
      exact ⟨aF, eF, [], rfl, .inr ⟨_, _, _, lF, rfl, rfl, l2, .cons ⟨t2, rfl⟩ (.cons rfl .nil)⟩, .inr ⟨_, _, _, lFe, rfl, rfl, by decide, .nil⟩, by rw [FmsAt]⟩
end
end K2

set_option Elab.async false
set_option linter.all false
set_option maxRecDepth 100000
set_option maxHeartbeats 4000000
namespace K2
open PySem L2 Fo
open C8 (Cal pe_c pss_cut)
theorem all_mk {l : PySem.W.OpenLaw} {w : World} {K : PySem.W.Frag} {h : Heap} {mg : Str → Option Value} {fa f0 f1 f2 f3 f4 f5 f6 f7 f8 f9 f10 f11 f12 f13 f14 f15 f16 f17 f18 f19 f20 f21 f22 f23 f24 f25 f26 f27 f28 f29 f30 : Addr} (X : K.In h) (G : h.Ns mainGlobals mg) (hfa : mg "law" = some (.ref fa))
    {od0 an0 od1 an1 od2 an2 od3 an3 od4 an4 od5 an5 od6 an6 od7 an7 od8 an8 od9 an9 od10 an10 od11 an11 od12 an12 od13 an13 od14 an14 od15 an15 od16 an16 od17 an17 od18 an18 od19 an19 od20 an20 od21 an21 od22 an22 od23 an23 od24 an24 od25 an25 od26 an26 od27 an27 od28 an28 od29 an29 od30 an30 : Option Addr} {sl0 sl1 sl2 sl3 sl4 sl5 sl6 sl7 sl8 sl9 sl10 sl11 sl12 sl13 sl14 sl15 sl16 sl17 sl18 sl19 sl20 sl21 sl22 sl23 sl24 sl25 sl26 sl27 sl28 sl29 sl30 : Array (Option Value)} {oc0 kV0 dc0 pm0 cd0 ct0 oc1 kV1 dc1 pm1 cd1 ct1 oc2 kV2 dc2 pm2 cd2 ct2 oc3 kV3 dc3 pm3 cd3 ct3 oc4 kV4 dc4 pm4 cd4 ct4 oc5 kV5 dc5 pm5 cd5 ct5 oc6 kV6 dc6 pm6 cd6 ct6 oc7 kV7 dc7 pm7 cd7 ct7 oc8 kV8 dc8 pm8 cd8 ct8 oc9 kV9 dc9 pm9 cd9 ct9 oc10 kV10 dc10 pm10 cd10 ct10 oc11 kV11 dc11 pm11 cd11 ct11 oc12 kV12 dc12 pm12 cd12 ct12 oc13 kV13 dc13 pm13 cd13 ct13 oc14 kV14 dc14 pm14 cd14 ct14 oc15 kV15 dc15 pm15 cd15 ct15 oc16 kV16 dc16 pm16 cd16 ct16 oc17 kV17 dc17 pm17 cd17 ct17 oc18 kV18 dc18 pm18 cd18 ct18 oc19 kV19 dc19 pm19 cd19 ct19 oc20 kV20 dc20 pm20 cd20 ct20 oc21 kV21 dc21 pm21 cd21 ct21 oc22 kV22 dc22 pm22 cd22 ct22 oc23 kV23 dc23 pm23 cd23 ct23 oc24 kV24 dc24 pm24 cd24 ct24 oc25 kV25 dc25 pm25 cd25 ct25 oc26 kV26 dc26 pm26 cd26 ct26 oc27 kV27 dc27 pm27 cd27 ct27 oc28 kV28 dc28 pm28 cd28 ct28 oc29 kV29 dc29 pm29 cd29 ct29 oc30 kV30 dc30 pm30 cd30 ct30 : Value}
    (a0 : PySem.W.nsIn K mainGlobals "write" = some (some (.ref f0))) (l0 : K.lookup f0 = some ⟨oc0, od0, .func (PySem.W.fnOf "write" "write" (defArgs sWrite) (defBody sWrite) (defScope sWrite) .none kV0 dc0 pm0 an0 cd0 ct0), sl0⟩) (c0 : PySem.W.codeIn K cd0 "write" = true) (k0 : PySem.W.keepIn K (.ref f0) = true)
    (a1 : PySem.W.nsIn K mainGlobals "alone" = some (some (.ref f1))) (l1 : K.lookup f1 = some ⟨oc1, od1, .func (PySem.W.fnOf "alone" "alone" (defArgs sAlone) (defBody sAlone) (defScope sAlone) .none kV1 dc1 pm1 an1 cd1 ct1), sl1⟩) (c1 : PySem.W.codeIn K cd1 "alone" = true) (k1 : PySem.W.keepIn K (.ref f1) = true)
    (a2 : PySem.W.nsIn K mainGlobals "pieces" = some (some (.ref f2))) (l2 : K.lookup f2 = some ⟨oc2, od2, .func (PySem.W.fnOf "pieces" "pieces" (defArgs sPieces) (defBody sPieces) (defScope sPieces) .none kV2 dc2 pm2 an2 cd2 ct2), sl2⟩) (c2 : PySem.W.codeIn K cd2 "pieces" = true) (k2 : PySem.W.keepIn K (.ref f2) = true)
    (a3 : PySem.W.nsIn K mainGlobals "joined" = some (some (.ref f3))) (l3 : K.lookup f3 = some ⟨oc3, od3, .func (PySem.W.fnOf "joined" "joined" (defArgs sJoined) (defBody sJoined) (defScope sJoined) .none kV3 dc3 pm3 an3 cd3 ct3), sl3⟩) (c3 : PySem.W.codeIn K cd3 "joined" = true) (k3 : PySem.W.keepIn K (.ref f3) = true)
    (a4 : PySem.W.nsIn K mainGlobals "guarded" = some (some (.ref f4))) (l4 : K.lookup f4 = some ⟨oc4, od4, .func (PySem.W.fnOf "guarded" "guarded" (defArgs sGuarded) (defBody sGuarded) (defScope sGuarded) .none kV4 dc4 pm4 an4 cd4 ct4), sl4⟩) (c4 : PySem.W.codeIn K cd4 "guarded" = true) (k4 : PySem.W.keepIn K (.ref f4) = true)
    (a5 : PySem.W.nsIn K mainGlobals "read" = some (some (.ref f5))) (l5 : K.lookup f5 = some ⟨oc5, od5, .func (PySem.W.fnOf "read" "read" (defArgs sRead) (defBody sRead) (defScope sRead) .none kV5 dc5 pm5 an5 cd5 ct5), sl5⟩) (c5 : PySem.W.codeIn K cd5 "read" = true) (k5 : PySem.W.keepIn K (.ref f5) = true)
    (a6 : PySem.W.nsIn K mainGlobals "read_binders" = some (some (.ref f6))) (l6 : K.lookup f6 = some ⟨oc6, od6, .func (PySem.W.fnOf "read_binders" "read_binders" (defArgs sBinders) (defBody sBinders) (defScope sBinders) .none kV6 dc6 pm6 an6 cd6 ct6), sl6⟩) (c6 : PySem.W.codeIn K cd6 "read_binders" = true) (k6 : PySem.W.keepIn K (.ref f6) = true)
    (a7 : PySem.W.nsIn K mainGlobals "read_nots" = some (some (.ref f7))) (l7 : K.lookup f7 = some ⟨oc7, od7, .func (PySem.W.fnOf "read_nots" "read_nots" (defArgs sNots) (defBody sNots) (defScope sNots) .none kV7 dc7 pm7 an7 cd7 ct7), sl7⟩) (c7 : PySem.W.codeIn K cd7 "read_nots" = true) (k7 : PySem.W.keepIn K (.ref f7) = true)
    (a8 : PySem.W.nsIn K mainGlobals "read_plain" = some (some (.ref f8))) (l8 : K.lookup f8 = some ⟨oc8, od8, .func (PySem.W.fnOf "read_plain" "read_plain" (defArgs sPlain) (defBody sPlain) (defScope sPlain) .none kV8 dc8 pm8 an8 cd8 ct8), sl8⟩) (c8 : PySem.W.codeIn K cd8 "read_plain" = true) (k8 : PySem.W.keepIn K (.ref f8) = true)
    (a9 : PySem.W.nsIn K mainGlobals "read_names" = some (some (.ref f9))) (l9 : K.lookup f9 = some ⟨oc9, od9, .func (PySem.W.fnOf "read_names" "read_names" (defArgs sNames) (defBody sNames) (defScope sNames) .none kV9 dc9 pm9 an9 cd9 ct9), sl9⟩) (c9 : PySem.W.codeIn K cd9 "read_names" = true) (k9 : PySem.W.keepIn K (.ref f9) = true)
    (a10 : PySem.W.nsIn K mainGlobals "close_levels" = some (some (.ref f10))) (l10 : K.lookup f10 = some ⟨oc10, od10, .func (PySem.W.fnOf "close_levels" "close_levels" (defArgs sClose) (defBody sClose) (defScope sClose) .none kV10 dc10 pm10 an10 cd10 ct10), sl10⟩) (c10 : PySem.W.codeIn K cd10 "close_levels" = true) (k10 : PySem.W.keepIn K (.ref f10) = true)
    (a11 : PySem.W.nsIn K mainGlobals "read_joint" = some (some (.ref f11))) (l11 : K.lookup f11 = some ⟨oc11, od11, .func (PySem.W.fnOf "read_joint" "read_joint" (defArgs sJoint) (defBody sJoint) (defScope sJoint) .none kV11 dc11 pm11 an11 cd11 ct11), sl11⟩) (c11 : PySem.W.codeIn K cd11 "read_joint" = true) (k11 : PySem.W.keepIn K (.ref f11) = true)
    (a12 : PySem.W.nsIn K mainGlobals "whole" = some (some (.ref f12))) (l12 : K.lookup f12 = some ⟨oc12, od12, .func (PySem.W.fnOf "whole" "whole" (defArgs sWhole) (defBody sWhole) (defScope sWhole) .none kV12 dc12 pm12 an12 cd12 ct12), sl12⟩) (c12 : PySem.W.codeIn K cd12 "whole" = true) (k12 : PySem.W.keepIn K (.ref f12) = true)
    (a13 : PySem.W.nsIn K mainGlobals "denied" = some (some (.ref f13))) (l13 : K.lookup f13 = some ⟨oc13, od13, .func (PySem.W.fnOf "denied" "denied" (defArgs sDenied) (defBody sDenied) (defScope sDenied) .none kV13 dc13 pm13 an13 cd13 ct13), sl13⟩) (c13 : PySem.W.codeIn K cd13 "denied" = true) (k13 : PySem.W.keepIn K (.ref f13) = true)
    (a14 : PySem.W.nsIn K mainGlobals "_law_cell" = some (some (.ref f14))) (l14 : K.lookup f14 = some ⟨oc14, od14, .func (PySem.W.fnOf "_law_cell" "_law_cell" (defArgs sCell) (defBody sCell) (defScope sCell) .none kV14 dc14 pm14 an14 cd14 ct14), sl14⟩) (c14 : PySem.W.codeIn K cd14 "_law_cell" = true) (k14 : PySem.W.keepIn K (.ref f14) = true)
    (a15 : PySem.W.nsIn K mainGlobals "_law_digits" = some (some (.ref f15))) (l15 : K.lookup f15 = some ⟨oc15, od15, .func (PySem.W.fnOf "_law_digits" "_law_digits" (defArgs sDigits) (defBody sDigits) (defScope sDigits) .none kV15 dc15 pm15 an15 cd15 ct15), sl15⟩) (c15 : PySem.W.codeIn K cd15 "_law_digits" = true) (k15 : PySem.W.keepIn K (.ref f15) = true)
    (a16 : PySem.W.nsIn K mainGlobals "_law_box" = some (some (.ref f16))) (l16 : K.lookup f16 = some ⟨oc16, od16, .func (PySem.W.fnOf "_law_box" "_law_box" (defArgs sBox) (defBody sBox) (defScope sBox) .none kV16 dc16 pm16 an16 cd16 ct16), sl16⟩) (c16 : PySem.W.codeIn K cd16 "_law_box" = true) (k16 : PySem.W.keepIn K (.ref f16) = true)
    (a17 : PySem.W.nsIn K mainGlobals "_law_draw" = some (some (.ref f17))) (l17 : K.lookup f17 = some ⟨oc17, od17, .func (PySem.W.fnOf "_law_draw" "_law_draw" (defArgs sDraw) (defBody sDraw) (defScope sDraw) .none kV17 dc17 pm17 an17 cd17 ct17), sl17⟩) (c17 : PySem.W.codeIn K cd17 "_law_draw" = true) (k17 : PySem.W.keepIn K (.ref f17) = true)
    (a18 : PySem.W.nsIn K mainGlobals "_law_name" = some (some (.ref f18))) (l18 : K.lookup f18 = some ⟨oc18, od18, .func (PySem.W.fnOf "_law_name" "_law_name" (defArgs sName) (defBody sName) (defScope sName) .none kV18 dc18 pm18 an18 cd18 ct18), sl18⟩) (c18 : PySem.W.codeIn K cd18 "_law_name" = true) (k18 : PySem.W.keepIn K (.ref f18) = true)
    (a19 : PySem.W.nsIn K mainGlobals "_law_formula" = some (some (.ref f19))) (l19 : K.lookup f19 = some ⟨oc19, od19, .func (PySem.W.fnOf "_law_formula" "_law_formula" (defArgs sFormula) (defBody sFormula) (defScope sFormula) .none kV19 dc19 pm19 an19 cd19 ct19), sl19⟩) (c19 : PySem.W.codeIn K cd19 "_law_formula" = true) (k19 : PySem.W.keepIn K (.ref f19) = true)
    (a20 : PySem.W.nsIn K mainGlobals "_law_below" = some (some (.ref f20))) (l20 : K.lookup f20 = some ⟨oc20, od20, .func (PySem.W.fnOf "_law_below" "_law_below" (defArgs sBelow) (defBody sBelow) (defScope sBelow) .none kV20 dc20 pm20 an20 cd20 ct20), sl20⟩) (c20 : PySem.W.codeIn K cd20 "_law_below" = true) (k20 : PySem.W.keepIn K (.ref f20) = true)
    (a21 : PySem.W.nsIn K mainGlobals "_law_kinds" = some (some (.ref f21))) (l21 : K.lookup f21 = some ⟨oc21, od21, .func (PySem.W.fnOf "_law_kinds" "_law_kinds" (defArgs sKinds) (defBody sKinds) (defScope sKinds) .none kV21 dc21 pm21 an21 cd21 ct21), sl21⟩) (c21 : PySem.W.codeIn K cd21 "_law_kinds" = true) (k21 : PySem.W.keepIn K (.ref f21) = true)
    (a22 : PySem.W.nsIn K mainGlobals "_law_bare" = some (some (.ref f22))) (l22 : K.lookup f22 = some ⟨oc22, od22, .func (PySem.W.fnOf "_law_bare" "_law_bare" (defArgs sBare) (defBody sBare) (defScope sBare) .none kV22 dc22 pm22 an22 cd22 ct22), sl22⟩) (c22 : PySem.W.codeIn K cd22 "_law_bare" = true) (k22 : PySem.W.keepIn K (.ref f22) = true)
    (a23 : PySem.W.nsIn K mainGlobals "_law_held" = some (some (.ref f23))) (l23 : K.lookup f23 = some ⟨oc23, od23, .func (PySem.W.fnOf "_law_held" "_law_held" (defArgs sHeld) (defBody sHeld) (defScope sHeld) .none kV23 dc23 pm23 an23 cd23 ct23), sl23⟩) (c23 : PySem.W.codeIn K cd23 "_law_held" = true) (k23 : PySem.W.keepIn K (.ref f23) = true)
    (a24 : PySem.W.nsIn K mainGlobals "_law_text" = some (some (.ref f24))) (l24 : K.lookup f24 = some ⟨oc24, od24, .func (PySem.W.fnOf "_law_text" "_law_text" (defArgs sText) (defBody sText) (defScope sText) .none kV24 dc24 pm24 an24 cd24 ct24), sl24⟩) (c24 : PySem.W.codeIn K cd24 "_law_text" = true) (k24 : PySem.W.keepIn K (.ref f24) = true)
    (a25 : PySem.W.nsIn K mainGlobals "_law_plainer" = some (some (.ref f25))) (l25 : K.lookup f25 = some ⟨oc25, od25, .func (PySem.W.fnOf "_law_plainer" "_law_plainer" (defArgs sPlainer) (defBody sPlainer) (defScope sPlainer) .none kV25 dc25 pm25 an25 cd25 ct25), sl25⟩) (c25 : PySem.W.codeIn K cd25 "_law_plainer" = true) (k25 : PySem.W.keepIn K (.ref f25) = true)
    (a26 : PySem.W.nsIn K mainGlobals "_law_same" = some (some (.ref f26))) (l26 : K.lookup f26 = some ⟨oc26, od26, .func (PySem.W.fnOf "_law_same" "_law_same" (defArgs sSame) (defBody sSame) (defScope sSame) .none kV26 dc26 pm26 an26 cd26 ct26), sl26⟩) (c26 : PySem.W.codeIn K cd26 "_law_same" = true) (k26 : PySem.W.keepIn K (.ref f26) = true)
    (a27 : PySem.W.nsIn K mainGlobals "_law_gap" = some (some (.ref f27))) (l27 : K.lookup f27 = some ⟨oc27, od27, .func (PySem.W.fnOf "_law_gap" "_law_gap" (defArgs sGap) (defBody sGap) (defScope sGap) .none kV27 dc27 pm27 an27 cd27 ct27), sl27⟩) (c27 : PySem.W.codeIn K cd27 "_law_gap" = true) (k27 : PySem.W.keepIn K (.ref f27) = true)
    (a28 : PySem.W.nsIn K mainGlobals "_law_loose_part" = some (some (.ref f28))) (l28 : K.lookup f28 = some ⟨oc28, od28, .func (PySem.W.fnOf "_law_loose_part" "_law_loose_part" (defArgs sLoosePart) (defBody sLoosePart) (defScope sLoosePart) .none kV28 dc28 pm28 an28 cd28 ct28), sl28⟩) (c28 : PySem.W.codeIn K cd28 "_law_loose_part" = true) (k28 : PySem.W.keepIn K (.ref f28) = true)
    (a29 : PySem.W.nsIn K mainGlobals "_law_loose" = some (some (.ref f29))) (l29 : K.lookup f29 = some ⟨oc29, od29, .func (PySem.W.fnOf "_law_loose" "_law_loose" (defArgs sLoose) (defBody sLoose) (defScope sLoose) .none kV29 dc29 pm29 an29 cd29 ct29), sl29⟩) (c29 : PySem.W.codeIn K cd29 "_law_loose" = true) (k29 : PySem.W.keepIn K (.ref f29) = true)
    (a30 : PySem.W.nsIn K mainGlobals "law" = some (some (.ref f30))) (l30 : K.lookup f30 = some ⟨oc30, od30, .func (PySem.W.fnOf "law" "law" (defArgs sLaw) (defBody sLaw) (defScope sLaw) .none kV30 dc30 pm30 an30 cd30 ct30), sl30⟩) (c30 : PySem.W.codeIn K cd30 "law" = true) (k30 : PySem.W.keepIn K (.ref f30) = true)
    {CR fr0 fr1 fr2 fr3 fr4 fr5 fr6 : Addr} {odr0 anr0 odr1 anr1 odr2 anr2 odr3 anr3 odr4 anr4 odr5 anr5 odr6 anr6 : Option Addr} {slr0 slr1 slr2 slr3 slr4 slr5 slr6 : Array (Option Value)} {ocr0 kVr0 dcr0 pmr0 cdr0 ctr0 ocr1 kVr1 dcr1 pmr1 cdr1 ctr1 ocr2 kVr2 dcr2 pmr2 cdr2 ctr2 ocr3 kVr3 dcr3 pmr3 cdr3 ctr3 ocr4 kVr4 dcr4 pmr4 cdr4 ctr4 ocr5 kVr5 dcr5 pmr5 cdr5 ctr5 ocr6 kVr6 dcr6 pmr6 cdr6 ctr6 : Value} {CL fv0 : Addr} {odv0 anv0 : Option Addr} {slv0 : Array (Option Value)} {ocv0 kVv0 dcv0 pmv0 cdv0 ctv0 : Value} {dE dS dR dK aT aF eT eF : Addr} {esE esS esR esK : Array DictEntry} {nE nS nR nK m1 m2 m3 m4 : Nat} {t1 t2 t3 t4 t5 t6 t7 t8 : Tok}
    (aCr : PySem.W.nsIn K mainGlobals "Reader" = some (some (.ref CR)))
    (ar0 : PySem.W.findIn K (.ref CR) "__init__" = some (some (.ref fr0)))
    (ir0 : PySem.W.isFn K (.ref fr0) = true)
    (lr0 : K.lookup fr0 = some ⟨ocr0, odr0, .func (PySem.W.fnOf "__init__" "Reader.__init__" (defArgs mInit) (defBody mInit) (defScope mInit) .none kVr0 dcr0 pmr0 anr0 cdr0 ctr0), slr0⟩)
    (cr0 : PySem.W.codeIn K cdr0 "Reader.__init__" = true)
    (kr0 : PySem.W.keepIn K (.ref fr0) = true)
    (ar1 : PySem.W.findIn K (.ref CR) "here" = some (some (.ref fr1)))
    (ir1 : PySem.W.isFn K (.ref fr1) = true)
    (lr1 : K.lookup fr1 = some ⟨ocr1, odr1, .func (PySem.W.fnOf "here" "Reader.here" (defArgs mHere) (defBody mHere) (defScope mHere) .none kVr1 dcr1 pmr1 anr1 cdr1 ctr1), slr1⟩)
    (cr1 : PySem.W.codeIn K cdr1 "Reader.here" = true)
    (kr1 : PySem.W.keepIn K (.ref fr1) = true)
    (ar2 : PySem.W.findIn K (.ref CR) "next_sign" = some (some (.ref fr2)))
    (ir2 : PySem.W.isFn K (.ref fr2) = true)
    (lr2 : K.lookup fr2 = some ⟨ocr2, odr2, .func (PySem.W.fnOf "next_sign" "Reader.next_sign" (defArgs mNext) (defBody mNext) (defScope mNext) .none kVr2 dcr2 pmr2 anr2 cdr2 ctr2), slr2⟩)
    (cr2 : PySem.W.codeIn K cdr2 "Reader.next_sign" = true)
    (kr2 : PySem.W.keepIn K (.ref fr2) = true)
    (ar3 : PySem.W.findIn K (.ref CR) "begins" = some (some (.ref fr3)))
    (ir3 : PySem.W.isFn K (.ref fr3) = true)
    (lr3 : K.lookup fr3 = some ⟨ocr3, odr3, .func (PySem.W.fnOf "begins" "Reader.begins" (defArgs mBegins) (defBody mBegins) (defScope mBegins) .none kVr3 dcr3 pmr3 anr3 cdr3 ctr3), slr3⟩)
    (cr3 : PySem.W.codeIn K cdr3 "Reader.begins" = true)
    (kr3 : PySem.W.keepIn K (.ref fr3) = true)
    (ar4 : PySem.W.findIn K (.ref CR) "take_word" = some (some (.ref fr4)))
    (ir4 : PySem.W.isFn K (.ref fr4) = true)
    (lr4 : K.lookup fr4 = some ⟨ocr4, odr4, .func (PySem.W.fnOf "take_word" "Reader.take_word" (defArgs mWord) (defBody mWord) (defScope mWord) .none kVr4 dcr4 pmr4 anr4 cdr4 ctr4), slr4⟩)
    (cr4 : PySem.W.codeIn K cdr4 "Reader.take_word" = true)
    (kr4 : PySem.W.keepIn K (.ref fr4) = true)
    (ar5 : PySem.W.findIn K (.ref CR) "take_sign" = some (some (.ref fr5)))
    (ir5 : PySem.W.isFn K (.ref fr5) = true)
    (lr5 : K.lookup fr5 = some ⟨ocr5, odr5, .func (PySem.W.fnOf "take_sign" "Reader.take_sign" (defArgs mSign) (defBody mSign) (defScope mSign) .none kVr5 dcr5 pmr5 anr5 cdr5 ctr5), slr5⟩)
    (cr5 : PySem.W.codeIn K cdr5 "Reader.take_sign" = true)
    (kr5 : PySem.W.keepIn K (.ref fr5) = true)
    (ar6 : PySem.W.findIn K (.ref CR) "take_name" = some (some (.ref fr6)))
    (ir6 : PySem.W.isFn K (.ref fr6) = true)
    (lr6 : K.lookup fr6 = some ⟨ocr6, odr6, .func (PySem.W.fnOf "take_name" "Reader.take_name" (defArgs mName) (defBody mName) (defScope mName) .none kVr6 dcr6 pmr6 anr6 cdr6 ctr6), slr6⟩)
    (cr6 : PySem.W.codeIn K cdr6 "Reader.take_name" = true)
    (kr6 : PySem.W.keepIn K (.ref fr6) = true)
    (pgr : PySem.W.plainGet K CR Str.empty = true)
    (hdr : PySem.W.hasDictIn K CR = true)
    (por : PySem.W.plainOver K CR = true)
    (sar : PySem.W.findIn K (.ref CR) "__setattr__" = some (some (.builtin "object.__setattr__")))
    (mkr : PySem.W.makesIn K CR = true)
    (kcr : PySem.W.keepIn K (.ref CR) = true)
    (nr0 : PySem.W.findIn K (.ref CR) "text" = some none)
    (nr1 : PySem.W.findIn K (.ref CR) "place" = some none)
    (aCv : PySem.W.nsIn K mainGlobals "Level" = some (some (.ref CL)))
    (av0 : PySem.W.findIn K (.ref CL) "__init__" = some (some (.ref fv0)))
    (iv0 : PySem.W.isFn K (.ref fv0) = true)
    (lv0 : K.lookup fv0 = some ⟨ocv0, odv0, .func (PySem.W.fnOf "__init__" "Level.__init__" (defArgs mLInit) (defBody mLInit) (defScope mLInit) .none kVv0 dcv0 pmv0 anv0 cdv0 ctv0), slv0⟩)
    (cv0 : PySem.W.codeIn K cdv0 "Level.__init__" = true)
    (kv0 : PySem.W.keepIn K (.ref fv0) = true)
    (pgv : PySem.W.plainGet K CL Str.empty = true)
    (hdv : PySem.W.hasDictIn K CL = true)
    (pov : PySem.W.plainOver K CL = true)
    (sav : PySem.W.findIn K (.ref CL) "__setattr__" = some (some (.builtin "object.__setattr__")))
    (mkv : PySem.W.makesIn K CL = true)
    (kcv : PySem.W.keepIn K (.ref CL) = true)
    (nv0 : PySem.W.findIn K (.ref CL) "nots" = some none)
    (nv1 : PySem.W.findIn K (.ref CL) "binders" = some none)
    (nv2 : PySem.W.findIn K (.ref CL) "joint" = some none)
    (nv3 : PySem.W.findIn K (.ref CL) "rows" = some none)
    (aE : PySem.W.nsIn K mainGlobals "EMPTY_WORDS" = some (some (.ref dE)))
    (lE : K.lookup dE = some { cls := .type "dict", data := .dict esE nE })
    (klE : PySem.W.KeysLit w.params esE.toList)
    (aS : PySem.W.nsIn K mainGlobals "SIGNS" = some (some (.ref dS)))
    (lS : K.lookup dS = some { cls := .type "dict", data := .dict esS nS })
    (klS : PySem.W.KeysLit w.params esS.toList)
    (aR : PySem.W.nsIn K mainGlobals "EMPTY_ROWS" = some (some (.ref dR)))
    (lR : K.lookup dR = some { cls := .type "dict", data := .dict esR nR })
    (klR : PySem.W.KeysLit w.params esR.toList)
    (aK : PySem.W.nsIn K mainGlobals "KINDS" = some (some (.ref dK)))
    (lK : K.lookup dK = some { cls := .type "dict", data := .dict esK nK })
    (klK : PySem.W.KeysLit w.params esK.toList)
    (o1 : PySem.W.nsIn K dE "and" = some (some (.str "true" t1)))
    (o2 : PySem.W.nsIn K dE "or" = some (some (.str "false" t2)))
    (o3 : PySem.W.nsIn K dS "and" = some (some (.str "&" t3)))
    (o4 : PySem.W.nsIn K dS "or" = some (some (.str "|" t4)))
    (o5 : PySem.W.nsIn K dK "&" = some (some (.str "and" t5)))
    (o6 : PySem.W.nsIn K dK "|" = some (some (.str "or" t6)))
    (lowK : (dK == sysModules) = false)
    (lowR : (dR == sysModules) = false)
    (sz : esR.size = 2)
    (e0 : ∃ (en : DictEntry) (t : Tok), esR[0]? = some en ∧ en.key = Value.str "true" t)
    (e1 : ∃ (en : DictEntry) (t : Tok), esR[1]? = some en ∧ en.key = Value.str "false" t)
    (o7 : PySem.W.nsIn K dR "true" = some (some (.ref aT)))
    (o8 : PySem.W.nsIn K dR "false" = some (some (.ref aF)))
    (lT : K.lookup aT = some { cls := .type "tuple", data := .seq #[.str "and" t7, .ref eT] m1 })
    (lF : K.lookup aF = some { cls := .type "tuple", data := .seq #[.str "or" t8, .ref eF] m2 })
    (lTe : K.lookup eT = some { cls := .type "tuple", data := .seq #[] m3 })
    (lFe : K.lookup eF = some { cls := .type "tuple", data := .seq #[] m4 })
    (z_len : PySem.W.nsIn K mainGlobals "len" = some none)
    (z_max : PySem.W.nsIn K mainGlobals "max" = some none)
    (z_int : PySem.W.nsIn K mainGlobals "int" = some none)
    (z_tuple : PySem.W.nsIn K mainGlobals "tuple" = some none)
    (z_list : PySem.W.nsIn K mainGlobals "list" = some none)
    (z_range : PySem.W.nsIn K mainGlobals "range" = some none)
    (z_isinstance : PySem.W.nsIn K mainGlobals "isinstance" = some none)
    (z_bool : PySem.W.nsIn K mainGlobals "bool" = some none)
    (z_str : PySem.W.nsIn K mainGlobals "str" = some none)
    : ∃ fd : FuncData, (∀ (s : Shared) (v : Value), BindsTo s fd ⟨[v], []⟩ [("script", v)]) ∧ ∀ base : Heap, K.In base → base.Ns mainGlobals mg → FnOk l.prog w K mg base CX0 53 fa fd ["script"] (spLaw K) := by
  have e := hfa.symm.trans (PySem.W.mg_of X G a30)
  cases e
  have B : Bt mg := ⟨PySem.W.mg_none_of X G z_len, PySem.W.mg_none_of X G z_max, PySem.W.mg_none_of X G z_int, PySem.W.mg_none_of X G z_tuple, PySem.W.mg_none_of X G z_list, PySem.W.mg_none_of X G z_range, PySem.W.mg_none_of X G z_isinstance, PySem.W.mg_none_of X G z_bool, PySem.W.mg_none_of X G z_str⟩
  have F0 := fun_mk (st := sWrite) l0 c0 k0
  have b0 := F0.binds (ps := ["formula"]) fun _ _ _ _ _ _ us hl => match us, hl with | [_], _ => rfl
  have m0 := PySem.W.mg_of X G a0
  have F1 := fun_mk (st := sAlone) l1 c1 k1
  have b1 := F1.binds (ps := ["formula"]) fun _ _ _ _ _ _ us hl => match us, hl with | [_], _ => rfl
  have m1 := PySem.W.mg_of X G a1
  have F2 := fun_mk (st := sPieces) l2 c2 k2
  have b2 := F2.binds (ps := ["formula"]) fun _ _ _ _ _ _ us hl => match us, hl with | [_], _ => rfl
  have m2 := PySem.W.mg_of X G a2
  have F3 := fun_mk (st := sJoined) l3 c3 k3
  have b3 := F3.binds (ps := ["rows", "between"]) fun _ _ _ _ _ _ us hl => match us, hl with | [_, _], _ => rfl
  have m3 := PySem.W.mg_of X G a3
  have F4 := fun_mk (st := sGuarded) l4 c4 k4
  have b4 := F4.binds (ps := ["formula"]) fun _ _ _ _ _ _ us hl => match us, hl with | [_], _ => rfl
  have m4 := PySem.W.mg_of X G a4
  have F5 := fun_mk (st := sRead) l5 c5 k5
  have b5 := F5.binds (ps := ["text"]) fun _ _ _ _ _ _ us hl => match us, hl with | [_], _ => rfl
  have m5 := PySem.W.mg_of X G a5
  have F6 := fun_mk (st := sBinders) l6 c6 k6
  have b6 := F6.binds (ps := ["reader"]) fun _ _ _ _ _ _ us hl => match us, hl with | [_], _ => rfl
  have m6 := PySem.W.mg_of X G a6
  have F7 := fun_mk (st := sNots) l7 c7 k7
  have b7 := F7.binds (ps := ["reader"]) fun _ _ _ _ _ _ us hl => match us, hl with | [_], _ => rfl
  have m7 := PySem.W.mg_of X G a7
  have F8 := fun_mk (st := sPlain) l8 c8 k8
  have b8 := F8.binds (ps := ["reader"]) fun _ _ _ _ _ _ us hl => match us, hl with | [_], _ => rfl
  have m8 := PySem.W.mg_of X G a8
  have F9 := fun_mk (st := sNames) l9 c9 k9
  have b9 := F9.binds (ps := ["reader"]) fun _ _ _ _ _ _ us hl => match us, hl with | [_], _ => rfl
  have m9 := PySem.W.mg_of X G a9
  have F10 := fun_mk (st := sClose) l10 c10 k10
  have b10 := F10.binds (ps := ["reader", "levels"]) fun _ _ _ _ _ _ us hl => match us, hl with | [_, _], _ => rfl
  have m10 := PySem.W.mg_of X G a10
  have F11 := fun_mk (st := sJoint) l11 c11 k11
  have b11 := F11.binds (ps := ["reader", "level"]) fun _ _ _ _ _ _ us hl => match us, hl with | [_, _], _ => rfl
  have m11 := PySem.W.mg_of X G a11
  have F12 := fun_mk (st := sWhole) l12 c12 k12
  have b12 := F12.binds (ps := ["level"]) fun _ _ _ _ _ _ us hl => match us, hl with | [_], _ => rfl
  have m12 := PySem.W.mg_of X G a12
  have F13 := fun_mk (st := sDenied) l13 c13 k13
  have b13 := F13.binds (ps := ["formula", "nots"]) fun _ _ _ _ _ _ us hl => match us, hl with | [_, _], _ => rfl
  have m13 := PySem.W.mg_of X G a13
  have F14 := fun_mk (st := sCell) l14 c14 k14
  have b14 := F14.binds (ps := ["script", "k"]) fun _ _ _ _ _ _ us hl => match us, hl with | [_, _], _ => rfl
  have m14 := PySem.W.mg_of X G a14
  have F15 := fun_mk (st := sDigits) l15 c15 k15
  have b15 := F15.binds (ps := ["script", "first", "last"]) fun _ _ _ _ _ _ us hl => match us, hl with | [_, _, _], _ => rfl
  have m15 := PySem.W.mg_of X G a15
  have F16 := fun_mk (st := sBox) l16 c16 k16
  have b16 := F16.binds (ps := ["script", "first", "last"]) fun _ _ _ _ _ _ us hl => match us, hl with | [_, _, _], _ => rfl
  have m16 := PySem.W.mg_of X G a16
  have F17 := fun_mk (st := sDraw) l17 c17 k17
  have b17 := F17.binds (ps := ["box", "many"]) fun _ _ _ _ _ _ us hl => match us, hl with | [_, _], _ => rfl
  have m17 := PySem.W.mg_of X G a17
  have F18 := fun_mk (st := sName) l18 c18 k18
  have b18 := F18.binds (ps := ["box"]) fun _ _ _ _ _ _ us hl => match us, hl with | [_], _ => rfl
  have m18 := PySem.W.mg_of X G a18
  have F19 := fun_mk (st := sFormula) l19 c19 k19
  have b19 := F19.binds (ps := ["box", "kinds", "room"]) fun _ _ _ _ _ _ us hl => match us, hl with | [_, _, _], _ => rfl
  have m19 := PySem.W.mg_of X G a19
  have F20 := fun_mk (st := sBelow) l20 c20 k20
  have b20 := F20.binds (ps := ["box", "kinds", "room", "left"]) fun _ _ _ _ _ _ us hl => match us, hl with | [_, _, _, _], _ => rfl
  have m20 := PySem.W.mg_of X G a20
  have F21 := fun_mk (st := sKinds) l21 c21 k21
  have b21 := F21.binds (ps := ["box"]) fun _ _ _ _ _ _ us hl => match us, hl with | [_], _ => rfl
  have m21 := PySem.W.mg_of X G a21
  have F22 := fun_mk (st := sBare) l22 c22 k22
  have b22 := F22.binds (ps := ["formula"]) fun _ _ _ _ _ _ us hl => match us, hl with | [_], _ => rfl
  have m22 := PySem.W.mg_of X G a22
  have F23 := fun_mk (st := sHeld) l23 c23 k23
  have b23 := F23.binds (ps := ["formula"]) fun _ _ _ _ _ _ us hl => match us, hl with | [_], _ => rfl
  have m23 := PySem.W.mg_of X G a23
  have F24 := fun_mk (st := sText) l24 c24 k24
  have b24 := F24.binds (ps := ["formula"]) fun _ _ _ _ _ _ us hl => match us, hl with | [_], _ => rfl
  have m24 := PySem.W.mg_of X G a24
  have F25 := fun_mk (st := sPlainer) l25 c25 k25
  have b25 := F25.binds (ps := ["formula"]) fun _ _ _ _ _ _ us hl => match us, hl with | [_], _ => rfl
  have m25 := PySem.W.mg_of X G a25
  have F26 := fun_mk (st := sSame) l26 c26 k26
  have b26 := F26.binds (ps := ["actual", "expected"]) fun _ _ _ _ _ _ us hl => match us, hl with | [_, _], _ => rfl
  have m26 := PySem.W.mg_of X G a26
  have F27 := fun_mk (st := sGap) l27 c27 k27
  have b27 := F27.binds (ps := ["box"]) fun _ _ _ _ _ _ us hl => match us, hl with | [_], _ => rfl
  have m27 := PySem.W.mg_of X G a27
  have F28 := fun_mk (st := sLoosePart) l28 c28 k28
  have b28 := F28.binds (ps := ["box", "formula"]) fun _ _ _ _ _ _ us hl => match us, hl with | [_, _], _ => rfl
  have m28 := PySem.W.mg_of X G a28
  have F29 := fun_mk (st := sLoose) l29 c29 k29
  have b29 := F29.binds (ps := ["box", "formula"]) fun _ _ _ _ _ _ us hl => match us, hl with | [_, _], _ => rfl
  have m29 := PySem.W.mg_of X G a29
  have F30 := fun_mk (st := sLaw) l30 c30 k30
  refine ⟨PySem.W.fnOf "law" "law" (defArgs sLaw) (defBody sLaw) (defScope sLaw) .none kV30 dc30 pm30 an30 cd30 ct30, fun s v => .of_eq rfl, fun base _ _ => ?_⟩
  have Gr0 := fun_mk (st := mInit) lr0 cr0 kr0
  have br0 := Gr0.binds (ps := ["self", "text"]) fun _ _ _ _ _ _ us hl => match us, hl with | [_, _], _ => rfl
  have Gr1 := fun_mk (st := mHere) lr1 cr1 kr1
  have br1 := Gr1.binds (ps := ["self"]) fun _ _ _ _ _ _ us hl => match us, hl with | [_], _ => rfl
  have Gr2 := fun_mk (st := mNext) lr2 cr2 kr2
  have br2 := Gr2.binds (ps := ["self"]) fun _ _ _ _ _ _ us hl => match us, hl with | [_], _ => rfl
  have Gr3 := fun_mk (st := mBegins) lr3 cr3 kr3
  have br3 := Gr3.binds (ps := ["self", "word"]) fun _ _ _ _ _ _ us hl => match us, hl with | [_, _], _ => rfl
  have Gr4 := fun_mk (st := mWord) lr4 cr4 kr4
  have br4 := Gr4.binds (ps := ["self", "word"]) fun _ _ _ _ _ _ us hl => match us, hl with | [_, _], _ => rfl
  have Gr5 := fun_mk (st := mSign) lr5 cr5 kr5
  have br5 := Gr5.binds (ps := ["self", "sign"]) fun _ _ _ _ _ _ us hl => match us, hl with | [_, _], _ => rfl
  have Gr6 := fun_mk (st := mName) lr6 cr6 kr6
  have br6 := Gr6.binds (ps := ["self"]) fun _ _ _ _ _ _ us hl => match us, hl with | [_], _ => rfl
  have Tr : RdT K CR := ⟨⟨pgr, hdr, por, sar⟩, nr0, nr1⟩
  have Gv0 := fun_mk (st := mLInit) lv0 cv0 kv0
  have bv0 := Gv0.binds (ps := ["self", "nots", "binders"]) fun _ _ _ _ _ _ us hl => match us, hl with | [_, _, _], _ => rfl
  have Tv : LvT K CL := ⟨⟨pgv, hdv, pov, sav⟩, nv0, nv1, nv2, nv3⟩
  have GH := ok_here (P := l.prog) (w := w) (mg := mg) (base := base) Tr Gr1
  have MH : Meth K CR "here" _ := ⟨ar1, ir1, kr1⟩
  have GN := ok_next (P := l.prog) (w := w) (mg := mg) (base := base) Tr MH GH br1 Gr2
  have MN : Meth K CR "next_sign" _ := ⟨ar2, ir2, kr2⟩
  have GW := ok_word (P := l.prog) (w := w) (mg := mg) (base := base) Tr MH GH br1 Gr4
  have MW : Meth K CR "take_word" _ := ⟨ar4, ir4, kr4⟩
  have R : Rdr l.prog w K mg base CR := ⟨Tr, ⟨⟨_, _, _, [], Tr.cl, MN, GN, br2, .nil⟩⟩, ⟨⟨_, _, _, [], Tr.cl, MW, GW, br4, .nil⟩⟩, ⟨⟨_, _, _, [], Tr.cl, ⟨ar5, ir5, kr5⟩, ok_sign Tr MN GN br2 MW GW br4 Gr5, br5, .nil⟩⟩, ⟨⟨_, _, _, [], Tr.cl, ⟨ar6, ir6, kr6⟩, ok_tname Tr MH GH br1 MN GN br2 Gr6, br6, .nil⟩⟩, ⟨⟨_, _, _, [], Tr.cl, ⟨ar3, ir3, kr3⟩, ok_begins Tr Gr3, br3, .nil⟩⟩⟩
  have mReader : C8.Mak l.prog w K mg base 1 "Reader" CR (spRInit CR) [] := ⟨⟨_, _, _, [], ⟨mkr, ar0, ir0, kcr⟩, ok_rinit Tr Gr0, PySem.W.mg_of X G aCr, br0, .nil⟩⟩
  have mLevel : C8.Mak l.prog w K mg base 1 "Level" CL (spLInit CL) [] := ⟨⟨_, _, _, [], ⟨mkv, av0, iv0, kcv⟩, ok_linit Tv Gv0, PySem.W.mg_of X G aCv, bv0, .nil⟩⟩
  have hE := PySem.W.mg_of X G aE
  have hS := PySem.W.mg_of X G aS
  have hER := PySem.W.mg_of X G aR
  have hK := PySem.W.mg_of X G aK
  have tb := tb_of (w := w) lE klE lS klS o1 o2 o3 o4
  have kn := kn_of (w := w) lK klK lowK o5 o6
  have er := er_of (w := w) lR klR lowR sz e0 e1 o7 o8 lT lF lTe lFe
  have cCell := cal_of (ok_cell (P := l.prog) (w := w) (base := base) B F14) m14 F14.kp b14
  have cDigits := cal_of (ok_digits B cCell F15) m15 F15.kp b15
  have cBox := cal_of (ok_box cDigits F16) m16 F16.kp b16
  have cDraw := cal_of (ok_draw (P := l.prog) (w := w) (base := base) B F17) m17 F17.kp b17
  have cName := cal_of (ok_name cDraw F18) m18 F18.kp b18
  have cKinds := cal_of (ok_kinds cDraw F21) m21 F21.kp b21
  have cBelow := cal_below B cDraw cName F20 m20 b20 25
  have cFormula := cal_of (ok_formula cBelow F19) m19 F19.kp b19
  have cSame := cal_same (P := l.prog) (w := w) (base := base) B F26 m26 b26 51
  have cB := cal_bare (P := l.prog) (w := w) (base := base) B F22 m22 b22
  have cPlainer := cal_plainer B cB F25 m25 b25 25
  have cText := cal_text B cB F24 m24 b24 F23 m23 b23 25 51 (by decide)
  have cGap := cal_of (ok_gap cDraw F27) m27 F27.kp b27
  have cLoose := cal_loose B cDraw cGap cB F29 m29 b29 F28 m28 b28 25 52 (by decide)
  have cAlone := cal_of (ok_alone (P := l.prog) (w := w) (base := base) B F1) m1 F1.kp b1
  have cGuarded := cal_of (ok_guarded B cAlone F4) m4 F4.kp b4
  have cJoined := cal_of (ok_joined B cGuarded F3) m3 F3.kp b3
  have cPieces := cal_of (ok_pieces B hE hS tb cGuarded cJoined F2) m2 F2.kp b2
  have cWrite := cal_of (ok_write B cAlone cPieces F0) m0 F0.kp b0
  have cNots := cal_of (ok_nots R F7) m7 F7.kp b7
  have cBinders := cal_of (ok_binders R F6) m6 F6.kp b6
  have cNames := cal_of (ok_names B R F9) m9 F9.kp b9
  have cPlain := cal_of (ok_plain B R hER er cNames F8) m8 F8.kp b8
  have cDenied := cal_of (ok_denied (P := l.prog) (w := w) (base := base) B F13) m13 F13.kp b13
  have cWhole := cal_of (ok_whole (P := l.prog) (w := w) (base := base) B Tv hK kn F12) m12 F12.kp b12
  have cClose := cal_of (ok_close B R Tv cWhole cDenied F10) m10 F10.kp b10
  have cJoint := cal_of (ok_joint B R Tv hK kn F11) m11 F11.kp b11
  have cRead := cal_of (ok_read B R Tv mReader mLevel cBinders cNots cPlain cDenied cClose cWhole cJoint F5) m5 F5.kp b5
  exact ok_law B cBox cFormula cKinds cText cPlainer cSame cGap cLoose cWrite cRead F30
theorem walk {l : PySem.W.OpenLaw} {q : Program} {loose : List Str} {XP : (Str → Option Value) → Heap → Prop} {YP : World → Heap → Prop} {d : DefRec} {K : Params → PySem.W.Frag} (hn : l.most = some 63) (hdf : d.params.defaults = [])
    (hY : ∀ (w : World) (h : Heap), YP w h → (K w.params).In h)
    (F : ∀ (w : World) (mg : Str → Option Value) (fa : Addr) (h : Heap), (K w.params).In h → h.Ns mainGlobals mg → mg d.name = some (.ref fa) →
      ∃ fd : FuncData, (∀ (s : Shared) (u : Value), BindsTo s fd ⟨[u], []⟩ [("script", u)]) ∧ ∀ base : Heap, (K w.params).In base → base.Ns mainGlobals mg → FnOk l.prog w (K w.params) mg base CX0 53 fa fd ["script"] (spLaw (K w.params))) :
    PySem.W.WalkO q loose XP YP l.row.toRowW d [] (fun f vs => PySem.call f vs) :=
  L2.walk_of (n := 63) (k := 53) (x := "script") (CX := fun _ => CX0) (sp := fun w => spLaw (K w.params)) hn (by decide) hdf ⟨rfl, by decide, by decide⟩ hY F (fun _ _ a ns hl _ hS => ⟨a, ns, rfl, hS, hl, fun _ => rfl⟩) fun _ _ _ _ _ z => z
end K2

open PySem PySem.W PyProof.Rows in
set_option maxRecDepth 100000 in
set_option maxHeartbeats 0 in
theorem PySem.Challenge.cw_finitestructures_k02_formulas_are_writte_holds : PySem.Challenge.rw_finitestructures_k02_formulas_are_writte.Holds := by
  w_on; o_law; k_head; (case hw => w_witness2)
  k_fill
  refine K2.walk (l := PySem.Challenge.rw_finitestructures_k02_formulas_are_writte) rfl rfl (fun w h Y => PySem.W.kIn_of Y) ?F
  case F =>
    intro w mg fa h KX G hmg
    refine' K2.all_mk (w := w) KX G hmg ?a0 ?l0 ?c0 ?k0 ?a1 ?l1 ?c1 ?k1 ?a2 ?l2 ?c2 ?k2 ?a3 ?l3 ?c3 ?k3 ?a4 ?l4 ?c4 ?k4 ?a5 ?l5 ?c5 ?k5 ?a6 ?l6 ?c6 ?k6 ?a7 ?l7 ?c7 ?k7 ?a8 ?l8 ?c8 ?k8 ?a9 ?l9 ?c9 ?k9 ?a10 ?l10 ?c10 ?k10 ?a11 ?l11 ?c11 ?k11 ?a12 ?l12 ?c12 ?k12 ?a13 ?l13 ?c13 ?k13 ?a14 ?l14 ?c14 ?k14 ?a15 ?l15 ?c15 ?k15 ?a16 ?l16 ?c16 ?k16 ?a17 ?l17 ?c17 ?k17 ?a18 ?l18 ?c18 ?k18 ?a19 ?l19 ?c19 ?k19 ?a20 ?l20 ?c20 ?k20 ?a21 ?l21 ?c21 ?k21 ?a22 ?l22 ?c22 ?k22 ?a23 ?l23 ?c23 ?k23 ?a24 ?l24 ?c24 ?k24 ?a25 ?l25 ?c25 ?k25 ?a26 ?l26 ?c26 ?k26 ?a27 ?l27 ?c27 ?k27 ?a28 ?l28 ?c28 ?k28 ?a29 ?l29 ?c29 ?k29 ?a30 ?l30 ?c30 ?k30 ?aCr ?ar0 ?ir0 ?lr0 ?cr0 ?kr0 ?ar1 ?ir1 ?lr1 ?cr1 ?kr1 ?ar2 ?ir2 ?lr2 ?cr2 ?kr2 ?ar3 ?ir3 ?lr3 ?cr3 ?kr3 ?ar4 ?ir4 ?lr4 ?cr4 ?kr4 ?ar5 ?ir5 ?lr5 ?cr5 ?kr5 ?ar6 ?ir6 ?lr6 ?cr6 ?kr6 ?pgr ?hdr ?por ?sar ?mkr ?kcr ?nr0 ?nr1 ?aCv ?av0 ?iv0 ?lv0 ?cv0 ?kv0 ?pgv ?hdv ?pov ?sav ?mkv ?kcv ?nv0 ?nv1 ?nv2 ?nv3 ?aE ?lE ?klE ?aS ?lS ?klS ?aR ?lR ?klR ?aK ?lK ?klK ?o1 ?o2 ?o3 ?o4 ?o5 ?o6 ?lowK ?lowR ?sz ?e0 ?e1 ?o7 ?o8 ?lT ?lF ?lTe ?lFe ?z_len ?z_max ?z_int ?z_tuple ?z_list ?z_range ?z_isinstance ?z_bool ?z_str
    (case a0 => k_is)
    (case l0 => k_is)
    (case c0 => k_is)
    (case k0 => k_is)
    (case a1 => k_is)
    (case l1 => k_is)
    (case c1 => k_is)
    (case k1 => k_is)
    (case a2 => k_is)
    (case l2 => k_is)
    (case c2 => k_is)
    (case k2 => k_is)
    (case a3 => k_is)
    (case l3 => k_is)
    (case c3 => k_is)
    (case k3 => k_is)
    (case a4 => k_is)
    (case l4 => k_is)
    (case c4 => k_is)
    (case k4 => k_is)
    (case a5 => k_is)
    (case l5 => k_is)
    (case c5 => k_is)
    (case k5 => k_is)
    (case a6 => k_is)
    (case l6 => k_is)
    (case c6 => k_is)
    (case k6 => k_is)
    (case a7 => k_is)
    (case l7 => k_is)
    (case c7 => k_is)
    (case k7 => k_is)
    (case a8 => k_is)
    (case l8 => k_is)
    (case c8 => k_is)
    (case k8 => k_is)
    (case a9 => k_is)
    (case l9 => k_is)
    (case c9 => k_is)
    (case k9 => k_is)
    (case a10 => k_is)
    (case l10 => k_is)
    (case c10 => k_is)
    (case k10 => k_is)
    (case a11 => k_is)
    (case l11 => k_is)
    (case c11 => k_is)
    (case k11 => k_is)
    (case a12 => k_is)
    (case l12 => k_is)
    (case c12 => k_is)
    (case k12 => k_is)
    (case a13 => k_is)
    (case l13 => k_is)
    (case c13 => k_is)
    (case k13 => k_is)
    (case a14 => k_is)
    (case l14 => k_is)
    (case c14 => k_is)
    (case k14 => k_is)
    (case a15 => k_is)
    (case l15 => k_is)
    (case c15 => k_is)
    (case k15 => k_is)
    (case a16 => k_is)
    (case l16 => k_is)
    (case c16 => k_is)
    (case k16 => k_is)
    (case a17 => k_is)
    (case l17 => k_is)
    (case c17 => k_is)
    (case k17 => k_is)
    (case a18 => k_is)
    (case l18 => k_is)
    (case c18 => k_is)
    (case k18 => k_is)
    (case a19 => k_is)
    (case l19 => k_is)
    (case c19 => k_is)
    (case k19 => k_is)
    (case a20 => k_is)
    (case l20 => k_is)
    (case c20 => k_is)
    (case k20 => k_is)
    (case a21 => k_is)
    (case l21 => k_is)
    (case c21 => k_is)
    (case k21 => k_is)
    (case a22 => k_is)
    (case l22 => k_is)
    (case c22 => k_is)
    (case k22 => k_is)
    (case a23 => k_is)
    (case l23 => k_is)
    (case c23 => k_is)
    (case k23 => k_is)
    (case a24 => k_is)
    (case l24 => k_is)
    (case c24 => k_is)
    (case k24 => k_is)
    (case a25 => k_is)
    (case l25 => k_is)
    (case c25 => k_is)
    (case k25 => k_is)
    (case a26 => k_is)
    (case l26 => k_is)
    (case c26 => k_is)
    (case k26 => k_is)
    (case a27 => k_is)
    (case l27 => k_is)
    (case c27 => k_is)
    (case k27 => k_is)
    (case a28 => k_is)
    (case l28 => k_is)
    (case c28 => k_is)
    (case k28 => k_is)
    (case a29 => k_is)
    (case l29 => k_is)
    (case c29 => k_is)
    (case k29 => k_is)
    (case a30 => k_is)
    (case l30 => k_is)
    (case c30 => k_is)
    (case k30 => k_is)
    (case aCr => k_is)
    (case ar0 => k_is)
    (case ir0 => k_is)
    (case lr0 => k_is)
    (case cr0 => k_is)
    (case kr0 => k_is)
    (case ar1 => k_is)
    (case ir1 => k_is)
    (case lr1 => k_is)
    (case cr1 => k_is)
    (case kr1 => k_is)
    (case ar2 => k_is)
    (case ir2 => k_is)
    (case lr2 => k_is)
    (case cr2 => k_is)
    (case kr2 => k_is)
    (case ar3 => k_is)
    (case ir3 => k_is)
    (case lr3 => k_is)
    (case cr3 => k_is)
    (case kr3 => k_is)
    (case ar4 => k_is)
    (case ir4 => k_is)
    (case lr4 => k_is)
    (case cr4 => k_is)
    (case kr4 => k_is)
    (case ar5 => k_is)
    (case ir5 => k_is)
    (case lr5 => k_is)
    (case cr5 => k_is)
    (case kr5 => k_is)
    (case ar6 => k_is)
    (case ir6 => k_is)
    (case lr6 => k_is)
    (case cr6 => k_is)
    (case kr6 => k_is)
    (case pgr => k_is)
    (case hdr => k_is)
    (case por => k_is)
    (case sar => k_is)
    (case mkr => k_is)
    (case kcr => k_is)
    (case nr0 => k_is)
    (case nr1 => k_is)
    (case aCv => k_is)
    (case av0 => k_is)
    (case iv0 => k_is)
    (case lv0 => k_is)
    (case cv0 => k_is)
    (case kv0 => k_is)
    (case pgv => k_is)
    (case hdv => k_is)
    (case pov => k_is)
    (case sav => k_is)
    (case mkv => k_is)
    (case kcv => k_is)
    (case nv0 => k_is)
    (case nv1 => k_is)
    (case nv2 => k_is)
    (case nv3 => k_is)
    (case aE => k_is)
    (case lE => k_is)
    (case klE => exact ⟨⟨_, _, rfl, rfl⟩, ⟨_, _, rfl, rfl⟩, trivial⟩)
    (case aS => k_is)
    (case lS => k_is)
    (case klS => exact ⟨⟨_, _, rfl, rfl⟩, ⟨_, _, rfl, rfl⟩, trivial⟩)
    (case aR => k_is)
    (case lR => k_is)
    (case klR => exact ⟨⟨_, _, rfl, rfl⟩, ⟨_, _, rfl, rfl⟩, trivial⟩)
    (case aK => k_is)
    (case lK => k_is)
    (case klK => exact ⟨⟨_, _, rfl, rfl⟩, ⟨_, _, rfl, rfl⟩, trivial⟩)
    (case o1 => k_is)
    (case o2 => k_is)
    (case o3 => k_is)
    (case o4 => k_is)
    (case o5 => k_is)
    (case o6 => k_is)
    (case lowK => rfl)
    (case lowR => rfl)
    (case sz => rfl)
    (case e0 => exact ⟨_, _, rfl, rfl⟩)
    (case e1 => exact ⟨_, _, rfl, rfl⟩)
    (case o7 => k_is)
    (case o8 => k_is)
    (case lT => k_is)
    (case lF => k_is)
    (case lTe => k_is)
    (case lFe => k_is)
    (case z_len => k_is)
    (case z_max => k_is)
    (case z_int => k_is)
    (case z_tuple => k_is)
    (case z_list => k_is)
    (case z_range => k_is)
    (case z_isinstance => k_is)
    (case z_bool => k_is)
    (case z_str => k_is)
