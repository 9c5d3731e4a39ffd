import PyProof.Rows.All
import HandS.ForMost
import HandS.Set
import HandS.SetFor
import PyProof.SetRoads
import PyProof.Rows.SetFrom
import HandS.ForExc
import HandS.Evl
import HandS.CallSlots
import HandS.TryMany
import HandS.IsInst
import HandS.AnyAll
import HandS.TupAny
import HandS.StrMore
import HandS.Flow
import HandS.TryOnly
import HandS.Zip
import HandS.GenList
import HandS.Lambda
import HandS.SortInts
import HandS.SortRule
import HandS.ExcInit
import HandS.ExcField
import HandS.ExcIs
import KE.KExcInit
import HandS.Dict
import HandS.More
import HandS.HeadHook3
import HandS.Head0
import HandS.Head1
import HandS.Head2
import HandS.HeadEnd
import HandS.HeadWalk
import HandS.HeadHook1
import HandS.HeadHook2
import HandS.HeadHook4
import HandS.SortKw
import KE.DataMinMax
import PyProof.Draws
import KE.GoesMore
import KE.KStar
import HandS.DictComp
import HandS.TupMul
import HandS.HotCalls
import HandS.ExcInitHot
import KE.KExcIs
import HandS.ExcBuiltin
import HandS.SuiteRaise
import PySem.Challenge.RW_layeredwords_k00_errors
set_option Elab.async false
set_option linter.all false
set_option maxRecDepth 100000
set_option maxHeartbeats 4000000
/-! E0: sets of texts: made of a list or a tuple, asked, gathered. -/
namespace FL
open PySem PySem.Spec L2 PyProof.Rows
/-- the text of an entry -/
def stx (e : Int × Value) : Str := match e.2 with
  | .str x _ => x
  | _ => ⟨#[]⟩
def TxE (w : World) (e : Int × Value) : Prop := ∃ x t, e.2 = Value.str x t ∧ e.1 = hashStr w x
/-- at a: the set of the texts xs; it can be walked -/
def SetX (w : World) (h : Heap) (a : Addr) (xs : List Str) : Prop :=
  ∃ o es ep t, h.get? a = some o ∧ o.ExactSet ∧ o.data = .set es ep t ∧ (∀ e ∈ es.toList, TxE w e) ∧ (es.toList.map stx).Nodup ∧ (∀ x, x ∈ xs ↔ x ∈ es.toList.map stx) ∧
    es.size < scanBound ∧ t.fits es.size = true ∧ Ris t.place.toList ∧ (w.params.followText "set-order" = true ∨ t.led = true)
section
variable {P : Program} {w : World} {A : Around} {E : Value → Shared → Prop} {s : Shared} {h h' : Heap} {a : Addr} {xs : List Str}
theorem SetX.at (R : SetX w h a xs) (k : ∀ o, h.get? a = some o → h'.get? a = some o) : SetX w h' a xs := by
  obtain ⟨o, es, ep, t, ho, r⟩ := R
  exact ⟨o, es, ep, t, k o ho, r⟩
theorem SetX.same {ys : List Str} (R : SetX w h a xs) (e : ∀ x, x ∈ ys ↔ x ∈ xs) : SetX w h a ys := by
  obtain ⟨o, es, ep, t, h1, h2, h3, h4, h5, h6, r⟩ := R
  exact ⟨o, es, ep, t, h1, h2, h3, h4, h5, fun x => (e x).trans (h6 x), r⟩
theorem txs_elems {l : List (Int × Value)} (g : ∀ e ∈ l, TxE w e) : ElemsOf (PySem.strKind P w) l := fun e he => by
  obtain ⟨x, t, h1, h2⟩ := g e he
  refine ⟨⟨x, ?_, h2⟩, by rw [h1]; rfl⟩
  rw [h1]
  exact strKind_is P w x t
theorem tx_is {e : Int × Value} (g : TxE w e) (x : Str) : (PySem.strKind P w).is x e.2 = true ↔ stx e = x := by
  obtain ⟨y, t, h1, _⟩ := g
  unfold stx
  rw [h1]
  constructor
  · intro q
    obtain ⟨u, e⟩ := Value.isStrOf_shape (show Value.isStrOf x (.str y t) = true from q)
    injection e
  · intro q
    have q : y = x := q
    rw [← q]
    exact strKind_is P w y t
theorem tx_mem {l : List (Int × Value)} (g : ∀ e ∈ l, TxE w e) (x : Str) : x ∈ l.map stx ↔ ∃ e ∈ l, (PySem.strKind P w).is x e.2 = true :=
  ⟨fun q => let ⟨e, he, z⟩ := List.mem_map.mp q; ⟨e, he, (tx_is (g e he) x).mpr z⟩, fun ⟨e, he, z⟩ => List.mem_map.mpr ⟨e, he, (tx_is (g e he) x).mp z⟩⟩
theorem SetX.setOf (R : SetX w h a xs) : ∃ n, h.SetOf (PySem.strKind P w) a (fun x => decide (x ∈ xs)) n := by
  obtain ⟨o, es, ep, t, ho, hx, hd, g, nd, hm, hb, hf, _⟩ := R
  exact ⟨es.size, o, es, ep, t, ho, hx, hd, txs_elems g, fun x => by rw [decide_eq_true_eq]; exact (hm x).trans (tx_mem g x), hb, hf, rfl⟩
/-- the state is stored; the table may be laid anew -/
theorem tx_tail {g : Bool → Sem Unit} (hg : ∀ (b : Bool) (s₁ : Shared) (Q' : Unit → Shared → Prop), Q' () s₁ → wpAny (model P w) A (g b) Q' E s₁)
    {o : Obj} {es : Array (Int × Value)} {ep : Nat} {t : SetTable} (ho : s.heap.get? a = some o) (hex : o.ExactSet) (hd : o.data = .set es ep t)
    {fs : Array (Int × Value)} {t2 : SetTable} {ys : List Str} (g1 : ∀ e ∈ fs.toList, TxE w e) (nd : (fs.toList.map stx).Nodup) (m1 : ∀ x, x ∈ ys ↔ x ∈ fs.toList.map stx)
    (hb : fs.size < scanBound) (hf : t2.fits fs.size = true) (hr : Ris t2.place.toList) (hl : w.params.followText "set-order" = true ∨ t2.led = true) {du : Bool} {R : Option Bool → Shared → Prop}
    (hR : ∀ h', Heap.SameBut a s.heap h' → SetX w h' a ys → R (some true) { s with heap := h' }) :
    wpAny (model P w) A (storeSet a fs t2 >>= fun _ => if (!du && t2.tooFull) = true then g (relayAll t2 fs (SetTable.grown fs.size)).2.2 >>= fun _ => storeSet a (relayAll t2 fs (SetTable.grown fs.size)).1 (relayAll t2 fs (SetTable.grown fs.size)).2.1 >>= fun _ => pure (some true) else pure (some true)) R E s := by
  refine wpAny_bind (wpAny_storeSet_of ho hd ?_ (fits_of_scanBound hb))
  have ho1 := store_at (es' := fs) (t' := t2) ho hd
  have b1 := Heap.SameBut.update s.heap a (Obj.putSet fs t2)
  by_cases c : (!du && t2.tooFull) = true
  · rw [if_pos c]
    have pm := relayAll_perm t2 fs (SetTable.grown fs.size)
    have f3 := relayAll_fits t2 fs (SetTable.grown fs.size)
    have r3 := relayAll_ris t2 fs (SetTable.grown fs.size)
    have l3 := relayAll_led t2 fs (SetTable.grown fs.size)
    generalize relayAll t2 fs (SetTable.grown fs.size) = Z at pm f3 r3 l3 ⊢
    obtain ⟨fs2, t3, gv⟩ := Z
    dsimp only at pm f3 r3 l3 ⊢
    have hz : fs2.size = fs.size := by rw [← Array.length_toList, pm.length_eq, Array.length_toList]
    have hb2 : fs2.size < scanBound := hz ▸ hb
    refine wpAny_bind (hg _ _ _ (wpAny_bind (wpAny_storeSet_of ho1 rfl ?_ (fits_of_scanBound hb2))))
    have ho2 := store_at (es' := fs2) (t' := t3) ho1 rfl
    exact wpAny_pure (hR _ (b1.trans (Heap.SameBut.update _ a _)) ⟨_, fs2, _, t3, ho2, hex, rfl, fun e he => g1 e (pm.mem_iff.mp he), (pm.map stx).nodup_iff.mpr nd, fun x => (m1 x).trans (pm.map stx).mem_iff.symm, hb2, f3, r3, hl.imp id fun z => by rw [l3]; exact z⟩)
  · rw [if_neg c]
    exact wpAny_pure (hR _ b1 ⟨_, fs, _, t2, ho1, hex, rfl, g1, nd, m1, hb, hf, hr, hl⟩)
/-- a text is added -/
theorem tx_add {x : Str} {u : Tok} {Q : Bool → Shared → Prop} (R : SetX w s.heap a xs) {n : Nat} (few : ∀ l : List Str, l.Nodup → (∀ y ∈ l, y ∈ xs) → l.length ≤ n) (room : n + 1 < scanBound)
    (hQ : ∀ b h', Heap.SameBut a s.heap h' → SetX w h' a (x :: xs) → Q b { s with heap := h' }) :
    wpAny (model P w) A (setAddHashed a (.str x u) (hashStr w x)) Q E s := by
  obtain ⟨o, es, ep, t, ho, hex, hd, g, nd, hm, hb, hf, hr, hl⟩ := R
  have hk : (PySem.strKind P w).is x (.str x u) = true := strKind_is P w x u
  have hel : ElemsOf (PySem.strKind P w) es.toList := txs_elems g
  have hes : es.size ≤ n := by
    have := few (es.toList.map stx) nd fun y hy => (hm y).mpr hy
    rw [List.length_map, Array.length_toList] at this
    exact this
  unfold setAddHashed setAddHashedIn
  refine wpAny_holding (wpAny_bind (wpAny_setState_of ho hd hf ?_))
  dsimp only
  rw [byScan_of rfl hb hel]
  simp only [↓reduceIte]
  unfold setAddByScan
  refine wpAny_bind (wpAny_bind (wpAny_rule (wpAny_bind (wpAny_setScan_of (knd := PySem.strKind P w) (k := x) hk ho hd hf hel ?_))))
  cases fi : List.findIdx? (fun e => (PySem.strKind P w).is x e.2) es.toList with
  | some j =>
    dsimp only
    obtain ⟨hj, pj, _⟩ := List.findIdx?_eq_some_iff_getElem.mp fi
    have hx : x ∈ xs := (hm x).mpr ((tx_mem (P := P) (w := w) g x).mpr ⟨es.toList[j], List.getElem_mem hj, pj⟩)
    refine wpAny_pure (wpAny_pure (hQ false s.heap (Heap.SameBut.refl a s.heap) ⟨o, es, ep, t, ho, hex, hd, g, nd, fun y => ?_, hb, hf, hr, hl⟩))
    rw [List.mem_cons, ← hm y]
    exact ⟨fun z => z.elim (fun e => e ▸ hx) id, .inr⟩
  | none =>
    dsimp only
    have hx : x ∉ es.toList.map stx := fun z => by
      obtain ⟨e, he, q⟩ := (tx_mem (P := P) (w := w) g x).mp z
      have c := List.findIdx?_eq_none_iff.mp fi e he
      rw [q] at c
      cases c
    have hgw : ∀ (b : Bool) {s₁ : Shared} {Q' : Unit → Shared → Prop}, Q' () s₁ → wpAny (model P w) A (match b with | true => rule "set.scan.the-table-gave-way" | false => pure ()) Q' E s₁ :=
      fun b s₁ Q' q => by cases b <;> first | exact wpAny_pure q | exact wpAny_rule q
    have hgw' : ∀ (b : Bool) (s₁ : Shared) (Q' : Unit → Shared → Prop), Q' () s₁ → wpAny (model P w) A (match b with | true => rule "set.scan.the-table-gave-way" | false => pure ()) Q' E s₁ := fun b s₁ Q' q => hgw b q
    have pm := layNew_perm t es (hashStr w x) (.str x u)
    have f1 := layNew_fits t es (hashStr w x) (.str x u)
    have r1 := layNew_ris t es (hashStr w x) (.str x u) hr
    have l1 := layNew_led t es (hashStr w x) (.str x u)
    have eH : (PySem.strKind P w).hash x = hashStr w x := rfl
    generalize layNew t es (hashStr w x) (.str x u) = Z at pm f1 r1 l1 ⊢
    obtain ⟨fs, t1, du, gv⟩ := Z
    dsimp only at pm f1 r1 l1 ⊢
    rw [Array.toList_push] at pm
    have pc : fs.toList.Perm ((hashStr w x, Value.str x u) :: es.toList) := pm.trans (List.perm_append_singleton _ _)
    have pk : (fs.toList.map stx).Perm (x :: es.toList.map stx) := pc.map stx
    have g1 : ∀ e ∈ fs.toList, TxE w e := fun e he => (List.mem_cons.mp (pc.mem_iff.mp he)).elim (fun z => z ▸ ⟨x, u, rfl, rfl⟩) (g e)
    have nd1 : (fs.toList.map stx).Nodup := pk.nodup_iff.mpr (List.nodup_cons.mpr ⟨hx, nd⟩)
    have m1 : ∀ y, y ∈ x :: xs ↔ y ∈ fs.toList.map stx := fun y => by rw [pk.mem_iff, List.mem_cons, List.mem_cons, hm y]
    have hz : fs.size = es.size + 1 := by rw [← Array.length_toList, pc.length_eq, List.length_cons, Array.length_toList]
    have hb1 : fs.size < scanBound := by omega
    have led : w.params.followText "set-order" = true ∨ t1.led = true := hl.imp id fun z => by rw [l1]; exact z
    refine wpAny_bind (hgw _ ?_)
    by_cases hp : t1.plain = true
    · rw [if_pos hp]
      refine wpAny_bind ?_
      rw [hashByValue_scannable 8 (x := Value.str x u) rfl]
      refine wpAny_pure ?_
      refine tx_tail (ys := x :: xs) hgw' ho hex hd g1 nd1 m1 hb1 ?_ ?_ ?_ fun h' sb r => ?_
      · first | (split <;> first | exact f1 | exact SetTable.fits_plain_off f1) | exact f1
      · first | (split <;> exact r1) | exact r1
      · first | (split <;> exact led) | exact led
      · dsimp only
        exact wpAny_pure (hQ true h' sb r)
    · rw [if_neg hp]
      refine wpAny_bind (wpAny_pure ?_)
      simp only [↓reduceIte]
      refine tx_tail (ys := x :: xs) hgw' ho hex hd g1 nd1 m1 hb1 f1 r1 led fun h' sb r => ?_
      dsimp only
      exact wpAny_pure (hQ true h' sb r)
end
end FL

set_option Elab.async false
set_option linter.all false
set_option maxRecDepth 100000
set_option maxHeartbeats 4000000
/-! E1: set(xs), sorted(set). -/
namespace FL
open PySem PySem.Spec L2 PyProof.Rows
theorem nodup_few : ∀ (l m : List Str), l.Nodup → (∀ x ∈ l, x ∈ m) → l.length ≤ m.length
  | [], _, _, _ => Nat.zero_le _
  | x :: l, m, hn, hs => by
    obtain ⟨h1, h2⟩ := List.nodup_cons.mp hn
    obtain ⟨p, q, e⟩ := List.append_of_mem (hs x List.mem_cons_self)
    have := nodup_few l (p ++ q) h2 fun y hy => by
      have := hs y (List.mem_cons_of_mem _ hy)
      rw [e] at this
      rcases List.mem_append.mp this with z | z
      · exact List.mem_append_left _ z
      · rcases List.mem_cons.mp z with z | z
        · rw [z] at hy; exact absurd hy h1
        · exact List.mem_append_right _ z
    rw [e]
    simp only [List.length_append, List.length_cons] at this ⊢
    omega
section
variable {P : Program} {w : World} {A : Around} {E : Value → Shared → Prop} {s : Shared} {a : Addr}
abbrev freshX (w : World) : Obj := { cls := .type "set", dict := none, data := .set #[] 0 (.fresh 0 0 (!w.params.followText "set-order")) }
theorem setX_new {h : Heap} (ho : h.get? a = some (freshX w)) : SetX w h a [] := by
  refine ⟨_, #[], 0, _, ho, ⟨rfl, rfl, rfl⟩, rfl, fun e he => absurd he (by simp), by simp, fun k => by simp, by decide, by rfl, List.Pairwise.nil, ?_⟩
  show _ ∨ (!w.params.followText "set-order") = true
  cases w.params.followText "set-order"
  · exact .inr rfl
  · exact .inl rfl
theorem tx_loop {I : Addr} {fp wr : List Addr} {G : Array GenState → Array GenState → Prop} {n : Nat} {Pv : Nat → Value → Prop} {St : Nat → Shared → Prop} {R : Result → Shared → Prop}
    (W : WalksS P w A.in1 I fp wr G n Pv St) (S : Addr) (hSf : S ∉ fp) (xs : List Str) (hn : n = xs.length) (hb : xs.length + 1 < scanBound) (hv : ∀ i v, Pv i v → ∃ x t, xs[i]? = some x ∧ v = .str x t) :
    ∀ (k i : Nat) (s : Shared), n - i = k → i ≤ n → St i s → SetX w s.heap S (xs.take i) → (∀ s', Moved (S :: wr) G s s' → SetX w s'.heap S xs → R (.ok (.ret .none)) s') →
      codeAny (model P w) A (.builtin "set.update.loop" ⟨[.ref S, .ref I], []⟩) R s := by
  have hSw : S ∉ wr := fun h => hSf (W.sub _ h)
  have up : ∀ b ∈ wr, b ∈ S :: wr := fun b hb => List.mem_cons_of_mem _ hb
  intro k
  induction k with
  | zero =>
    intro i s hk hi hst hS hR
    obtain rfl : i = n := by omega
    refine codeAny_builtin F.entry_set_update_loop ?_
    rw [Around.under_plainId F.plain_set_update_loop _]
    show wpAny _ A.in1 (pyNext (.ref I) >>= _) _ _ s
    refine wpAny_bind (W.done s _ _ hst fun s' hm => ?_)
    show wpAny _ A.in1 (ret Value.none) _ _ s'
    rw [List.take_of_length_le (by omega)] at hS
    exact wpAny_pure (hR s' (hm.mono up) (hS.at fun o e => hm.heap S o hSw e))
  | succ k ih =>
    intro i s hk hi hst hS hR
    have hlt : i < n := by omega
    refine codeAny_builtin F.entry_set_update_loop ?_
    rw [Around.under_plainId F.plain_set_update_loop _]
    show wpAny _ A.in1 (pyNext (.ref I) >>= _) _ _ s
    refine wpAny_bind (W.item i s _ _ hlt hst fun v s' hP hst' hm => ?_)
    obtain ⟨x, t, hx, rfl⟩ := hv i v hP
    have hS' : SetX w s'.heap S (xs.take i) := hS.at fun o e => hm.heap S o hSw e
    show wpAny _ A.in1 (holding [Value.str x t] (setAdd S (.str x t)) >>= _) _ _ s'
    refine wpAny_bind (wpAny_holding ?_)
    unfold setAdd
    refine wpAny_holding (wpAny_bind ((PySem.strKind P w).pyHash (k := x) (strKind_is _ _ _ _) ?_))
    have hl : (xs.take i).length = i := by rw [List.length_take]; omega
    refine tx_add (s := { s' with toks := s'.toks + 1 }) hS' (n := i) (fun l d hs => by have := nodup_few l _ d hs; omega) (by omega) fun b h' hsb hS2 => ?_
    have hS3 : SetX w h' S (xs.take (i + 1)) := hS2.same fun y => by
      rw [List.take_add_one, hx, List.mem_append, List.mem_cons]
      simp [or_comm]
    refine wpAny_pure ⟨plainId_quiet F.plain_set_update_loop _, ih (i + 1) _ (by omega) hlt (W.frame _ s' _ _ hst' (Nat.le_succ _) fun b hb o e => ?_) hS3 fun s'' hm'' hS'' => ?_⟩
    · rw [hsb.2 b (fun h : b = S => hSf (by rw [← h]; exact hb))]; exact e
    · refine hR s'' (Moved.trans W.gtrans ((hm.mono up).then_heap (Nat.le_succ _) fun b o hb e => ?_) hm'') hS''
      rw [hsb.2 b (fun h : b = S => hb (by rw [h]; exact List.mem_cons_self))]; exact e
end
end FL

set_option Elab.async false
set_option linter.all false
set_option maxRecDepth 100000
set_option maxHeartbeats 1000000
/-! F0: data by value, what a def does as a function of data, and how that lies in the heap. -/
namespace FL
open PySem L2
open Evl (Ex)

/-- data by value -/
inductive D where
  | non
  | bl (b : Bool)
  | int (i : Int)
  | str (x : Str)
  | tup (xs : List D)
  | lst (xs : List D)
  | spt
  | scr (xs : List Int)
  | ty (n : String)
  | exn (a dd : Addr) (x : Str) (ns : List Str) (ds : List D)
  | set (xs : List Str)
  | sti (xs : List Int)
  | dct (ks : List Str) (ds : List D)

structure Exn where
  cls : Str
  fs : List (Str × D)

/-- the counter's state: none as yet, or its number -/
abbrev CT := Option Int
/-- what running gives, the counter behind it -/
inductive R (α : Type) where
  | ok (a : α) (c : CT)
  | ex (x : Exn) (c : CT)
  | bad
abbrev M (α : Type) := CT → R α
def ret {α : Type} (a : α) : M α := fun c => .ok a c
def bnd {α β : Type} (m : M α) (k : α → M β) : M β := fun c => match m c with
  | .ok a c' => k a c'
  | .ex x c' => .ex x c'
  | .bad => .bad
def lft {α : Type} (o : Option α) : M α := fun c => match o with
  | some a => .ok a c
  | none => .bad
def wpR {α : Type} (r : R α) (Q : α → CT → Prop) (E : Exn → CT → Prop) : Prop := match r with
  | .ok a c => Q a c
  | .ex x c => E x c
  | .bad => False
theorem wpR_mono {α : Type} {r : R α} {Q Q' : α → CT → Prop} {E E' : Exn → CT → Prop} (h : wpR r Q E) (hq : ∀ a c, Q a c → Q' a c) (he : ∀ x c, E x c → E' x c) : wpR r Q' E' := by
  cases r with
  | ok a c => exact hq _ _ h
  | ex x c => exact he _ _ h
  | bad => exact h
theorem wpR_bnd {α β : Type} {m : M α} {k : α → M β} {c : CT} {Q : β → CT → Prop} {E : Exn → CT → Prop} (h : wpR (bnd m k c) Q E) : wpR (m c) (fun a c' => wpR (k a c') Q E) E := by
  unfold bnd at h
  cases hm : m c with
  | ok a c' => rw [hm] at h; exact h
  | ex x c' => rw [hm] at h; exact h
  | bad => rw [hm] at h; exact h
theorem wpR_lft {α : Type} {o : Option α} {c : CT} {Q : α → CT → Prop} {E : Exn → CT → Prop} (h : wpR (lft o c) Q E) : ∃ a, o = some a ∧ Q a c := by
  cases o with
  | some a => exact ⟨a, rfl, h⟩
  | none => exact h.elim

/-- a slot: empty, a value that is not changed any more, a list of this def's own -/
inductive Sl where
  | no
  | va (d : D)
  | ow (xs : List D)
abbrev En := List Sl

/-- what is fixed through the law -/
structure FX where
  K : PySem.W.Frag
  TL : List Addr
  CL : Str → Option Addr
  w : World
/-- the set of texts, in a heap by words -/
def setH (w : World) (a : Addr) (xs : List Str) : HO := .ext fun h => SetX w h a xs

/-- a tuple: tracked, or one of the module's own -/
def TupAt (K : PySem.W.Frag) (H : Hp) (a : Addr) (xs : List V) : Prop :=
  H a = some (.tup xs) ∨ ∃ (o : Obj) (its : Array Value) (n : Nat), K.lookup a = some o ∧ o.cls = .type "tuple" ∧ o.data = .seq its n ∧ its.size ≤ sizeLine ∧ Vals xs its.toList
theorem TupAt.sq {K : PySem.W.Frag} {H : Hp} {a : Addr} {xs : List V} (h : TupAt K H a xs) : SqT K H a xs := by
  rcases h with h | h
  · exact .inl (.inl h)
  · exact .inr h
theorem TupAt.ex {K : PySem.W.Frag} {H H' : Hp} {a : Addr} {xs : List V} (e : Ex H H') (h : TupAt K H a xs) : TupAt K H' a xs := by
  rcases h with h | h
  · exact .inl (e a _ h)
  · exact .inr h
section
variable (F : FX) (s : Option Addr) (G : Hp)
mutual
def Rep : D → V → Prop
  | .non, v => v = .non
  | .bl b, v => v = .bl b
  | .int i, v => v = .int i
  | .str x, v => v = .str x
  | .tup ds, v => ∃ a vs, v = .ref a ∧ TupAt F.K G a vs ∧ RepL ds vs
  | .lst ds, v => ∃ a vs, v = .ref a ∧ G a = some (.lst vs) ∧ RepL ds vs
  | .scr ns, v => ∃ a, v = .ref a ∧ SqL F.K G a (ns.map V.int)
  | .ty n, v => v = .ty n
  | .spt, v => ∃ a, v = .ref a ∧ s = some a
  | .exn a dd _ ns ds, v => v = .ref a ∧ ∃ fs : List (Str × V), G dd = some (.xd fs) ∧ fs.map (fun p => p.1) = ns ∧ RepL ds (fs.map fun p => p.2)
  | .set xs, v => ∃ a, v = .ref a ∧ G a = some (setH F.w a xs)
  | .sti xs, v => ∃ a n, v = .ref a ∧ G a = some (.set (fun k => xs.any (· == k)) n)
  | .dct ks ds, v => ∃ a vs, v = .ref a ∧ G a = some (.dK ((ks.map Sum.inr).zip vs)) ∧ ks.length = ds.length ∧ RepL ds vs
def RepL : List D → List V → Prop
  | [], vs => vs = []
  | d :: ds, vs => ∃ v r, vs = v :: r ∧ Rep d v ∧ RepL ds r
end
end
section
variable {F : FX} {s s' : Option Addr} {G G' : Hp}
mutual
theorem Rep.mono (e : Ex G G') (hs : ∀ a, s = some a → s' = some a) : ∀ (d : D) (v : V), Rep F s G d v → Rep F s' G' d v
  | .non, _, h => h
  | .bl _, _, h => h
  | .int _, _, h => h
  | .str _, _, h => h
  | .tup ds, _, ⟨a, vs, h1, h2, h3⟩ => ⟨a, vs, h1, h2.ex e, RepL.mono e hs ds vs h3⟩
  | .lst ds, _, ⟨a, vs, h1, h2, h3⟩ => ⟨a, vs, h1, e a _ h2, RepL.mono e hs ds vs h3⟩
  | .scr ns, _, ⟨a, h1, h2⟩ => ⟨a, h1, Evl.ex_l e h2⟩
  | .ty _, _, h => h
  | .spt, _, ⟨a, h1, h2⟩ => ⟨a, h1, hs a h2⟩
  | .exn _ dd _ ns ds, _, ⟨h1, fs, h2, h3, h4⟩ => ⟨h1, fs, e dd _ h2, h3, RepL.mono e hs ds _ h4⟩
  | .set _, _, ⟨a, h1, h2⟩ => ⟨a, h1, e a _ h2⟩
  | .sti _, _, ⟨a, n, h1, h2⟩ => ⟨a, n, h1, e a _ h2⟩
  | .dct _ ds, _, ⟨a, vs, h1, h2, h4, h3⟩ => ⟨a, vs, h1, e a _ h2, h4, RepL.mono e hs ds vs h3⟩
theorem RepL.mono (e : Ex G G') (hs : ∀ a, s = some a → s' = some a) : ∀ (ds : List D) (vs : List V), RepL F s G ds vs → RepL F s' G' ds vs
  | [], _, h => h
  | d :: ds, _, ⟨v, r, h1, h2, h3⟩ => ⟨v, r, h1, Rep.mono e hs d v h2, RepL.mono e hs ds r h3⟩
end
theorem RepL.length : ∀ {ds : List D} {vs : List V}, RepL F s G ds vs → vs.length = ds.length
  | [], _, h => by cases (show _ = _ from h); rfl
  | _ :: ds, _, ⟨v, r, h1, _, h3⟩ => by rw [h1, List.length_cons, List.length_cons, RepL.length h3]
theorem RepL.get : ∀ {ds : List D} {vs : List V} {i : Nat} {d : D}, RepL F s G ds vs → ds[i]? = some d → ∃ v, vs[i]? = some v ∧ Rep F s G d v
  | [], _, _, _, _, e => by simp at e
  | _ :: ds, _, 0, d, ⟨v, r, h1, h2, _⟩, e => by
    simp at e
    subst e
    exact ⟨v, by rw [h1]; rfl, h2⟩
  | _ :: ds, _, i + 1, d, ⟨v, r, h1, _, h3⟩, e => by
    obtain ⟨u, q1, q2⟩ := RepL.get (i := i) (d := d) h3 (by simpa using e)
    exact ⟨u, by rw [h1]; simpa using q1, q2⟩
theorem RepL.append : ∀ {ds es : List D} {vs us : List V}, RepL F s G ds vs → RepL F s G es us → RepL F s G (ds ++ es) (vs ++ us)
  | [], _, _, _, h, q => by
    have e : _ = [] := h
    rw [e]
    exact q
  | _ :: ds, _, _, _, ⟨v, r, h1, h2, h3⟩, q => ⟨v, r ++ _, by rw [h1]; rfl, h2, RepL.append h3 q⟩
theorem RepL.take : ∀ {ds : List D} {vs : List V} (n : Nat), RepL F s G ds vs → RepL F s G (ds.take n) (vs.take n)
  | _, _, 0, _ => by rw [List.take_zero, List.take_zero]; rfl
  | [], _, n + 1, h => by cases (show _ = _ from h); rfl
  | _ :: ds, _, n + 1, ⟨v, r, h1, h2, h3⟩ => ⟨v, r.take n, by rw [h1]; rfl, h2, RepL.take n h3⟩
theorem RepL.drop : ∀ {ds : List D} {vs : List V} (n : Nat), RepL F s G ds vs → RepL F s G (ds.drop n) (vs.drop n)
  | _, _, 0, h => h
  | [], _, n + 1, h => by cases (show _ = _ from h); rfl
  | _ :: ds, _, n + 1, ⟨v, r, h1, h2, h3⟩ => by rw [h1]; exact RepL.drop n h3
end

/-- what may change under everything: the counter's cell, the tables of the code objects -/
structure Vol (F : FX) (s : Option Addr) (c : CT) (G H : Hp) : Prop where
  sp : ∀ a, s = some a → G a = none ∧ ∃ n : Int, c = some n ∧ H a = some (.lst [.int n])
  tb : ∀ P ∈ F.TL, G P = none ∧ GxR.TabG H P
/-- from one state to a later one -/
structure Nxt (F : FX) (s : Option Addr) (G H : Hp) (s' : Option Addr) (G' H' : Hp) (c' : CT) : Prop where
  g : Ex G G'
  h : ∀ a o, s ≠ some a → a ∉ F.TL → H a = some o → H' a = some o
  gh : Ex G' H'
  nw : ∀ p, G p = none → H p ≠ none → G' p = none
  vo : Vol F s' c' G' H'
  ss : s' = s ∨ (s = none ∧ ∀ a, s' = some a → H a = none)
section
variable {F : FX} {s s1 s2 : Option Addr} {G H G1 H1 G2 H2 : Hp} {c c1 c2 : CT}
theorem Nxt.refl (e : Ex G H) (v : Vol F s c G H) : Nxt F s G H s G H c := ⟨Ex.refl G, fun _ _ _ _ x => x, e, fun _ x _ => x, v, .inl rfl⟩
theorem Nxt.sub (n : Nxt F s G H s1 G1 H1 c1) : ∀ a, s = some a → s1 = some a := fun a h => by
  rcases n.ss with e | ⟨e, _⟩
  · rw [e]; exact h
  · rw [e] at h; cases h
theorem Nxt.there (n : Nxt F s G H s1 G1 H1 c1) {a : Addr} (h : H a ≠ none) : H1 a ≠ none := by
  by_cases h1 : s = some a
  · obtain ⟨m, _, q⟩ := (n.vo.sp a (n.sub a h1)).2
    rw [q]; exact fun z => nomatch z
  · by_cases h2 : a ∈ F.TL
    · obtain ⟨ps, e, _⟩ := (n.vo.tb a h2).2
      rw [e]; exact fun z => nomatch z
    · cases e : H a with
      | none => exact absurd e h
      | some o => rw [n.h a o h1 h2 e]; exact fun z => nomatch z
theorem Nxt.back (n : Nxt F s G H s1 G1 H1 c1) {a : Addr} (h : H1 a = none) : H a = none := by
  cases e : H a with
  | none => rfl
  | some o => exact absurd h (n.there (by rw [e]; exact fun z => nomatch z))
theorem Nxt.trans (n : Nxt F s G H s1 G1 H1 c1) (m : Nxt F s1 G1 H1 s2 G2 H2 c2) : Nxt F s G H s2 G2 H2 c2 where
  g := n.g.trans m.g
  h := fun a o h1 h2 e => m.h a o (fun z => by
    rcases n.ss with q | ⟨_, q⟩
    · rw [q] at z; exact h1 z
    · rw [q a z] at e; cases e) h2 (n.h a o h1 h2 e)
  gh := m.gh
  nw := fun p h1 h2 => m.nw p (n.nw p h1 h2) (n.there h2)
  vo := m.vo
  ss := by
    rcases n.ss with e | ⟨e, q⟩
    · subst e
      rcases m.ss with e2 | ⟨e2, q2⟩
      · exact .inl e2
      · exact .inr ⟨e2, fun a z => n.back (q2 a z)⟩
    · rcases m.ss with e2 | ⟨e2, q2⟩
      · subst e2
        exact .inr ⟨e, q⟩
      · exact .inr ⟨e, fun a z => n.back (q2 a z)⟩
theorem vol_new {p : Addr} {o : HO} (v : Vol F s c G H) (hp : H p = none) (go : Bool) : Vol F s c (if go then upd G p o else G) (upd H p o) where
  sp := fun a e => by
    obtain ⟨h1, m, h3, h2⟩ := v.sp a e
    have ne : a ≠ p := ne_of_none h2 hp
    refine ⟨?_, m, h3, by rw [upd_ne ne]; exact h2⟩
    cases go
    · exact h1
    · exact (upd_ne ne).trans h1
  tb := fun P hP => by
    obtain ⟨h1, ps, h2, h3⟩ := v.tb P hP
    have ne : P ≠ p := ne_of_none h2 hp
    refine ⟨?_, ps, by rw [upd_ne ne]; exact h2, h3⟩
    cases go
    · exact h1
    · exact (upd_ne ne).trans h1
/-- a new object, known to all -/
theorem Nxt.new {p : Addr} {o : HO} (n : Nxt F s G H s1 G1 H1 c1) (hp : H1 p = none) : Nxt F s G H s1 (upd G1 p o) (upd H1 p o) c1 where
  g := n.g.trans (Ex.new (by
    cases e : G1 p with
    | none => rfl
    | some u => rw [n.gh p u e] at hp; cases hp))
  h := fun a o' h1 h2 e => by
    have e1 := n.h a o' h1 h2 e
    rw [upd_ne (ne_of_none e1 hp)]; exact e1
  gh := fun a o' e => by
    by_cases q : a = p
    · subst q
      rw [upd_same] at e ⊢
      exact e
    · rw [upd_ne q] at e ⊢
      exact n.gh a o' e
  nw := fun q h1 h2 => by
    have ne : q ≠ p := fun z => h2 (by rw [z]; exact n.back hp)
    rw [upd_ne ne]; exact n.nw q h1 h2
  vo := vol_new (go := true) n.vo hp
  ss := n.ss
/-- a new object of this def's own -/
theorem Nxt.newO {p : Addr} {o : HO} (n : Nxt F s G H s1 G1 H1 c1) (hp : H1 p = none) : Nxt F s G H s1 G1 (upd H1 p o) c1 where
  g := n.g
  h := fun a o' h1 h2 e => by
    have e1 := n.h a o' h1 h2 e
    rw [upd_ne (ne_of_none e1 hp)]; exact e1
  gh := fun a o' e => by
    have e1 := n.gh a o' e
    rw [upd_ne (ne_of_none e1 hp)]; exact e1
  nw := n.nw
  vo := vol_new (go := false) n.vo hp
  ss := n.ss
end

/-- a value that is known, or (b) a list of this def's own -/
def RepB (b : Bool) (F : FX) (s : Option Addr) (G H : Hp) (d : D) (v : V) : Prop :=
  Rep F s G d v ∨ (b = true ∧ ∃ p vs ds, d = .lst ds ∧ v = .ref p ∧ s ≠ some p ∧ G p = none ∧ H p = some (.lst vs) ∧ RepL F s G ds vs)
theorem not_tab {F : FX} {s : Option Addr} {c : CT} {G H : Hp} {p : Addr} {vs : List V} (v : Vol F s c G H) (e : H p = some (.lst vs)) : p ∉ F.TL := fun z => by
  obtain ⟨ps, q, _⟩ := (v.tb p z).2
  rw [e] at q; cases q
theorem RepB.nxt {b : Bool} {F : FX} {s : Option Addr} {G H G1 H1 : Hp} {c c1 : CT} {d : D} {v : V} (vo : Vol F s c G H) (n : Nxt F s G H s G1 H1 c1) (h : RepB b F s G H d v) : RepB b F s G1 H1 d v := by
  rcases h with h | ⟨hb, p, vs, ds, h1, h2, h3, h4, h5, h6⟩
  · exact .inl (Rep.mono n.g (fun _ x => x) _ _ h)
  · exact .inr ⟨hb, p, vs, ds, h1, h2, h3, n.nw p h4 (by rw [h5]; exact fun z => nomatch z), n.h p _ h3 (not_tab vo h5) h5, RepL.mono n.g (fun _ x => x) _ _ h6⟩

/-- where a def began -/
structure St0 where
  s0 : Option Addr
  G0 : Hp
  H0 : Hp
structure Co (F : FX) (B : St0) (s : Option Addr) (env : En) (σ : L2.St) (G H : Hp) (c : CT) : Prop where
  len : σ.length = env.length
  bs : Nxt F B.s0 B.G0 B.H0 s G H c
  va : ∀ (i : Nat) (d : D), env[i]? = some (Sl.va d) → ∃ v, σ[i]? = some (some v) ∧ Rep F s G d v
  ow : ∀ (i : Nat) (ds : List D), env[i]? = some (Sl.ow ds) → ∃ p vs, σ[i]? = some (some (V.ref p)) ∧ s ≠ some p ∧ B.H0 p = none ∧ G p = none ∧ H p = some (.lst vs) ∧ RepL F s G ds vs
  dj : ∀ (i j : Nat) (xs ys : List D) (p : Addr), env[i]? = some (Sl.ow xs) → env[j]? = some (Sl.ow ys) → σ[i]? = some (some (V.ref p)) → σ[j]? = some (some (V.ref p)) → i = j
section
variable {F : FX} {B : St0} {s : Option Addr} {env : En} {σ : L2.St} {G H G1 H1 : Hp} {c c1 : CT}
theorem Co.rfl (h : Co F B s env σ G H c) : Nxt F s G H s G H c := Nxt.refl h.bs.gh h.bs.vo
theorem Co.nxt (h : Co F B s env σ G H c) (n : Nxt F s G H s G1 H1 c1) : Co F B s env σ G1 H1 c1 where
  len := h.len
  bs := h.bs.trans n
  va := fun i d e => by
    obtain ⟨v, h1, h2⟩ := h.va i d e
    exact ⟨v, h1, Rep.mono n.g (fun _ x => x) _ _ h2⟩
  ow := fun i ds e => by
    obtain ⟨p, vs, h1, h2, h3, h4, h5, h6⟩ := h.ow i ds e
    exact ⟨p, vs, h1, h2, h3, n.nw p h4 (by rw [h5]; exact fun z => nomatch z), n.h p _ h2 (not_tab h.bs.vo h5) h5, RepL.mono n.g (fun _ x => x) _ _ h6⟩
  dj := h.dj
/-- a slot is set to a value -/
theorem Co.set {i : Nat} {d : D} {v : V} (h : Co F B s env σ G H c) (hi : i < env.length) (r : Rep F s G d v) : Co F B s (env.set i (Sl.va d)) (σ.set i (some v)) G H c where
  len := by rw [List.length_set, List.length_set]; exact h.len
  bs := h.bs
  va := fun j d' e => by
    by_cases q : i = j
    · subst q
      rw [List.getElem?_set_self hi] at e
      cases e
      exact ⟨v, List.getElem?_set_self (by rw [h.len]; exact hi), r⟩
    · rw [List.getElem?_set_ne q] at e ⊢
      exact h.va j d' e
  ow := fun j ds e => by
    by_cases q : i = j
    · subst q
      rw [List.getElem?_set_self hi] at e
      cases e
    · rw [List.getElem?_set_ne q] at e ⊢
      exact h.ow j ds e
  dj := fun j k xs ys p e1 e2 e3 e4 => by
    by_cases q : i = j
    · subst q
      rw [List.getElem?_set_self hi] at e1
      cases e1
    · by_cases q2 : i = k
      · subst q2
        rw [List.getElem?_set_self hi] at e2
        cases e2
      · rw [List.getElem?_set_ne q] at e1 e3
        rw [List.getElem?_set_ne q2] at e2 e4
        exact h.dj j k xs ys p e1 e2 e3 e4
/-- a slot is set to a new list of this def's own -/
theorem Co.setO {i : Nat} {ds : List D} {p : Addr} {vs : List V} (h : Co F B s env σ G H c) (hi : i < env.length) (hs : s ≠ some p) (h0 : B.H0 p = none) (hg : G p = none) (hh : H p = some (.lst vs)) (r : RepL F s G ds vs)
    (hn : ∀ (j : Nat) (xs : List D), env[j]? = some (Sl.ow xs) → σ[j]? ≠ some (some (V.ref p))) : Co F B s (env.set i (Sl.ow ds)) (σ.set i (some (V.ref p))) G H c where
  len := by rw [List.length_set, List.length_set]; exact h.len
  bs := h.bs
  va := fun j d' e => by
    by_cases q : i = j
    · subst q
      rw [List.getElem?_set_self hi] at e
      cases e
    · rw [List.getElem?_set_ne q] at e ⊢
      exact h.va j d' e
  ow := fun j xs e => by
    by_cases q : i = j
    · subst q
      rw [List.getElem?_set_self hi] at e
      cases e
      exact ⟨p, vs, List.getElem?_set_self (by rw [h.len]; exact hi), hs, h0, hg, hh, r⟩
    · rw [List.getElem?_set_ne q] at e ⊢
      exact h.ow j xs e
  dj := fun j k xs ys q e1 e2 e3 e4 => by
    have hi2 : i < σ.length := by rw [h.len]; exact hi
    by_cases q1 : i = j
    · by_cases q2 : i = k
      · exact q1.symm.trans q2
      · subst q1
        rw [List.getElem?_set_self hi2] at e3
        rw [List.getElem?_set_ne q2] at e2 e4
        have ep : V.ref p = V.ref q := Option.some.inj (Option.some.inj e3)
        injection ep with ep
        subst ep
        exact absurd e4 (hn k ys e2)
    · by_cases q2 : i = k
      · subst q2
        rw [List.getElem?_set_self hi2] at e4
        rw [List.getElem?_set_ne q1] at e1 e3
        have ep : V.ref p = V.ref q := Option.some.inj (Option.some.inj e4)
        injection ep with ep
        subst ep
        exact absurd e3 (hn j xs e1)
      · rw [List.getElem?_set_ne q1] at e1 e3
        rw [List.getElem?_set_ne q2] at e2 e4
        exact h.dj j k xs ys q e1 e2 e3 e4
end
end FL

set_option Elab.async false
set_option linter.all false
set_option maxRecDepth 100000
set_option maxHeartbeats 1000000
/-! F1: the judgements, expressions. -/
namespace FL
open PySem L2 PyProof.Rows
open Evl (Ex)

/-! ### imp -/
theorem pe_imp {X : Cx} {e : Expr} {t t' : TE} (h : PE X e t) (i : ∀ σ H Q, t' σ H Q → t σ H Q) : PE X e t' := ⟨fun pins s σ H Q I q => h.run pins s σ H Q I (i σ H Q q)⟩
theorem pt_imp {X : Cx} {e : Expr} {t t' : TT} (h : PT X e t) (i : ∀ σ H Q, t' σ H Q → t σ H Q) : PT X e t' := ⟨fun pins s σ H Q I q => h.run pins s σ H Q I (i σ H Q q)⟩
theorem pw_imp {X : Cx} {e : Expr} {t t' : TT} (h : PW X e t) (i : ∀ σ H Q, t' σ H Q → t σ H Q) : PW X e t' := ⟨fun wh pins s σ H Q I q => h.run wh pins s σ H Q I (i σ H Q q)⟩
theorem pa_imp {X : Cx} {e : List Expr} {t t' : TA} (h : PA X e t) (i : ∀ σ H Q, t' σ H Q → t σ H Q) : PA X e t' := ⟨fun pos pins s σ H Q I q => h.run pos pins s σ H Q I (i σ H Q q)⟩
theorem ps_imp {X : Cx} {e : Stmt} {t t' : TS} (h : PS X e t) (i : ∀ D σ H, t' D σ H → t D σ H) : PS X e t' := ⟨fun pins s σ H D I q => h.run pins s σ H D I (i D σ H q)⟩
theorem pss_imp {X : Cx} {e : List Stmt} {t t' : TS} (h : PSs X e t) (i : ∀ D σ H, t' D σ H → t D σ H) : PSs X e t' := ⟨fun pins s σ H D I q => h.run pins s σ H D I (i D σ H q)⟩

/-! ### readings -/
abbrev ES := En → M D
abbrev BS := En → M Bool
abbrev AS := En → M (List D)
def RepF (F : FX) (s : Option Addr) (G : Hp) (ds : List (Str × D)) (vs : List (Str × V)) : Prop := vs.map (·.1) = ds.map (·.1) ∧ RepL F s G (ds.map (·.2)) (vs.map (·.2))
/-- an exception x that is behind (G, H) meets the wish -/
def xW (F : FX) (W : WX) (s : Option Addr) (σ : L2.St) (G H : Hp) (x : Exn) (c' : CT) : Prop :=
  ∀ (C dx : Addr) (fs : List (Str × V)) (G' H' : Hp), F.CL x.cls = some C → Nxt F s G H s G' H' c' → G' dx = some (.xd fs) → RepF F s G' x.fs fs → W (.ref C) (some dx) σ H'
theorem xW.nxt {F : FX} {W : WX} {s : Option Addr} {σ : L2.St} {G H G1 H1 : Hp} {x : Exn} {c1 c' : CT} (h : xW F W s σ G H x c') (n : Nxt F s G H s G1 H1 c1) : xW F W s σ G1 H1 x c' :=
  fun C dx fs G' H' a b d e => h C dx fs G' H' a (n.trans b) d e
def tX (F : FX) (W : WX) (b : Bool) (f : ES) : TE := fun σ H Q => ∃ B s env G c, Co F B s env σ G H c ∧ wpR (f env c) (fun d c' => ∀ v G' H', Nxt F s G H s G' H' c' → RepB b F s G' H' d v → Q v H') (xW F W s σ G H)
def tT (F : FX) (W : WX) (f : BS) : TT := fun σ H Q => ∃ B s env G c, Co F B s env σ G H c ∧ wpR (f env c) (fun d c' => ∀ G' H', Nxt F s G H s G' H' c' → Q d H') (xW F W s σ G H)
def RepBL (b : Bool) (F : FX) (s : Option Addr) (G H : Hp) : List D → List V → Prop
  | [], vs => vs = []
  | d :: ds, vs => ∃ v r, vs = v :: r ∧ RepB b F s G H d v ∧ RepBL b F s G H ds r
def tA (F : FX) (W : WX) (b : Bool) (f : AS) : TA := fun σ H Q => ∃ B s env G c, Co F B s env σ G H c ∧ wpR (f env c) (fun ds c' => ∀ vs G' H', Nxt F s G H s G' H' c' → RepBL b F s G' H' ds vs → Q vs H') (xW F W s σ G H)

structure SE (F : FX) (X : Cx) (W : WX) (b : Bool) (e : Expr) (f : ES) : Prop where
  pe : PE X e (tX F W b f)
structure ST (F : FX) (X : Cx) (W : WX) (e : Expr) (f : BS) : Prop where
  pt : PT X e (tT F W f)
structure SWt (F : FX) (X : Cx) (W : WX) (e : Expr) (f : BS) : Prop where
  pw : PW X e (tT F W f)
structure SA (F : FX) (X : Cx) (W : WX) (b : Bool) (es : List Expr) (f : AS) : Prop where
  pa : PA X es (tA F W b f)

section
variable {F : FX} {X : Cx} {W : WX} {b : Bool} {s : Option Addr} {G H : Hp} {c : CT}
theorem RepBL.nxt {G1 H1 : Hp} {c1 : CT} (vo : Vol F s c G H) (n : Nxt F s G H s G1 H1 c1) : ∀ {ds : List D} {vs : List V}, RepBL b F s G H ds vs → RepBL b F s G1 H1 ds vs
  | [], _, h => h
  | _ :: _, _, ⟨v, r, h1, h2, h3⟩ => ⟨v, r, h1, h2.nxt vo n, RepBL.nxt vo n h3⟩
theorem RepB.strict {d : D} {v : V} (h : RepB false F s G H d v) : Rep F s G d v := by
  rcases h with h | ⟨h, _⟩
  · exact h
  · cases h
theorem RepBL.strict : ∀ {ds : List D} {vs : List V}, RepBL false F s G H ds vs → RepL F s G ds vs
  | [], _, h => h
  | _ :: _, _, ⟨v, r, h1, h2, h3⟩ => ⟨v, r, h1, h2.strict, RepBL.strict h3⟩
theorem RepB.of {d : D} {v : V} (h : Rep F s G d v) : RepB b F s G H d v := .inl h
theorem RepB.up {d : D} {v : V} (h : RepB b F s G H d v) : RepB true F s G H d v := by
  rcases h with h | ⟨_, h⟩
  · exact .inl h
  · exact .inr ⟨rfl, h⟩
/-- a value that is a list, a tuple: as it is read -/
theorem RepB.list {ds : List D} {v : V} (e : Ex G H) (h : RepB b F s G H (.lst ds) v) : ∃ a vs, v = .ref a ∧ H a = some (.lst vs) ∧ RepL F s G ds vs := by
  rcases h with ⟨a, vs, h1, h2, h3⟩ | ⟨_, p, vs, ds', h1, h2, h3, h4, h5, h6⟩
  · exact ⟨a, vs, h1, e a _ h2, h3⟩
  · cases h1
    exact ⟨p, vs, h2, h5, h6⟩
theorem RepB.tup {ds : List D} {v : V} (e : Ex G H) (h : RepB b F s G H (.tup ds) v) : ∃ a vs, v = .ref a ∧ SqT F.K H a vs ∧ RepL F s G ds vs := by
  rcases h with ⟨a, vs, h1, h2, h3⟩ | ⟨_, p, vs, ds', h1, _⟩
  · exact ⟨a, vs, h1, (h2.ex e).sq, h3⟩
  · cases h1
theorem RepB.int {i : Int} {v : V} (h : RepB b F s G H (.int i) v) : v = .int i := by
  rcases h with h | ⟨_, p, vs, ds', h1, _⟩
  · exact h
  · cases h1
theorem RepB.str {i : Str} {v : V} (h : RepB b F s G H (.str i) v) : v = .str i := by
  rcases h with h | ⟨_, p, vs, ds', h1, _⟩
  · exact h
  · cases h1
theorem RepB.bl {i : Bool} {v : V} (h : RepB b F s G H (.bl i) v) : v = .bl i := by
  rcases h with h | ⟨_, p, vs, ds', h1, _⟩
  · exact h
  · cases h1
theorem RepB.non {v : V} (h : RepB b F s G H .non v) : v = .non := by
  rcases h with h | ⟨_, p, vs, ds', h1, _⟩
  · exact h
  · cases h1

/-! ### atoms -/
def kE (d : D) : ES := fun _ => ret d
def bad {α : Type} : M α := fun _ => .bad
def varE (i : Nat) : ES := fun env => match env[i]? with
  | some (Sl.va d) => ret d
  | _ => bad
def varB (i : Nat) : ES := fun env => match env[i]? with
  | some (Sl.va d) => ret d
  | some (Sl.ow xs) => ret (D.lst xs)
  | _ => bad
theorem se_up {e : Expr} {f : ES} (h : SE F X W false e f) : SE F X W true e f :=
  ⟨pe_imp h.pe fun σ H Q ⟨B, s, env, G, c, co, q⟩ => ⟨B, s, env, G, c, co, wpR_mono q (fun d c' h v G' H' n r => h v G' H' n r.up) fun _ _ x => x⟩⟩
theorem se_k {e : Expr} {d : D} {v : V} (h : PE X e (tC v)) (r : ∀ s G, Rep F s G d v) : SE F X W b e (kE d) :=
  ⟨pe_imp h fun σ H Q ⟨B, s, env, G, c, co, q⟩ => q v G H co.rfl (.inl (r s G))⟩
theorem se_int {i j pos} : SE F X W b (.Constant (.int i) j pos) (kE (.int i)) := se_k pe_int fun _ _ => rfl
theorem se_bl {i j pos} : SE F X W b (.Constant (.bool i) j pos) (kE (.bl i)) := se_k pe_bl fun _ _ => rfl
theorem se_str {i j pos} : SE F X W b (.Constant (.str i) j pos) (kE (.str i)) := se_k pe_str fun _ _ => rfl
theorem se_non {j pos} : SE F X W b (.Constant .none j pos) (kE .non) := se_k pe_non fun _ _ => rfl
theorem se_var {i : Nat} {e : Expr} (h : PE X e (tVar i)) : SE F X W b e (varE i) := ⟨pe_imp h fun σ H Q ⟨B, s, env, G, c, co, q⟩ => by
  unfold varE at q
  cases e : env[i]? with
  | none => rw [e] at q; exact q.elim
  | some x =>
    rw [e] at q
    cases x with
    | va d =>
      obtain ⟨v, h1, h2⟩ := co.va i d e
      exact ⟨v, h1, q v G H co.rfl (.inl h2)⟩
    | no => exact q.elim
    | ow xs => exact q.elim⟩
theorem se_varB {i : Nat} {e : Expr} (h : PE X e (tVar i)) : SE F X W true e (varB i) := ⟨pe_imp h fun σ H Q ⟨B, s, env, G, c, co, q⟩ => by
  unfold varB at q
  cases e : env[i]? with
  | none => rw [e] at q; exact q.elim
  | some x =>
    rw [e] at q
    cases x with
    | va d =>
      obtain ⟨v, h1, h2⟩ := co.va i d e
      exact ⟨v, h1, q v G H co.rfl (.inl h2)⟩
    | no => exact q.elim
    | ow xs =>
      obtain ⟨p, vs, h1, h2, h3, h4, h5, h6⟩ := co.ow i xs e
      exact ⟨.ref p, h1, q (.ref p) G H co.rfl (.inr ⟨rfl, p, vs, xs, rfl, rfl, h2, h4, h5, h6⟩)⟩⟩

/-! ### what an operation does to data -/
/-- what is wanted of a value: known in a later state -/
def Want (F : FX) (s : Option Addr) (G H : Hp) (c : CT) (res : D) (Q : VK) : Prop := ∀ v G' H', Nxt F s G H s G' H' c → Rep F s G' res v → Q v H'
theorem Want.now {res : D} {v : V} {Q : VK} (e : Ex G H) (vo : Vol F s c G H) (w : Want F s G H c res Q) (r : Rep F s G res v) : Q v H := w v G H (Nxt.refl e vo) r
theorem Want.tup {ds : List D} {vs : List V} {Q : VK} (e : Ex G H) (vo : Vol F s c G H) (w : Want F s G H c (.tup ds) Q) (r : RepL F s G ds vs) : ∀ p, H p = none → Q (.ref p) (upd H p (.tup vs)) := fun p hp => by
  have n := (Nxt.refl e vo).new (o := .tup vs) hp
  exact w (.ref p) _ _ n ⟨p, vs, rfl, .inl upd_same, RepL.mono n.g (fun _ x => x) _ _ r⟩
theorem Want.lst {ds : List D} {vs : List V} {Q : VK} (e : Ex G H) (vo : Vol F s c G H) (w : Want F s G H c (.lst ds) Q) (r : RepL F s G ds vs) : ∀ p, H p = none → Q (.ref p) (upd H p (.lst vs)) := fun p hp => by
  have n := (Nxt.refl e vo).new (o := .lst vs) hp
  exact w (.ref p) _ _ n ⟨p, vs, rfl, upd_same, RepL.mono n.g (fun _ x => x) _ _ r⟩
structure OpD (F : FX) (r : R2) (op : CT → D → D → Option D) : Prop where
  run : ∀ (s : Option Addr) (G H : Hp) (c : CT) (d1 d2 : D) (v1 v2 : V) (res : D) (Q : VK), Ex G H → Vol F s c G H → RepB true F s G H d1 v1 → RepB true F s G H d2 v2 → op c d1 d2 = some res → Want F s G H c res Q → r v1 v2 H Q
structure UnD (F : FX) (r : V → Hp → VK → Prop) (op : CT → D → Option D) : Prop where
  run : ∀ (s : Option Addr) (G H : Hp) (c : CT) (d1 : D) (v1 : V) (res : D) (Q : VK), Ex G H → Vol F s c G H → RepB true F s G H d1 v1 → op c d1 = some res → Want F s G H c res Q → r v1 H Q
structure CaD (F : FX) (r : List V → Hp → VK → Prop) (op : CT → List D → Option D) : Prop where
  run : ∀ (s : Option Addr) (G H : Hp) (c : CT) (ds : List D) (vs : List V) (res : D) (Q : VK), Ex G H → Vol F s c G H → RepBL true F s G H ds vs → op c ds = some res → Want F s G H c res Q → r vs H Q
def opE (op : CT → D → D → Option D) (f g : ES) : ES := fun env => bnd (f env) fun x => bnd (g env) fun y => fun c => lft (op c x y) c
def unE (op : CT → D → Option D) (f : ES) : ES := fun env => bnd (f env) fun x => fun c => lft (op c x) c
def caE (op : CT → List D → Option D) (f : AS) : ES := fun env => bnd (f env) fun x => fun c => lft (op c x) c
theorem tX_op {r : R2} {op : CT → D → D → Option D} {f g : ES} {σ : L2.St} {Q : VK} (o : OpD F r op) (h : tX F W b (opE op f g) σ H Q) : tOp r (tX F W true f) (tX F W true g) σ H Q := by
  obtain ⟨B, s, env, G, c, co, q⟩ := h
  refine ⟨B, s, env, G, c, co, wpR_mono (wpR_bnd q) (fun x c1 h1 v1 G1 H1 n1 r1 => ?_) fun _ _ x => x⟩
  refine ⟨B, s, env, G1, c1, co.nxt n1, wpR_mono (wpR_bnd h1) (fun y c2 h2 v2 G2 H2 n2 r2 => ?_) fun _ _ w => w.nxt n1⟩
  obtain ⟨res, e, hq⟩ := wpR_lft h2
  exact o.run s G2 H2 c2 x y v1 v2 res Q n2.gh n2.vo (r1.nxt n1.vo n2) r2 e fun v G' H' n r => hq v G' H' ((n1.trans n2).trans n) (.inl r)
theorem tX_un {r : V → Hp → VK → Prop} {op : CT → D → Option D} {f : ES} {σ : L2.St} {Q : VK} (o : UnD F r op) (h : tX F W b (unE op f) σ H Q) : tUn r (tX F W true f) σ H Q := by
  obtain ⟨B, s, env, G, c, co, q⟩ := h
  refine ⟨B, s, env, G, c, co, wpR_mono (wpR_bnd q) (fun x c1 h1 v1 G1 H1 n1 r1 => ?_) fun _ _ x => x⟩
  obtain ⟨res, e, hq⟩ := wpR_lft h1
  exact o.run s G1 H1 c1 x v1 res Q n1.gh n1.vo r1 e fun v G' H' n r => hq v G' H' (n1.trans n) (.inl r)
theorem tX_ca {r : List V → Hp → VK → Prop} {op : CT → List D → Option D} {f : AS} {σ : L2.St} {Q : VK} (o : CaD F r op) (h : tX F W b (caE op f) σ H Q) : tCB r (tA F W true f) σ H Q := by
  obtain ⟨B, s, env, G, c, co, q⟩ := h
  refine ⟨B, s, env, G, c, co, wpR_mono (wpR_bnd q) (fun x c1 h1 v1 G1 H1 n1 r1 => ?_) fun _ _ x => x⟩
  obtain ⟨res, e, hq⟩ := wpR_lft h1
  exact o.run s G1 H1 c1 x v1 res Q n1.gh n1.vo r1 e fun v G' H' n r => hq v G' H' (n1.trans n) (.inl r)
/-- a binary operator -/
theorem se_op {a c' : Expr} {o : Operator} {pos : Pos} {r : R2} {op : CT → D → D → Option D} {f g : ES} (hr : OpR X (binaryOp o) r) (hd : OpD F r op) (ha : SE F X W true a f) (hb : SE F X W true c' g) : SE F X W b (.BinOp a o c' pos) (opE op f g) :=
  ⟨pe_imp (pe_op hr ha.pe hb.pe) fun _ _ _ h => tX_op hd h⟩
/-- a comparison as a value -/
theorem se_cmp {a c' : Expr} {o : CmpOp} {pos : Pos} {r : R2} {op : CT → D → D → Option D} {f g : ES} (hr : OpR X (compareOp o) r) (hd : OpD F r op) (ha : SE F X W true a f) (hb : SE F X W true c' g) (hm : behindInMarks o c' = false) : SE F X W b (.Compare a [o] [c'] pos) (opE op f g) :=
  ⟨pe_imp (pe_cmpR hr ha.pe hb.pe hm) fun _ _ _ h => tX_op hd h⟩
theorem se_un {a : Expr} {o : UnaryOp} {pos : Pos} {r : V → Hp → VK → Prop} {op : CT → D → Option D} {f : ES} (hr : UnR X (unaryOp o) r) (hd : UnD F r op) (ha : SE F X W true a f) : SE F X W b (.UnaryOp o a pos) (unE op f) :=
  ⟨pe_imp (pe_un hr ha.pe) fun _ _ _ h => tX_un hd h⟩
/-- a value that is True or False, as a test -/
def asB (f : ES) : BS := fun env => bnd (f env) fun x => match x with
  | .bl k => ret k
  | _ => bad
theorem tT_B {f : ES} {σ : L2.St} {Q : Bool → Hp → Prop} (h : tT F W (asB f) σ H Q) : tB (tX F W true f) σ H Q := by
  obtain ⟨B, s, env, G, c, co, q⟩ := h
  refine ⟨B, s, env, G, c, co, wpR_mono (wpR_bnd q) (fun x c1 h1 v1 G1 H1 n1 r1 => ?_) fun _ _ x => x⟩
  cases x with
  | bl k => exact ⟨k, r1.bl, h1 G1 H1 n1⟩
  | _ => exact h1.elim
theorem st_cmp {a c' : Expr} {o : CmpOp} {pos : Pos} {r : R2} {op : CT → D → D → Option D} {f g : ES} (hr : OpR X (compareOp o) r) (hd : OpD F r op) (ha : SE F X W true a f) (hb : SE F X W true c' g) (hm : behindInMarks o c' = false) : ST F X W (.Compare a [o] [c'] pos) (asB (opE op f g)) :=
  ⟨pt_imp (pt_cmpR hr ha.pe hb.pe hm) fun σ H Q h => by
    obtain ⟨B, s, env, G, c, co, q⟩ := tT_B h
    exact tX_op (b := true) hd ⟨B, s, env, G, c, co, q⟩⟩
theorem st_val {e : Expr} {f : ES} (h : SE F X W true e f) (he : ∀ whole, isTrue e X.env whole = (do let v ← whole; standAt e.pos; holding [v] (truthy v)) := by intro _; rfl) : ST F X W e (asB f) :=
  ⟨pt_imp (pt_val h.pe he) fun _ _ _ h => tT_B h⟩

/-! ### and, or, not, .. if .. else .. -/
def andT (f g : BS) : BS := fun env => bnd (f env) fun k => match k with
  | true => g env
  | false => ret false
def orT (f g : BS) : BS := fun env => bnd (f env) fun k => match k with
  | true => ret true
  | false => g env
def notT (f : BS) : BS := fun env => bnd (f env) fun k => ret (!k)
theorem tT_bnd {f : BS} {k : Bool → BS} {σ : L2.St} {Q : Bool → Hp → Prop} (h : tT F W (fun env => bnd (f env) fun b => k b env) σ H Q) : tT F W f σ H (fun b H1 => tT F W (k b) σ H1 Q) := by
  obtain ⟨B, s, env, G, c, co, q⟩ := h
  exact ⟨B, s, env, G, c, co, wpR_mono (wpR_bnd q) (fun x c1 h1 G1 H1 n1 => ⟨B, s, env, G1, c1, co.nxt n1, wpR_mono h1 (fun _ _ h2 G2 H2 n2 => h2 G2 H2 (n1.trans n2)) fun _ _ w => w.nxt n1⟩) fun _ _ x => x⟩
theorem tT_ret {k : Bool} {σ : L2.St} {Q : Bool → Hp → Prop} (h : tT F W (fun _ => ret k) σ H Q) : Q k H := by
  obtain ⟨B, s, env, G, c, co, q⟩ := h
  exact q G H co.rfl
theorem tT_and {f g : BS} {σ : L2.St} {Q : Bool → Hp → Prop} (h : tT F W (andT f g) σ H Q) : tAnd (tT F W f) (tT F W g) σ H Q := by
  obtain ⟨B, s, env, G, c, co, q⟩ := tT_bnd (k := fun k => match k with | true => g | false => fun _ => ret false) (by
    refine Eq.mp (congrArg (fun z => tT F W z σ H Q) ?_) h
    funext env
    unfold andT
    congr 1
    funext k
    cases k <;> rfl)
  refine ⟨B, s, env, G, c, co, wpR_mono q (fun k c1 h1 G1 H1 n1 => ?_) fun _ _ x => x⟩
  cases k with
  | true => exact iteT (h1 G1 H1 n1)
  | false => exact iteF (tT_ret (h1 G1 H1 n1))
theorem tT_or {f g : BS} {σ : L2.St} {Q : Bool → Hp → Prop} (h : tT F W (orT f g) σ H Q) : tOr (tT F W f) (tT F W g) σ H Q := by
  obtain ⟨B, s, env, G, c, co, q⟩ := tT_bnd (k := fun k => match k with | true => fun _ => ret true | false => g) (by
    refine Eq.mp (congrArg (fun z => tT F W z σ H Q) ?_) h
    funext env
    unfold orT
    congr 1
    funext k
    cases k <;> rfl)
  refine ⟨B, s, env, G, c, co, wpR_mono q (fun k c1 h1 G1 H1 n1 => ?_) fun _ _ x => x⟩
  cases k with
  | true => exact iteT (tT_ret (h1 G1 H1 n1))
  | false => exact iteF (h1 G1 H1 n1)
theorem tT_not {f : BS} {σ : L2.St} {Q : Bool → Hp → Prop} (h : tT F W (notT f) σ H Q) : tNot (tT F W f) σ H Q := by
  obtain ⟨B, s, env, G, c, co, q⟩ := tT_bnd (k := fun k _ => ret (!k)) h
  exact ⟨B, s, env, G, c, co, wpR_mono q (fun k c1 h1 G1 H1 n1 => tT_ret (k := !k) (h1 G1 H1 n1)) fun _ _ x => x⟩
variable {a c' : Expr} {rest : List Expr} {pos : Pos} {f g k : BS} {u v : ES}
theorem sw_and1 (ha : ST F X W a f) : SWt F X W (.BoolOp .And [a] pos) f := ⟨pw_and1 ha.pt⟩
theorem sw_or1 (ha : ST F X W a f) : SWt F X W (.BoolOp .Or [a] pos) f := ⟨pw_or1 ha.pt⟩
theorem sw_and (ha : ST F X W a f) (hb : SWt F X W (.BoolOp .And (c' :: rest) pos) g) : SWt F X W (.BoolOp .And (a :: c' :: rest) pos) (andT f g) := ⟨pw_imp (pw_and ha.pt hb.pw) fun _ _ _ h => tT_and h⟩
theorem sw_or (ha : ST F X W a f) (hb : SWt F X W (.BoolOp .Or (c' :: rest) pos) g) : SWt F X W (.BoolOp .Or (a :: c' :: rest) pos) (orT f g) := ⟨pw_imp (pw_or ha.pt hb.pw) fun _ _ _ h => tT_or h⟩
theorem st_w {e : Expr} (h : SWt F X W e f) : ST F X W e f := ⟨h.pw.pt⟩
theorem st_not (ha : ST F X W a f) : ST F X W (.UnaryOp .Not a pos) (notT f) := ⟨pt_imp (pt_not ha.pt) fun _ _ _ h => tT_not h⟩
/-- .. if .. else .. -/
def ifE (t : BS) (u v : ES) : ES := fun env => bnd (t env) fun k => match k with
  | true => u env
  | false => v env
theorem tX_if (h : tX F W b (ifE f u v) σ H Q) : tIf (tT F W f) (tX F W b u) (tX F W b v) σ H Q := by
  obtain ⟨B, s, env, G, c, co, q⟩ := h
  refine ⟨B, s, env, G, c, co, wpR_mono (wpR_bnd q) (fun k c1 h1 G1 H1 n1 => ?_) fun _ _ x => x⟩
  cases k with
  | true => exact iteT ⟨B, s, env, G1, c1, co.nxt n1, wpR_mono h1 (fun _ _ h2 v G2 H2 n2 => h2 v G2 H2 (n1.trans n2)) fun _ _ w => w.nxt n1⟩
  | false => exact iteF ⟨B, s, env, G1, c1, co.nxt n1, wpR_mono h1 (fun _ _ h2 v G2 H2 n2 => h2 v G2 H2 (n1.trans n2)) fun _ _ w => w.nxt n1⟩
theorem se_if (hc : ST F X W c' f) (ha : SE F X W b a u) {d : Expr} (hb : SE F X W b d v) : SE F X W b (.IfExp c' a d pos) (ifE f u v) := ⟨pe_imp (pe_ifExp hc.pt ha.pe hb.pe) fun _ _ _ h => tX_if h⟩
end
end FL

set_option Elab.async false
set_option linter.all false
set_option maxRecDepth 100000
set_option maxHeartbeats 1000000
/-! F2: statements, defs, calls. -/
namespace FL
open PySem L2 PyProof.Rows
open Evl (Ex)

/-- how a statement ends -/
inductive SR where
  | nx (e : En) (c : CT)
  | rt (d : D) (c : CT)
  | ro (xs : List D) (c : CT)
  | bk (e : En) (c : CT)
  | ct (e : En) (c : CT)
  | ex (x : Exn) (e : En) (c : CT)
  | bad
abbrev SS := En → CT → SR
def sOk (z : Bool) (s s' : Option Addr) : Prop := s' = s ∨ (z = true ∧ s = none)
theorem sOk.rfl' {z : Bool} {s : Option Addr} : sOk z s s := .inl rfl
theorem sOk.trans {z : Bool} {s s1 s2 : Option Addr} (a : sOk z s s1) (b : sOk z s1 s2) : sOk z s s2 := by
  rcases a with a | a
  · rw [a] at b; exact b
  · exact .inr a
theorem sOk.sub {z : Bool} {s s1 : Option Addr} (h : sOk z s s1) : ∀ a, s = some a → s1 = some a := fun a e => by
  rcases h with h | ⟨_, h⟩
  · rw [h]; exact e
  · rw [h] at e; cases e
def wpS (F : FX) (W : WX) (z : Bool) (B : St0) (s : Option Addr) (G : Hp) (D : Ends) : SR → Prop
  | .nx e c => ∀ s' σ' G' H', sOk z s s' → Ex G G' → Co F B s' e σ' G' H' c → D.nx σ' H'
  | .bk e c => ∀ s' σ' G' H', sOk z s s' → Ex G G' → Co F B s' e σ' G' H' c → D.bk σ' H'
  | .ct e c => ∀ s' σ' G' H', sOk z s s' → Ex G G' → Co F B s' e σ' G' H' c → D.ct σ' H'
  | .rt d c => ∀ s' v G' H', sOk z s s' → Nxt F B.s0 B.G0 B.H0 s' G' H' c → Rep F s' G' d v → D.rt v H'
  | .ro ds c => ∀ s' p vs G' H', sOk z s s' → Nxt F B.s0 B.G0 B.H0 s' G' H' c → s' ≠ some p → B.H0 p = none → G' p = none → H' p = some (.lst vs) → RepL F s' G' ds vs → D.rt (.ref p) H'
  | .ex x e c => ∀ s' C dx fs σ' G' H', sOk z s s' → Ex G G' → F.CL x.cls = some C → Co F B s' e σ' G' H' c → G' dx = some (.xd fs) → RepF F s' G' x.fs fs → W (.ref C) (some dx) σ' H'
  | .bad => False
def tS (F : FX) (W : WX) (z : Bool) (f : SS) : TS := fun D σ H => ∃ B s env G c, Co F B s env σ G H c ∧ wpS F W z B s G D (f env c)
structure SSt (F : FX) (X : Cx) (W : WX) (z : Bool) (st : Stmt) (f : SS) : Prop where
  ps : PS X st (tS F W z f)
structure SB (F : FX) (X : Cx) (W : WX) (z : Bool) (st : List Stmt) (f : SS) : Prop where
  pss : PSs X st (tS F W z f)
section
variable {F : FX} {X : Cx} {W : WX} {z : Bool} {B : St0} {s s1 : Option Addr} {D : Ends} {r : SR}
theorem wpS_later {G G1 : Hp} (h : wpS F W z B s G D r) (o : sOk z s s1) (g : Ex G G1) : wpS F W z B s1 G1 D r := by
  cases r with
  | nx e c => exact fun s' σ' G' H' a b d => h s' σ' G' H' (o.trans a) (g.trans b) d
  | bk e c => exact fun s' σ' G' H' a b d => h s' σ' G' H' (o.trans a) (g.trans b) d
  | ct e c => exact fun s' σ' G' H' a b d => h s' σ' G' H' (o.trans a) (g.trans b) d
  | rt d c => exact fun s' v G' H' a b d => h s' v G' H' (o.trans a) b d
  | ro ds c => exact fun s' p vs G' H' a b d e f g' i => h s' p vs G' H' (o.trans a) b d e f g' i
  | ex x e c => exact fun s' C dx fs σ' G' H' a b d e f i => h s' C dx fs σ' G' H' (o.trans a) (g.trans b) d e f i
  | bad => exact h
def seqS (f g : SS) : SS := fun env c => match f env c with
  | .nx e c' => g e c'
  | r => r
def nxS : SS := fun env c => .nx env c
theorem tS_seq {f g : SS} {σ : L2.St} {H : Hp} (h : tS F W z (seqS f g) D σ H) : tSeq (tS F W z f) (tS F W z g) D σ H := by
  obtain ⟨B, s, env, G, c, co, q⟩ := h
  refine ⟨B, s, env, G, c, co, ?_⟩
  unfold seqS at q
  cases e : f env c with
  | nx e' c' => rw [e] at q; exact fun s' σ' G' H' a g b => ⟨B, s', e', G', c', b, wpS_later q a g⟩
  | bk e' c' => rw [e] at q; exact q
  | ct e' c' => rw [e] at q; exact q
  | rt d c' => rw [e] at q; exact q
  | ro ds c' => rw [e] at q; exact q
  | ex x e' c' => rw [e] at q; exact q
  | bad => rw [e] at q; exact q
theorem sb_nil : SB F X W z [] nxS := ⟨pss_imp pss_nil fun D σ H ⟨B, s, env, G, c, co, q⟩ => q s σ G H .rfl' (Ex.refl G) co⟩
theorem sb_cons {st : Stmt} {rest : List Stmt} {f g : SS} (h1 : SSt F X W z st f) (h2 : SB F X W z rest g) : SB F X W z (st :: rest) (seqS f g) := ⟨pss_imp (pss_cons h1.ps h2.pss) fun D σ H h => tS_seq h⟩
theorem sb_one {st : Stmt} {f : SS} (h1 : SSt F X W z st f) : SB F X W z [st] f := ⟨pss_one h1.ps⟩
def bkS : SS := fun env c => .bk env c
def ctS : SS := fun env c => .ct env c
variable {pos pos' : Pos}
theorem ss_pass : SSt F X W z (.Pass pos) nxS := ⟨ps_imp ps_pass fun D σ H ⟨B, s, env, G, c, co, q⟩ => q s σ G H .rfl' (Ex.refl G) co⟩
theorem ss_break : SSt F X W z (.Break pos) bkS := ⟨ps_imp ps_break fun D σ H ⟨B, s, env, G, c, co, q⟩ => q s σ G H .rfl' (Ex.refl G) co⟩
theorem ss_cont : SSt F X W z (.Continue pos) ctS := ⟨ps_imp ps_continue fun D σ H ⟨B, s, env, G, c, co, q⟩ => q s σ G H .rfl' (Ex.refl G) co⟩
/-- code that is never come to -/
def neverS : SS := fun _ _ => .bad
theorem ss_never {st : Stmt} : SSt F X W z st neverS := ⟨ps_imp ps_never fun D σ H ⟨B, s, env, G, c, co, q⟩ => q⟩
theorem sb_never {st : List Stmt} : SB F X W z st neverS := ⟨pss_imp pss_never fun D σ H ⟨B, s, env, G, c, co, q⟩ => q⟩

/-! ### an expression, then -/
/-- run m, then k; what m raises leaves -/
def exS {α : Type} (m : En → M α) (k : α → SS) : SS := fun env c => match m env c with
  | .ok a c' => k a env c'
  | .ex x c' => .ex x env c'
  | .bad => .bad
theorem exS_wp {α : Type} {m : En → M α} {k : α → SS} {env : En} {σ : L2.St} {G H : Hp} {c : CT} {P : α → CT → Prop} (co : Co F B s env σ G H c) (q : wpS F W z B s G D (exS m k env c))
    (h : ∀ a c', wpS F W z B s G D (k a env c') → P a c') : wpR (m env c) P (xW F W s σ G H) := by
  unfold exS at q
  cases e : m env c with
  | ok a c' => rw [e] at q; exact h a c' q
  | ex x c' => rw [e] at q; exact fun C dx fs G' H' a b d f => q s C dx fs σ G' H' .rfl' b.g a (co.nxt b) d f
  | bad => rw [e] at q; exact q
/-- return e -/
def retS (f : ES) : SS := exS f fun d _ c => .rt d c
theorem ss_ret {e : Expr} {f : ES} (h : SE F X W false e f) : SSt F X W z (.Return (some e) pos) (retS f) := ⟨ps_imp (ps_ret h.pe) fun D σ H ⟨B, s, env, G, c, co, q⟩ =>
  ⟨B, s, env, G, c, co, exS_wp co q fun d c' h v G' H' n r => h s v G' H' .rfl' (co.bs.trans n) r.strict⟩⟩
theorem ss_retN : SSt F X W z (.Return none pos) (retS (kE .non)) := ⟨ps_imp ps_retN fun D σ H ⟨B, s, env, G, c, co, q⟩ => q s .non G H .rfl' co.bs rfl⟩
/-- return of a list of this def's own -/
def retO (i : Nat) : SS := fun env c => match env[i]? with
  | some (Sl.ow xs) => .ro xs c
  | _ => .bad
theorem ss_retO {i : Nat} {e : Expr} (h : PE X e (tVar i)) : SSt F X W z (.Return (some e) pos) (retO i) := ⟨ps_imp (ps_ret h) fun D σ H ⟨B, s, env, G, c, co, q⟩ => by
  unfold retO at q
  cases e : env[i]? with
  | none => rw [e] at q; exact q.elim
  | some x =>
    rw [e] at q
    cases x with
    | va d => exact q.elim
    | no => exact q.elim
    | ow xs =>
      obtain ⟨p, vs, h1, h2, h3, h4, h5, h6⟩ := co.ow i xs e
      exact ⟨.ref p, h1, q s p vs G H .rfl' co.bs h2 h3 h4 h5 h6⟩⟩
/-- x = e -/
def asgS (i : Nat) (f : ES) : SS := exS f fun d env c => if i < env.length then .nx (env.set i (Sl.va d)) c else .bad
theorem tS_asg {i : Nat} {f : ES} {σ : L2.St} {H : Hp} (h : tS F W z (asgS i f) D σ H) : tAsg (tX F W false f) (gName i) D σ H := by
  obtain ⟨B, s, env, G, c, co, q⟩ := h
  refine ⟨B, s, env, G, c, co, exS_wp co q fun d c' h v G' H' n r => ?_⟩
  by_cases hi : i < env.length
  · rw [if_pos hi] at h
    exact h s _ G' H' .rfl' n.g ((co.nxt n).set hi r.strict)
  · rw [if_neg hi] at h
    exact h.elim
theorem ss_asg {i : Nat} {e : Expr} {tg : Expr} {f : ES} (h : SE F X W false e f) (hp : ∀ {te : TE}, PE X e te → PS X (.Assign [tg] e pos) (tAsg te (gName i))) : SSt F X W z (.Assign [tg] e pos) (asgS i f) := ⟨ps_imp (hp h.pe) fun D σ H h => tS_asg h⟩
/-- e; as a statement -/
def dropS (f : ES) : SS := exS f fun _ env c => .nx env c
theorem ss_expr {e : Expr} {f : ES} (h : SE F X W true e f) (hs : swapsWith e none pos.line X.env = pure false := by rfl) : SSt F X W z (.Expr e pos) (dropS f) := ⟨ps_imp (ps_expr h.pe hs) fun D σ H ⟨B, s, env, G, c, co, q⟩ =>
  ⟨B, s, env, G, c, co, exS_wp co q fun d c' h v G' H' n r => h s σ G' H' .rfl' n.g (co.nxt n)⟩⟩
/-- if -/
def ifS (t : BS) (f g : SS) : SS := exS t fun k => match k with
  | true => f
  | false => g
theorem ss_if {t : Expr} {a b : List Stmt} {k : BS} {f g : SS} (ht : ST F X W t k) (ha : SB F X W z a f) (hb : SB F X W z b g) : SSt F X W z (.If t a b pos) (ifS k f g) := ⟨ps_imp (ps_if ht.pt ha.pss hb.pss) fun D σ H ⟨B, s, env, G, c, co, q⟩ =>
  ⟨B, s, env, G, c, co, exS_wp co q fun d c' h G' H' n => by
    cases d with
    | true => exact iteT ⟨B, s, env, G', c', co.nxt n, wpS_later h .rfl' n.g⟩
    | false => exact iteF ⟨B, s, env, G', c', co.nxt n, wpS_later h .rfl' n.g⟩⟩⟩

/-! ### lists of this def's own -/
def tO (F : FX) (W : WX) (f : AS) : TE := fun σ H Q => ∃ B s env G c, Co F B s env σ G H c ∧ wpR (f env c) (fun ds c' => ∀ p vs G' H', Nxt F s G H s G' H' c' → s ≠ some p → H p = none → G' p = none → H' p = some (.lst vs) → RepL F s G' ds vs → Q (.ref p) H') (xW F W s σ G H)
structure SO (F : FX) (X : Cx) (W : WX) (e : Expr) (f : AS) : Prop where
  pe : PE X e (tO F W f)
def lstE (f : AS) : ES := fun env => bnd (f env) fun ds => ret (FL.D.lst ds)
/-- it may be known to all -/
theorem se_own {b : Bool} {e : Expr} {f : AS} (h : SO F X W e f) : SE F X W b e (lstE f) := ⟨pe_imp h.pe fun σ H Q ⟨B, s, env, G, c, co, q⟩ =>
  ⟨B, s, env, G, c, co, wpR_mono (wpR_bnd q) (fun ds c' hq p vs G' H' n hs hp hg hh hr => by
    have e1 : Ex G' (upd G' p (.lst vs)) := Ex.new hg
    refine hq (.ref p) (upd G' p (.lst vs)) H' ⟨n.g.trans e1, n.h, fun a o q => ?_, fun a h1 h2 => ?_, ⟨fun a q => ?_, fun P hP => ?_⟩, n.ss⟩ (.inl ⟨p, vs, rfl, upd_same, RepL.mono e1 (fun _ x => x) _ _ hr⟩)
    · by_cases ea : a = p
      · rw [ea, upd_same] at q
        rw [ea, hh]
        exact q
      · rw [upd_ne ea] at q
        exact n.gh a o q
    · have ne : a ≠ p := fun z => h2 (z ▸ hp)
      rw [upd_ne ne]
      exact n.nw a h1 h2
    · obtain ⟨h1, h2⟩ := n.vo.sp a q
      have ne : a ≠ p := fun z => hs (z ▸ q)
      exact ⟨by rw [upd_ne ne]; exact h1, h2⟩
    · obtain ⟨h1, h2⟩ := n.vo.tb P hP
      have ne : P ≠ p := fun z => by
        obtain ⟨ps, e3, _⟩ := h2
        rw [z, hh] at e3
        cases e3
      exact ⟨by rw [upd_ne ne]; exact h1, h2⟩) fun _ _ x => x⟩⟩
/-- x = a new list -/
def asgO (i : Nat) (f : AS) : SS := exS f fun ds env c => if i < env.length then .nx (env.set i (Sl.ow ds)) c else .bad
theorem tS_asgO {i : Nat} {f : AS} {σ : L2.St} {H : Hp} (h : tS F W z (asgO i f) D σ H) : tAsg (tO F W f) (gName i) D σ H := by
  obtain ⟨B, s, env, G, c, co, q⟩ := h
  refine ⟨B, s, env, G, c, co, exS_wp co q fun d c' h p vs G' H' n hs hp hg hh hr => ?_⟩
  by_cases hi : i < env.length
  · rw [if_pos hi] at h
    refine h s _ G' H' .rfl' n.g ((co.nxt n).setO hi hs (co.bs.back hp) hg hh hr fun j xs e1 e2 => ?_)
    obtain ⟨p', vs', h1, _, _, _, h5, _⟩ := co.ow j xs e1
    rw [h1] at e2
    have e3 : V.ref p' = V.ref p := Option.some.inj (Option.some.inj e2)
    injection e3 with e3
    rw [e3, hp] at h5
    cases h5
  · rw [if_neg hi] at h
    exact h.elim
theorem ss_asgO {i : Nat} {e : Expr} {tg : Expr} {f : AS} (h : SO F X W e f) (hp : ∀ {te : TE}, PE X e te → PS X (.Assign [tg] e pos) (tAsg te (gName i))) : SSt F X W z (.Assign [tg] e pos) (asgO i f) := ⟨ps_imp (hp h.pe) fun D σ H h => tS_asgO h⟩

/-! ### arguments, displays -/
def aNil : AS := fun _ => ret []
def aCons (f : ES) (g : AS) : AS := fun env => bnd (f env) fun d => bnd (g env) fun ds => ret (d :: ds)
theorem sa_nil {b : Bool} : SA F X W b [] aNil := ⟨pa_imp pa_nil fun σ H Q ⟨B, s, env, G, c, co, q⟩ => q [] G H co.rfl rfl⟩
theorem sa_cons {b : Bool} {e : Expr} {es : List Expr} {f : ES} {g : AS} (h : SE F X W b e f) (hr : SA F X W b es g) (hs : starEach (e :: es) X.env = (false, eval e X.env) :: starEach es X.env := by rfl) : SA F X W b (e :: es) (aCons f g) :=
  ⟨pa_imp (pa_cons h.pe hr.pa hs) fun σ H Q ⟨B, s, env, G, c, co, q⟩ => ⟨B, s, env, G, c, co, wpR_mono (wpR_bnd q) (fun d c1 h1 v G1 H1 n1 r1 => ⟨B, s, env, G1, c1, co.nxt n1, wpR_mono (wpR_bnd h1)
    (fun ds c2 h2 vs G2 H2 n2 r2 => h2 (v :: vs) G2 H2 (n1.trans n2) ⟨v, vs, rfl, r1.nxt n1.vo n2, r2⟩) fun _ _ w => w.nxt n1⟩) fun _ _ x => x⟩⟩
def tupE (f : AS) : ES := fun env => bnd (f env) fun ds => if ds.length ≤ sizeLine then ret (FL.D.tup ds) else bad
theorem se_tup {b : Bool} {es : List Expr} {f : AS} {k} (h : SA F X W false es f) : SE F X W b (.Tuple es k pos) (tupE f) := ⟨pe_imp (pe_tup h.pa) fun σ H Q ⟨B, s, env, G, c, co, q⟩ =>
  ⟨B, s, env, G, c, co, wpR_mono (wpR_bnd q) (fun ds c1 h1 vs G1 H1 n1 r1 => by
    have hl := r1.strict.length
    by_cases hz : ds.length ≤ sizeLine
    · rw [if_pos hz] at h1
      refine ⟨by rw [hl]; exact hz, fun p hp => h1 (.ref p) _ _ (n1.new hp) (.inl ⟨p, vs, rfl, .inl upd_same, RepL.mono ((Nxt.refl n1.gh n1.vo).new (o := .tup vs) hp).g (fun _ x => x) _ _ r1.strict⟩)⟩
    · rw [if_neg hz] at h1
      exact h1.elim) fun _ _ x => x⟩⟩
def lsE (f : AS) : AS := fun env => bnd (f env) fun ds => if ds.length ≤ sizeLine then ret ds else bad
theorem so_lst {es : List Expr} {f : AS} (h : SA F X W false es f) : SO F X W (.List es pos) (lsE f) := ⟨pe_imp (pe_lst h.pa) fun σ H Q ⟨B, s, env, G, c, co, q⟩ =>
  ⟨B, s, env, G, c, co, wpR_mono (wpR_bnd q) (fun ds c1 h1 vs G1 H1 n1 r1 => by
    have hl := r1.strict.length
    by_cases hz : ds.length ≤ sizeLine
    · rw [if_pos hz] at h1
      refine ⟨by rw [hl]; exact hz, fun p hp => h1 p vs G1 _ (n1.newO hp) (fun e => ?_) (n1.back hp) ?_ upd_same r1.strict⟩
      · obtain ⟨m, _, this⟩ := (n1.vo.sp p e).2
        rw [hp] at this
        cases this
      · cases e : G1 p with
        | none => rfl
        | some o =>
          have := n1.gh p o e
          rw [hp] at this
          cases this
    · rw [if_neg hz] at h1
      exact h1.elim) fun _ _ x => x⟩⟩

/-! ### defs -/
inductive DR where
  | va (d : FL.D) (c : CT)
  | ow (xs : List FL.D) (c : CT)
  | ex (x : Exn) (c : CT)
  | bad
abbrev DS := List FL.D → CT → DR
def defF (n : Nat) (body : SS) : DS := fun ds c => match body (ds.map Sl.va ++ List.replicate (n - ds.length) Sl.no) c with
  | .nx _ c' => .va .non c'
  | .rt d c' => .va d c'
  | .ro xs c' => .ow xs c'
  | .ex x _ c' => .ex x c'
  | _ => .bad
def wpD (F : FX) (z : Bool) (s : Option Addr) (G H : Hp) (Q : VK) (E : XK) : DR → Prop
  | .va d c' => ∀ s' v G' H', sOk z s s' → Nxt F s G H s' G' H' c' → Rep F s' G' d v → Q v H'
  | .ow ds c' => ∀ s' p vs G' H', sOk z s s' → Nxt F s G H s' G' H' c' → s' ≠ some p → H p = none → G' p = none → H' p = some (.lst vs) → RepL F s' G' ds vs → Q (.ref p) H'
  | .ex x c' => ∀ s' C dx fs G' H', sOk z s s' → F.CL x.cls = some C → Nxt F s G H s' G' H' c' → G' dx = some (.xd fs) → RepF F s' G' x.fs fs → E (.ref C) (some dx) H'
  | .bad => False
def spF (F : FX) (z : Bool) (np : Nat) (f : DS) : Sp := fun vs H Q E => vs.length = np ∧ ∃ s G c ds, Ex G H ∧ Vol F s c G H ∧ RepL F s G ds vs ∧ wpD F z s G H Q E (f ds c)
theorem co_start {F : FX} {s : Option Addr} {G H : Hp} {c : CT} {ds : List FL.D} {vs : List V} {N : List Str} (e : Ex G H) (v : Vol F s c G H) (r : RepL F s G ds vs) (hl : vs.length ≤ N.length) :
    Co F ⟨s, G, H⟩ s (ds.map Sl.va ++ List.replicate (N.length - ds.length) Sl.no) (L2.start N vs) G H c where
  len := by
    unfold L2.start
    simp only [List.length_append, List.length_map, List.length_replicate]
    rw [r.length]
  bs := Nxt.refl e v
  va := fun i d q => by
    by_cases hi : i < ds.length
    · rw [List.getElem?_append_left (by simpa using hi), List.getElem?_map] at q
      cases e2 : ds[i]? with
      | none => rw [e2] at q; cases q
      | some d' =>
        rw [e2] at q
        cases q
        obtain ⟨u, h1, h2⟩ := r.get e2
        refine ⟨u, ?_, h2⟩
        unfold L2.start
        rw [List.getElem?_append_left (by rw [List.length_map, r.length]; exact hi), List.getElem?_map, h1]
        rfl
    · rw [List.getElem?_append_right (by simpa using Nat.le_of_not_lt hi), List.getElem?_replicate] at q
      split at q <;> cases q
  ow := fun i xs q => by
    by_cases hi : i < ds.length
    · rw [List.getElem?_append_left (by simpa using hi), List.getElem?_map] at q
      cases e2 : ds[i]? with
      | none => rw [e2] at q; cases q
      | some d' => rw [e2] at q; cases q
    · rw [List.getElem?_append_right (by simpa using Nat.le_of_not_lt hi), List.getElem?_replicate] at q
      split at q <;> cases q
  dj := fun i j xs ys p q => by
    by_cases hi : i < ds.length
    · rw [List.getElem?_append_left (by simpa using hi), List.getElem?_map] at q
      cases e2 : ds[i]? with
      | none => rw [e2] at q; cases q
      | some d' => rw [e2] at q; cases q
    · rw [List.getElem?_append_right (by simpa using Nat.le_of_not_lt hi), List.getElem?_replicate] at q
      split at q <;> cases q
end
section
variable {P : Program} {w : World} {F : FX} {mg : Str → Option Value} {base : Heap}
/-- THE RULE for a def -/
theorem def_ok {x qual : Str} {st : Stmt} {f : Addr} {fd : FuncData} {N ps : List Str} {k : Nat} {z : Bool} {body : SS} (Fn : Fun F.K x qual st f fd) (S : FnScope N ps (defScope st)) (hl : ps.length ≤ N.length)
    (hb : ∀ (cdv : Value) (A : Around) (outer : List Env) (s : Shared) (H : Hp) (E : XK), Room k (A.deeper (envOfC qual (defScope st) s.heap.objs.size f cdv)) →
      Takes (cxOf (L2.CX P w) P w F.K mg base N qual (defScope st) f cdv A outer s H E) (fun cls d _ H' => E cls d H') →
      SB F (cxOf (L2.CX P w) P w F.K mg base N qual (defScope st) f cdv A outer s H E) (fun cls d _ H' => E cls d H') z (defBody st) body) :
    FnOk P w F.K mg base (L2.CX P w) (k + 1) f fd ps (spF F z ps.length (defF N.length body)) := by
  refine Fn.okX S (fun vs H Q E h => h.1) (fun cdv A outer s H vs Q E hr h => ?_)
  obtain ⟨hlen, s', G, c, ds, e, vo, r, q⟩ := h
  refine ⟨_, (hb cdv A outer s H E hr (takes_of rfl rfl rfl rfl)).pss, ⟨s', G, H⟩, s', _, G, c, co_start e vo r (by rw [hlen]; exact hl), ?_⟩
  unfold defF at q
  cases e2 : body (ds.map Sl.va ++ List.replicate (N.length - ds.length) Sl.no) c with
  | nx en c' => rw [e2] at q; exact fun s1 σ' G' H' a _ b => q s1 .non G' H' a b.bs rfl
  | rt d c' => rw [e2] at q; exact q
  | ro xs c' => rw [e2] at q; exact fun s1 p vs' G' H' a b c1 c2 c3 c4 c5 => q s1 p vs' G' H' a b c1 c2 c3 c4 c5
  | ex x en c' => rw [e2] at q; exact fun s1 C dx fs σ' G' H' a _ b d' f' g' => q s1 C dx fs G' H' a b d'.bs f' g'
  | bk en c' => rw [e2] at q; exact q.elim
  | ct en c' => rw [e2] at q; exact q.elim
  | bad => rw [e2] at q; exact q.elim
end
section
variable {F : FX} {X : Cx} {W : WX}
def callE (f : DS) (a : AS) : ES := fun env => bnd (a env) fun ds c => match f ds c with
  | .va d c' => .ok d c'
  | .ow xs c' => .ok (.lst xs) c'
  | .ex x c' => .ex x c'
  | .bad => .bad
def callO (f : DS) (a : AS) : AS := fun env => bnd (a env) fun ds c => match f ds c with
  | .ow xs c' => .ok xs c'
  | .ex x c' => .ex x c'
  | _ => .bad
/-- what a call leaves, known to all -/
theorem nxt_frz {s : Option Addr} {G H G' H' : Hp} {c' : CT} {p : Addr} {vs : List V} (n : Nxt F s G H s G' H' c') (hs : s ≠ some p) (hp : H p = none) (hg : G' p = none) (hh : H' p = some (.lst vs)) : Nxt F s G H s (upd G' p (.lst vs)) H' c' := by
  have e1 : Ex G' (upd G' p (.lst vs)) := Ex.new hg
  refine ⟨n.g.trans e1, n.h, fun a o q => ?_, fun a h1 h2 => ?_, ⟨fun a q => ?_, fun P hP => ?_⟩, n.ss⟩
  · by_cases ea : a = p
    · rw [ea, upd_same] at q
      rw [ea, hh]
      exact q
    · rw [upd_ne ea] at q
      exact n.gh a o q
  · have ne : a ≠ p := fun z => h2 (z ▸ hp)
    rw [upd_ne ne]
    exact n.nw a h1 h2
  · obtain ⟨h1, h2⟩ := n.vo.sp a q
    have ne : a ≠ p := fun z => hs (z ▸ q)
    exact ⟨by rw [upd_ne ne]; exact h1, h2⟩
  · obtain ⟨h1, h2⟩ := n.vo.tb P hP
    have ne : P ≠ p := fun z => by
      obtain ⟨ps, e3, _⟩ := h2
      rw [z, hh] at e3
      cases e3
    exact ⟨by rw [upd_ne ne]; exact h1, h2⟩
theorem tX_call {b : Bool} {np : Nat} {f : DS} {a : AS} {σ : L2.St} {H : Hp} {Q : VK} (hn : ∀ env c ds c', a env c = .ok ds c' → ds.length = np) (h : tX F W b (callE f a) σ H Q) : tCallS (spF F false np f) (WE W) (tA F W false a) σ H Q := by
  obtain ⟨B, s, env, G, c, co, q⟩ := h
  refine ⟨B, s, env, G, c, co, ?_⟩
  have q2 := wpR_bnd q
  cases e : a env c with
  | ok ds c1 =>
    rw [e] at q2
    intro vs G1 H1 n1 r1
    refine ⟨by rw [r1.strict.length]; exact hn _ _ _ _ e, s, G1, c1, ds, n1.gh, n1.vo, r1.strict, ?_⟩
    have h1 := q2
    dsimp only [wpR] at h1
    cases e2 : f ds c1 with
    | va d c' =>
      rw [e2] at h1
      intro s' v G' H' a1 a2 a3
      rcases a1 with a1 | a1
      · subst a1
        exact h1 v G' H' (n1.trans a2) (.inl a3)
      · cases a1.1
    | ow xs c' =>
      rw [e2] at h1
      intro s' p vs' G' H' a1 a2 a3 a4 a5 a6 a7
      rcases a1 with a1 | a1
      · subst a1
        have n2 := nxt_frz a2 a3 a4 a5 a6
        exact h1 (.ref p) _ H' (n1.trans n2) (.inl ⟨p, vs', rfl, upd_same, RepL.mono (Ex.new a5) (fun _ x => x) _ _ a7⟩)
      · cases a1.1
    | ex x c' =>
      rw [e2] at h1
      intro s' C dx fs G' H' a1 a2 a3 a4 a5
      rcases a1 with a1 | a1
      · subst a1
        exact h1 C dx fs G' H' a2 (n1.trans a3) a4 a5
      · cases a1.1
    | bad => rw [e2] at h1; exact h1.elim
  | ex x c1 => rw [e] at q2; exact q2
  | bad => rw [e] at q2; exact q2
theorem tO_call {np : Nat} {f : DS} {a : AS} {σ : L2.St} {H : Hp} {Q : VK} (hn : ∀ env c ds c', a env c = .ok ds c' → ds.length = np) (h : tO F W (callO f a) σ H Q) : tCallS (spF F false np f) (WE W) (tA F W false a) σ H Q := by
  obtain ⟨B, s, env, G, c, co, q⟩ := h
  refine ⟨B, s, env, G, c, co, ?_⟩
  have q2 := wpR_bnd q
  cases e : a env c with
  | ok ds c1 =>
    rw [e] at q2
    intro vs G1 H1 n1 r1
    refine ⟨by rw [r1.strict.length]; exact hn _ _ _ _ e, s, G1, c1, ds, n1.gh, n1.vo, r1.strict, ?_⟩
    have h1 := q2
    dsimp only [wpR] at h1
    cases e2 : f ds c1 with
    | va d c' => rw [e2] at h1; exact h1.elim
    | ow xs c' =>
      rw [e2] at h1
      intro s' p vs' G' H' a1 a2 a3 a4 a5 a6 a7
      rcases a1 with a1 | a1
      · subst a1
        exact h1 p vs' G' H' (n1.trans a2) a3 (n1.back a4) a5 a6 a7
      · cases a1.1
    | ex x c' =>
      rw [e2] at h1
      intro s' C dx fs G' H' a1 a2 a3 a4 a5
      rcases a1 with a1 | a1
      · subst a1
        exact h1 C dx fs G' H' a2 (n1.trans a3) a4 a5
      · cases a1.1
    | bad => rw [e2] at h1; exact h1.elim
  | ex x c1 => rw [e] at q2; exact q2
  | bad => rw [e] at q2; exact q2
/-- how many arguments -/
def AL (n : Nat) (a : AS) : Prop := ∀ env c ds c', a env c = .ok ds c' → ds.length = n
theorem al_nil : AL 0 aNil := fun env c ds c' h => by cases h; rfl
theorem al_cons {n : Nat} {f : ES} {a : AS} (h : AL n a) : AL (n + 1) (aCons f a) := fun env c ds c' e => by
  unfold aCons bnd at e
  cases e1 : f env c with
  | ok d c1 =>
    simp only [e1] at e
    cases e2 : a env c1 with
    | ok ds2 c2 =>
      simp only [e2] at e
      cases e
      rw [List.length_cons, h _ _ _ _ e2]
    | ex x c2 => simp only [e2] at e; cases e
    | bad => simp only [e2] at e; cases e
  | ex x c1 => simp only [e1] at e; cases e
  | bad => simp only [e1] at e; cases e
variable {k np : Nat} {f : Addr} {fd : FuncData} {ps : List Str} {x : Str} {p pos : Pos} {e : Expr} {es : List Expr} {g : DS} {a : AS}
/-- f(e, ..) of an own def -/
theorem se_call {b : Bool} (Fo : FnOk X.prog X.w X.K X.mg X.base (L2.CX X.prog X.w) k f fd ps (spF F false np g)) (hr : Room k X.A) (hg : Gl X x) (hm : X.mg x = some (.ref f)) (hk : PySem.W.keepIn X.K (.ref f) = true) (hb : Binds X.K fd ps []) (tk : Takes X W)
    (ha : SA F X W false (e :: es) a) (hn : AL np a) (hdb : (x == ("__debug__" : Str)) = false := by decide) (he : starEach (e :: es) X.env = (false, eval e X.env) :: starEach es X.env := by rfl) (hpl : (backTo pos (starEach es X.env)).any (·.1) = false := by rfl) :
    SE F X W b (.Call (.Name x p) (e :: es) [] pos) (callE g a) := ⟨pe_imp (pe_callS Fo hr hg hm hk hb (fun σ => passAt tk σ) ha.pa hdb he hpl) fun _ _ _ h => tX_call hn h⟩
theorem so_call (Fo : FnOk X.prog X.w X.K X.mg X.base (L2.CX X.prog X.w) k f fd ps (spF F false np g)) (hr : Room k X.A) (hg : Gl X x) (hm : X.mg x = some (.ref f)) (hk : PySem.W.keepIn X.K (.ref f) = true) (hb : Binds X.K fd ps []) (tk : Takes X W)
    (ha : SA F X W false (e :: es) a) (hn : AL np a) (hdb : (x == ("__debug__" : Str)) = false := by decide) (he : starEach (e :: es) X.env = (false, eval e X.env) :: starEach es X.env := by rfl) (hpl : (backTo pos (starEach es X.env)).any (·.1) = false := by rfl) :
    SO F X W (.Call (.Name x p) (e :: es) [] pos) (callO g a) := ⟨pe_imp (pe_callS Fo hr hg hm hk hb (fun σ => passAt tk σ) ha.pa hdb he hpl) fun _ _ _ h => tO_call hn h⟩
end
end FL

set_option Elab.async false
set_option linter.all false
set_option maxRecDepth 100000
set_option maxHeartbeats 1000000
/-! F3: what is walked, targets, loops, lists that change, comprehensions. -/
namespace FL
open PySem L2 PyProof.Rows
open Evl (Ex)

theorem pi_imp {X : Cx} {tg e : Expr} {t t' : TI} (h : PI X tg e t) (i : ∀ σ H Q, t' σ H Q → t σ H Q) : PI X tg e t' := ⟨fun pins s σ H Q I q => h.run pins s σ H Q I (i σ H Q q)⟩
theorem pi_or {X : Cx} {tg e : Expr} {t t' : TI} (h : PI X tg e t) (h' : PI X tg e t') : PI X tg e (fun σ H R => t σ H R ∨ t' σ H R) := ⟨fun pins s σ H R I q => q.elim (fun q => h.run pins s σ H R I q) fun q => h'.run pins s σ H R I q⟩
/-- an iterator that gives data: ok, what must be known -/
structure ItD (F : FX) (J : It) (ok : Option Addr → Hp → Prop) (ds : List FL.D) : Prop where
  go : ∀ (i : Nat) (s : Option Addr) (G H : Hp) (c : CT), ok s G → Ex G H → Vol F s c G H → i < ds.length → J.go i H
  stop : ∀ (s : Option Addr) (G H : Hp) (c : CT), ok s G → Ex G H → Vol F s c G H → J.stop ds.length H
  yld : ∀ (i : Nat) (s : Option Addr) (G H : Hp) (c : CT) (x : V) (H' : Hp) (d : FL.D), ok s G → Ex G H → Vol F s c G H → J.yld i H x H' → ds[i]? = some d → ∃ G', Nxt F s G H s G' H' c ∧ Rep F s G' d x
  mono : ∀ (s s' : Option Addr) (G G' : Hp), ok s G → (∀ a, s = some a → s' = some a) → Ex G G' → ok s' G'
def tI (F : FX) (W : WX) (f : AS) : TI := fun σ H R => ∃ B s env G c, Co F B s env σ G H c ∧ wpR (f env c) (fun ds c' => ∀ J ok G' H', Nxt F s G H s G' H' c' → ItD F J ok ds → ok s G' → R J H') (xW F W s σ G H)
structure SI (F : FX) (X : Cx) (W : WX) (tg iter : Expr) (f : AS) : Prop where
  pi : PI X tg iter (tI F W f)
section
variable {F : FX} {X : Cx} {W : WX} {z : Bool} {B : St0} {s s1 : Option Addr} {D : Ends} {G H : Hp} {c : CT} {σ : L2.St} {tg : Expr}
theorem itd_list {a : Addr} {ds : List FL.D} {vs : List V} (h : SqL F.K G a vs) (r : RepL F s G ds vs) : ∃ ok, ItD F (Itl F.K a) ok ds ∧ ok s G := by
  refine ⟨fun s G => SqL F.K G a vs ∧ RepL F s G ds vs, ⟨fun i s G H c ok e vo hi => ?_, fun s G H c ok e vo => ?_, fun i s G H c x H' d ok e vo y hd => ?_, fun s s' G G' ok hs e => ⟨Evl.ex_l e ok.1, RepL.mono e hs _ _ ok.2⟩⟩, h, r⟩
  · have hl := ok.2.length
    exact ⟨vs, vs[i]'(by omega), Evl.ex_l e ok.1, by simp⟩
  · exact ⟨vs, Evl.ex_l e ok.1, by rw [ok.2.length]; exact Nat.le_refl _⟩
  · obtain ⟨rfl, y⟩ := y
    obtain ⟨v, hv, rv⟩ := ok.2.get hd
    have e2 := y vs (Evl.ex_l e ok.1)
    rw [hv] at e2
    cases e2
    exact ⟨G, Nxt.refl e vo, rv⟩
theorem itd_tup {a : Addr} {ds : List FL.D} {vs : List V} (h : SqT F.K G a vs) (r : RepL F s G ds vs) : ∃ ok, ItD F (Itt F.K a) ok ds ∧ ok s G := by
  refine ⟨fun s G => SqT F.K G a vs ∧ RepL F s G ds vs, ⟨fun i s G H c ok e vo hi => ?_, fun s G H c ok e vo => ?_, fun i s G H c x H' d ok e vo y hd => ?_, fun s s' G G' ok hs e => ⟨Evl.ex_t e ok.1, RepL.mono e hs _ _ ok.2⟩⟩, h, r⟩
  · have hl := ok.2.length
    exact ⟨vs, vs[i]'(by omega), Evl.ex_t e ok.1, by simp⟩
  · exact ⟨vs, Evl.ex_t e ok.1, by rw [ok.2.length]; exact Nat.le_refl _⟩
  · obtain ⟨rfl, y⟩ := y
    obtain ⟨v, hv, rv⟩ := ok.2.get hd
    have e2 := y vs (Evl.ex_t e ok.1)
    rw [hv] at e2
    cases e2
    exact ⟨G, Nxt.refl e vo, rv⟩
/-- a text's signs -/
def signs (x : Str) : List FL.D := x.cps.toList.map fun k => FL.D.str ⟨#[k]⟩
theorem itd_str {x : Str} : ItD F (Its x) (fun _ _ => True) (signs x) := by
  refine ⟨fun i s G H c ok e vo hi => ?_, fun s G H c ok e vo => ?_, fun i s G H c v H' d ok e vo y hd => ?_, fun s s' G G' ok hs e => trivial⟩
  · show i < x.cps.size
    unfold signs at hi
    simpa using hi
  · show x.cps.size ≤ (signs x).length
    unfold signs
    simp
  · obtain ⟨rfl, k, hk, rfl⟩ := y
    unfold signs at hd
    rw [List.getElem?_map, Array.getElem?_toList, hk] at hd
    cases hd
    exact ⟨G, Nxt.refl e vo, rfl⟩
def rangeD (lo : Int) (n : Nat) : List FL.D := (List.range n).map fun i => FL.D.int (lo + (i : Nat))
theorem itd_range {lo : Int} {n : Nat} : ItD F (Itr lo n) (fun _ _ => True) (rangeD lo n) := by
  refine ⟨fun i s G H c ok e vo hi => ?_, fun s G H c ok e vo => ?_, fun i s G H c v H' d ok e vo y hd => ?_, fun s s' G G' ok hs e => trivial⟩
  · show i < n
    unfold rangeD at hi
    simpa using hi
  · show n ≤ (rangeD lo n).length
    unfold rangeD
    simp
  · obtain ⟨rfl, rfl⟩ := y
    unfold rangeD at hd
    have hi : i < n := by
      have h := (List.getElem?_eq_some_iff.mp hd).1
      simpa using h
    rw [List.getElem?_map, List.getElem?_range hi] at hd
    cases hd
    exact ⟨G, Nxt.refl e vo, rfl⟩
/-- the items of a list, a tuple, a text -/
def itE (f : ES) : AS := fun env => bnd (f env) fun d => match d with
  | .lst ds => ret ds
  | .tup ds => ret ds
  | .str x => ret (signs x)
  | _ => bad
theorem si_seq {e : Expr} {f : ES} (hK : X.K = F.K) (h : SE F X W false e f) : SI F X W tg e (itE f) := by
  refine ⟨pi_imp (pi_or (pi_list h.pe) (pi_or (pi_tup h.pe) (pi_str h.pe))) fun σ H R ⟨B, s, env, G, c, co, q⟩ => ?_⟩
  rw [hK]
  unfold itE bnd at q
  cases e1 : f env c with
  | ok d c1 =>
    rw [e1] at q
    cases d with
    | lst ds =>
      refine .inl ⟨B, s, env, G, c, co, ?_⟩
      rw [e1]
      intro v G1 H1 n1 r1
      obtain ⟨a, vs, rfl, h2, h3⟩ := r1.strict
      obtain ⟨ok, i1, i2⟩ := itd_list (SqL.of h2) h3
      exact ⟨a, rfl, ⟨vs, Evl.ex_l n1.gh (SqL.of h2)⟩, q _ ok G1 H1 n1 i1 i2⟩
    | tup ds =>
      refine .inr (.inl ⟨B, s, env, G, c, co, ?_⟩)
      rw [e1]
      intro v G1 H1 n1 r1
      obtain ⟨a, vs, rfl, h2, h3⟩ := r1.strict
      obtain ⟨ok, i1, i2⟩ := itd_tup h2.sq h3
      exact ⟨a, rfl, ⟨vs, Evl.ex_t n1.gh h2.sq⟩, q _ ok G1 H1 n1 i1 i2⟩
    | str x =>
      refine .inr (.inr ⟨B, s, env, G, c, co, ?_⟩)
      rw [e1]
      intro v G1 H1 n1 r1
      obtain rfl := r1.str
      exact ⟨x, rfl, q _ _ G1 H1 n1 itd_str trivial⟩
    | _ => exact q.elim
  | ex x c1 =>
    rw [e1] at q
    refine .inl ⟨B, s, env, G, c, co, ?_⟩
    rw [e1]
    exact q
  | bad => rw [e1] at q; exact q.elim
/-- range(n), range(a, b) -/
def rng1E (f : AS) : AS := fun env => bnd (f env) fun ds => match ds with
  | [.int j] => if -(2 ^ 62) ≤ j ∧ j < 2 ^ 62 then ret (rangeD 0 j.toNat) else bad
  | _ => bad
def rng2E (f : AS) : AS := fun env => bnd (f env) fun ds => match ds with
  | [.int i, .int j] => if -(2 ^ 62) ≤ i ∧ i < 2 ^ 62 ∧ -(2 ^ 62) ≤ j ∧ j < 2 ^ 62 then ret (rangeD i (j - i).toNat) else bad
  | _ => bad
variable {p pos : Pos}
theorem si_range1 {a : Expr} {f : AS} (hg : Gl X "range") (hm : X.mg "range" = none) (ha : SA F X W true [a] f) (hs : starEach [a] X.env = [(false, eval a X.env)] := by rfl) : SI F X W tg (.Call (.Name "range" p) [a] [] pos) (rng1E f) := by
  refine ⟨pi_imp (pi_range1 hg hm ha.pa hs) fun σ H R ⟨B, s, env, G, c, co, q⟩ => ⟨B, s, env, G, c, co, wpR_mono (wpR_bnd q) (fun ds c1 h1 vs G1 H1 n1 r1 => ?_) fun _ _ x => x⟩⟩
  match ds, h1, r1 with
  | [.int j], h1, ⟨v, r, ev, h2, er⟩ =>
    cases (show r = [] from er)
    obtain rfl := h2.int
    by_cases hj : -(2 ^ 62) ≤ j ∧ j < 2 ^ 62
    · have h1 : wpR ((if -(2 ^ 62) ≤ j ∧ j < 2 ^ 62 then ret (rangeD 0 j.toNat) else bad) c1) _ _ := h1
      rw [if_pos hj] at h1
      exact ⟨j, ev, hj.1, hj.2, h1 _ _ G1 H1 n1 itd_range trivial⟩
    · have h1 : wpR ((if -(2 ^ 62) ≤ j ∧ j < 2 ^ 62 then ret (rangeD 0 j.toNat) else bad) c1) _ _ := h1
      rw [if_neg hj] at h1
      exact h1.elim
theorem si_range2 {a b : Expr} {f : AS} (hg : Gl X "range") (hm : X.mg "range" = none) (ha : SA F X W true [a, b] f) (hs : starEach [a, b] X.env = [(false, eval a X.env), (false, eval b X.env)] := by rfl) (hs2 : starEach [b] X.env = [(false, eval b X.env)] := by rfl) :
    SI F X W tg (.Call (.Name "range" p) [a, b] [] pos) (rng2E f) := by
  refine ⟨pi_imp (pi_range2 hg hm ha.pa hs hs2) fun σ H R ⟨B, s, env, G, c, co, q⟩ => ⟨B, s, env, G, c, co, wpR_mono (wpR_bnd q) (fun ds c1 h1 vs G1 H1 n1 r1 => ?_) fun _ _ x => x⟩⟩
  match ds, h1, r1 with
  | [.int i, .int j], h1, ⟨v, r, ev, h2, v2, r2, ev2, h22, er⟩ =>
    cases (show r2 = [] from er)
    obtain rfl := h2.int
    obtain rfl := h22.int
    by_cases hj : -(2 ^ 62) ≤ i ∧ i < 2 ^ 62 ∧ -(2 ^ 62) ≤ j ∧ j < 2 ^ 62
    · have h1 : wpR ((if -(2 ^ 62) ≤ i ∧ i < 2 ^ 62 ∧ -(2 ^ 62) ≤ j ∧ j < 2 ^ 62 then ret (rangeD i (j - i).toNat) else bad) c1) _ _ := h1
      rw [if_pos hj] at h1
      exact ⟨i, j, by rw [ev, ev2], hj, h1 _ _ G1 H1 n1 itd_range trivial⟩
    · have h1 : wpR ((if -(2 ^ 62) ≤ i ∧ i < 2 ^ 62 ∧ -(2 ^ 62) ≤ j ∧ j < 2 ^ 62 then ret (rangeD i (j - i).toNat) else bad) c1) _ _ := h1
      rw [if_neg hj] at h1
      exact h1.elim

/-! ### targets -/
abbrev Tg := FL.D → En → Option En
/-- a target: the slots ts are set -/
def tG (F : FX) (ts : List Nat) (t : Tg) : TG := fun v σ H Q => ∃ B s env G c d env', Co F B s env σ G H c ∧ Rep F s G d v ∧ t d env = some env' ∧ ∀ σ' : L2.St, Co F B s env' σ' G H c → σ'.length = σ.length → (∀ j, j ∉ ts → σ'[j]? = σ[j]?) → Q σ' H
structure STg (F : FX) (X : Cx) (tg : Expr) (ts : List Nat) (t : Tg) : Prop where
  pg : PG X tg (tG F ts t)
theorem pg_imp {tg : Expr} {t t' : TG} (h : PG X tg t) (i : ∀ v σ H Q, t' v σ H Q → t v σ H Q) : PG X tg t' := ⟨fun pins s σ H v u Q I r q => h.run pins s σ H v u Q I r (i v σ H Q q)⟩
def setT (i : Nat) : Tg := fun d env => if i < env.length then some (env.set i (Sl.va d)) else none
theorem stg_name {i : Nat} (h : PG X tg (gName i)) : STg F X tg [i] (setT i) := ⟨pg_imp h fun v σ H Q ⟨B, s, env, G, c, d, env', co, r, e, k⟩ => by
  unfold setT at e
  by_cases hi : i < env.length
  · rw [if_pos hi] at e
    cases e
    exact k _ (co.set hi r) (List.length_set ..) fun j hj => List.getElem?_set_ne (fun z => hj (by simp [z]))
  · rw [if_neg hi] at e
    cases e⟩
/-- several names, one after another -/
def setsT : List Nat → List FL.D → En → Option En
  | [], [], env => some env
  | i :: is, d :: ds, env => if i < env.length then setsT is ds (env.set i (Sl.va d)) else none
  | _, _, _ => none
def tGs (F : FX) (is : List Nat) : TGs := fun vs σ H Q => ∃ B s env G c ds env', Co F B s env σ G H c ∧ RepL F s G ds vs ∧ setsT is ds env = some env' ∧ ∀ σ' : L2.St, Co F B s env' σ' G H c → σ'.length = σ.length → (∀ j, j ∉ is → σ'[j]? = σ[j]?) → Q σ' H
structure STgs (F : FX) (X : Cx) (tgs : List Expr) (is : List Nat) : Prop where
  pgs : PGs X tgs (tGs F is)
theorem stgs_nil : STgs F X [] [] := ⟨⟨fun pins s σ H vs us Q I r ⟨B, s', env, G, c, ds, env', co, rr, e, k⟩ => by
  cases ds with
  | nil =>
    cases (show vs = [] from rr)
    cases r
    cases e
    exact assignInOrder_nil ⟨σ, H, I, k σ co rfl fun _ _ => rfl⟩
  | cons d ds => cases e⟩⟩
theorem stgs_cons {e : Expr} {es : List Expr} {i : Nat} {is : List Nat} (h1 : PG X e (gName i)) (h2 : STgs F X es is)
    (hs : (assignEach (e :: es) X.env).map (·.2) = assign e X.env :: (assignEach es X.env).map (·.2) := by rfl) : STgs F X (e :: es) (i :: is) := ⟨⟨fun pins s σ H vs us Q I r ⟨B, s', env, G, c, ds, env', co, rr, e1, k⟩ => by
  cases ds with
  | nil => cases e1
  | cons d ds =>
    obtain ⟨v, vr, rfl, r1, r2⟩ := rr
    by_cases hi : i < env.length
    · have e2 : setsT is ds (env.set i (Sl.va d)) = some env' := by
        have e1 : (if i < env.length then setsT is ds (env.set i (Sl.va d)) else none) = some env' := e1
        rw [if_pos hi] at e1
        exact e1
      cases r with
      | cons ra rb =>
        rw [hs]
        refine assignInOrder_cons (thn (h1.run pins s σ H v _ (fun σ1 H1 => σ1 = σ.set i (some v) ∧ H1 = H) I ra ⟨rfl, rfl⟩) fun _ s2 ⟨σ1, H1, I1, q1, q2⟩ => ?_)
        subst q1 q2
        exact h2.pgs.run pins s2 _ _ vr _ Q I1 rb ⟨B, s', _, G, c, ds, env', co.set hi r1, r2, e2, fun σ' co' hl hj => k σ' co' (hl.trans (List.length_set ..)) fun j hn => (hj j fun z => hn (List.mem_cons_of_mem _ z)).trans (List.getElem?_set_ne fun z => hn (by simp [z]))⟩
    · have e1 : (if i < env.length then setsT is ds (env.set i (Sl.va d)) else none) = some env' := e1
      rw [if_neg hi] at e1
      cases e1⟩⟩
/-- a, b, .. = a tuple -/
def tupT (is : List Nat) : Tg := fun d env => match d with
  | .tup ds => setsT is ds env
  | .lst ds => setsT is ds env
  | _ => none
theorem pg_or {X : Cx} {tg : Expr} {t t' : TG} (h : PG X tg t) (h' : PG X tg t') : PG X tg (fun v σ H Q => t v σ H Q ∨ t' v σ H Q) := ⟨fun pins s σ H v u Q I r q => q.elim (fun q => h.run pins s σ H v u Q I r q) fun q => h'.run pins s σ H v u Q I r q⟩
theorem setsT_len : ∀ {is : List Nat} {ds : List FL.D} {env env' : En}, setsT is ds env = some env' → ds.length = is.length
  | [], [], _, _, _ => rfl
  | [], _ :: _, _, _, h => by cases h
  | _ :: _, [], _, _, h => by cases h
  | i :: is, d :: ds, env, env', h => by
    have h : (if i < env.length then setsT is ds (env.set i (Sl.va d)) else none) = some env' := h
    by_cases hi : i < env.length
    · rw [if_pos hi] at h
      rw [List.length_cons, List.length_cons, setsT_len h]
    · rw [if_neg hi] at h
      cases h
theorem stg_tup {es : List Expr} {k : Nat} {is : List Nat} (hK : X.K = F.K) (hc : X.calm = true) (h : STgs F X es is) (hn : (assignEach es X.env).length = is.length := by rfl) (hst : (assignEach es X.env).findIdx? (·.1) = none := by rfl) : STg F X (.Tuple es k pos) is (tupT is) :=
  ⟨pg_imp (pg_or (pg_tup hc h.pgs hn hst) (pg_lst hc h.pgs hn hst)) fun v σ H Q ⟨B, s, env, G, c, d, env', co, r, e, kk⟩ => by
    cases d with
    | tup ds =>
      obtain ⟨a, vs, rfl, h2, h3⟩ := r
      rw [hK]
      exact .inl ⟨a, vs, rfl, Evl.ex_t co.bs.gh h2.sq, by rw [h3.length, setsT_len e], B, s, env, G, c, ds, env', co, h3, e, kk⟩
    | lst ds =>
      obtain ⟨a, vs, rfl, h2, h3⟩ := r
      rw [hK]
      exact .inr ⟨a, vs, rfl, Evl.ex_l co.bs.gh (SqL.of h2), by rw [h3.length, setsT_len e], B, s, env, G, c, ds, env', co, h3, e, kk⟩
    | _ => cases e⟩
/-- target = e, the target any -/
def asgT (t : Tg) (f : ES) : SS := exS f fun d env c => match t d env with
  | some env' => .nx env' c
  | none => .bad
theorem ss_asgT {e : Expr} {f : ES} {ts : List Nat} {t : Tg} (h : SE F X W false e f) (ht : STg F X tg ts t) (hs : swapsWithSole [tg] e pos.line X.env = pure false := by rfl) (hw : swappedStores [tg] e X.env = pure none := by rfl)
    (h1 : (assignEach [tg] X.env).map (·.2) = [assign tg X.env] := by rfl) : SSt F X W z (.Assign [tg] e pos) (asgT t f) := ⟨ps_imp (ps_asg h.pe ht.pg hs hw h1) fun D σ H ⟨B, s, env, G, c, co, q⟩ => ⟨B, s, env, G, c, co, exS_wp co q fun d c' h v G' H' n r => by
  cases e2 : t d env with
  | none => rw [e2] at h; exact h.elim
  | some env' =>
    rw [e2] at h
    exact ⟨B, s, env, G', c', d, env', co.nxt n, r.strict, e2, fun σ' co' _ _ => h s σ' G' H' .rfl' n.g co'⟩⟩⟩

/-! ### for -/
def loopS (t : Tg) (body : SS) : List FL.D → SS
  | [] => nxS
  | d :: r => fun env c => match t d env with
    | none => .bad
    | some env1 => match body env1 c with
      | .nx e c' => loopS t body r e c'
      | .ct e c' => loopS t body r e c'
      | .bk e c' => .nx e c'
      | res => res
def forS (it : AS) (t : Tg) (body : SS) : SS := exS it fun ds => loopS t body ds
theorem tS_for {it : AS} {ts : List Nat} {t : Tg} {body : SS} (h : tS F W z (forS it t body) D σ H) : tFor (tI F W it) (tG F ts t) (tS F W z body) D σ H := by
  obtain ⟨B, s, env, G, c, co, q⟩ := h
  refine ⟨B, s, env, G, c, co, exS_wp co q fun ds c' h J ok G' H' n hit hok => ?_⟩
  refine ⟨fun i m σ2 H2 => i ≤ ds.length ∧ m = ds.length - i ∧ ∃ s2 env2 G2 c2, sOk z s s2 ∧ Ex G G2 ∧ Co F B s2 env2 σ2 G2 H2 c2 ∧ ok s2 G2 ∧ wpS F W z B s2 G2 D (loopS t body (ds.drop i) env2 c2),
    ⟨ds.length, Nat.zero_le _, rfl, s, env, G', c', .rfl', n.g, co.nxt n, hok, by rw [List.drop_zero]; exact wpS_later h .rfl' n.g⟩, fun i m σ2 H2 ⟨hi, hm, s2, env2, G2, c2, o2, g2, co2, ok2, w2⟩ => ?_⟩
  by_cases hlt : i < ds.length
  · rw [List.drop_eq_getElem_cons hlt] at w2
    have hd : ds[i]? = some ds[i] := List.getElem?_eq_getElem hlt
    refine .inr ⟨hit.go i s2 G2 H2 c2 ok2 co2.bs.gh co2.bs.vo hlt, fun σ' H' => i + 1 ≤ ds.length ∧ ∃ s2 env2 G2 c2, sOk z s s2 ∧ Ex G G2 ∧ Co F B s2 env2 σ' G2 H' c2 ∧ ok s2 G2 ∧ wpS F W z B s2 G2 D (loopS t body (ds.drop (i + 1)) env2 c2), fun σ' H' w => ⟨m - 1, by omega, w.1, by omega, w.2⟩, fun x H3 y => ?_⟩
    obtain ⟨G3, n3, r3⟩ := hit.yld i s2 G2 H2 c2 x H3 _ ok2 co2.bs.gh co2.bs.vo y hd
    unfold loopS at w2
    cases et : t ds[i] env2 with
    | none => simp only [et] at w2; exact w2.elim
    | some env3 =>
      simp only [et] at w2
      refine ⟨B, s2, env2, G3, c2, ds[i], env3, co2.nxt n3, r3, et, fun σ3 co3 _ _ => ⟨B, s2, env3, G3, c2, co3, ?_⟩⟩
      have again : ∀ {e : En} {c4 : CT}, wpS F W z B s2 G2 D (loopS t body (ds.drop (i + 1)) e c4) → ∀ s' σ' G' H', sOk z s2 s' → Ex G3 G' → Co F B s' e σ' G' H' c4 →
          i + 1 ≤ ds.length ∧ ∃ s2 env2 G2 c2, sOk z s s2 ∧ Ex G G2 ∧ Co F B s2 env2 σ' G2 H' c2 ∧ ok s2 G2 ∧ wpS F W z B s2 G2 D (loopS t body (ds.drop (i + 1)) env2 c2) := fun w s' σ' G' H' a b d =>
        ⟨hlt, s', _, G', _, o2.trans a, (g2.trans n3.g).trans b, d, hit.mono s2 s' G2 G' ok2 a.sub (n3.g.trans b), wpS_later w a (n3.g.trans b)⟩
      cases er : body env3 c2 with
      | nx e c4 => simp only [er] at w2; exact again w2
      | ct e c4 => simp only [er] at w2; exact again w2
      | bk e c4 => simp only [er] at w2; exact fun s' σ' G' H' a b d => w2 s' σ' G' H' a (n3.g.trans b) d
      | rt d c4 => simp only [er] at w2; exact w2
      | ro xs c4 => simp only [er] at w2; exact w2
      | ex x e c4 => simp only [er] at w2; exact fun s' C dx fs σ' G' H' a b d e f g => w2 s' C dx fs σ' G' H' a (n3.g.trans b) d e f g
      | bad => simp only [er] at w2; exact w2
  · have e : i = ds.length := by omega
    subst e
    refine .inl ⟨hit.stop s2 G2 H2 c2 ok2 co2.bs.gh co2.bs.vo, ?_⟩
    rw [List.drop_length] at w2
    exact w2 s2 σ2 G2 H2 .rfl' (Ex.refl _) co2
theorem ss_for {iter : Expr} {body : List Stmt} {it : AS} {ts : List Nat} {t : Tg} {f : SS} (hp : PassesOwn (model X.prog X.w) X.A X.env X.xe) (hc : X.calm = true) (hi : SI F X W tg iter it) (hg : STg F X tg ts t) (hb : SB F X W z body f)
    (hs : ∀ x, foldedSetIterable iter X.env x = pure x := by intro _; rfl) : SSt F X W z (.For tg iter body [] pos) (forS it t f) := ⟨ps_imp (ps_for hp hc hi.pi hg.pg hb.pss hs) fun D σ H h => tS_for h⟩

/-! ### while -/
def whileS (t : BS) (body : SS) : Nat → SS
  | 0 => fun _ _ => .bad
  | n + 1 => exS t fun k => match k with
    | false => nxS
    | true => fun env c => match body env c with
      | .nx e c' => whileS t body n e c'
      | .ct e c' => whileS t body n e c'
      | .bk e c' => .nx e c'
      | res => res
theorem tS_while {t : BS} {body : SS} {n : Nat} (h : tS F W z (whileS t body n) D σ H) : tWhile (tT F W t) (tS F W z body) D σ H := by
  obtain ⟨B, s, env, G, c, co, q⟩ := h
  refine ⟨fun m σ2 H2 => ∃ s2 env2 G2 c2, Co F B s2 env2 σ2 G2 H2 c2 ∧ wpS F W z B s2 G2 D (whileS t body m env2 c2), ⟨n, s, env, G, c, co, q⟩, fun m σ2 H2 ⟨s2, env2, G2, c2, co2, w2⟩ => ?_⟩
  cases m with
  | zero => exact w2.elim
  | succ m =>
    refine ⟨B, s2, env2, G2, c2, co2, exS_wp co2 w2 fun k c3 h G3 H3 n3 => ?_⟩
    cases k with
    | false => exact iteF (h s2 σ2 G3 H3 .rfl' n3.g (co2.nxt n3))
    | true =>
      refine iteT ⟨fun σ' H' => ∃ s2 env2 G2 c2, Co F B s2 env2 σ' G2 H' c2 ∧ wpS F W z B s2 G2 D (whileS t body m env2 c2), fun σ' H' w => ⟨m, Nat.lt_succ_self _, w⟩, B, s2, env2, G3, c3, co2.nxt n3, ?_⟩
      have again : ∀ {e : En} {c4 : CT}, wpS F W z B s2 G2 D (whileS t body m e c4) → ∀ s' σ' G' H', sOk z s2 s' → Ex G3 G' → Co F B s' e σ' G' H' c4 →
          ∃ s2 env2 G2 c2, Co F B s2 env2 σ' G2 H' c2 ∧ wpS F W z B s2 G2 D (whileS t body m env2 c2) := fun w s' σ' G' H' a b d => ⟨s', _, G', _, d, wpS_later w a (n3.g.trans b)⟩
      cases er : body env2 c3 with
      | nx e c4 => simp only [er] at h; exact again h
      | ct e c4 => simp only [er] at h; exact again h
      | bk e c4 => simp only [er] at h; exact fun s' σ' G' H' a b d => h s' σ' G' H' a (n3.g.trans b) d
      | rt d c4 => simp only [er] at h; exact h
      | ro xs c4 => simp only [er] at h; exact h
      | ex x e c4 => simp only [er] at h; exact fun s' C dx fs σ' G' H' a b d e f g => h s' C dx fs σ' G' H' a (n3.g.trans b) d e f g
      | bad => simp only [er] at h; exact h
theorem ss_while {t : Expr} {body : List Stmt} {k : BS} {f : SS} (n : Nat) (hp : PassesOwn (model X.prog X.w) X.A X.env X.xe) (hc : ST F X W t k) (hb : SB F X W z body f) : SSt F X W z (.While t body [] pos) (whileS k f n) := ⟨ps_imp (ps_while hp hc.pt hb.pss) fun D σ H h => tS_while h⟩
end
end FL

set_option Elab.async false
set_option linter.all false
set_option maxRecDepth 100000
set_option maxHeartbeats 1000000
/-! F4: lists that change, the counter, comprehensions. -/
namespace FL
open PySem L2 PyProof.Rows
open Evl (Ex)
section
variable {F : FX} {X : Cx} {W : WX} {z : Bool} {B : St0} {s s1 : Option Addr} {D : Ends} {G H : Hp} {c : CT} {σ : L2.St} {tg : Expr} {env : En}
/-- the list in slot i changes -/
theorem Co.mut {i : Nat} {xs ys : List FL.D} {p : Addr} {us : List V} (h : Co F B s env σ G H c) (hi : env[i]? = some (Sl.ow xs)) (hp : σ[i]? = some (some (V.ref p))) (r : RepL F s G ys us) :
    Co F B s (env.set i (Sl.ow ys)) σ G (upd H p (.lst us)) c := by
  obtain ⟨p', vs, h1, h2, h3, h4, h5, h6⟩ := h.ow i xs hi
  rw [hp] at h1
  have e : V.ref p = V.ref p' := Option.some.inj (Option.some.inj h1)
  injection e with e
  subst e
  have hlt : i < env.length := (List.getElem?_eq_some_iff.mp hi).1
  have up : ∀ {a : Addr} {o : HO}, a ≠ p → H a = some o → upd H p (.lst us) a = some o := fun hne e => by rw [upd_ne hne]; exact e
  refine ⟨by rw [List.length_set]; exact h.len, ⟨h.bs.g, fun a o q1 q2 q3 => up (ne_of_none q3 h3) (h.bs.h a o q1 q2 q3), fun a o q => up (ne_of_none q h4) (h.bs.gh a o q), h.bs.nw, ⟨fun a q => ?_, fun P hP => ?_⟩, h.bs.ss⟩, fun j d q => ?_, fun j ds q => ?_, fun j k xs' ys' q e1 e2 e3 e4 => ?_⟩
  · obtain ⟨q1, n, q2, q3⟩ := h.bs.vo.sp a q
    exact ⟨q1, n, q2, up (fun z => h2 (z ▸ q)) q3⟩
  · obtain ⟨q1, ps, q2, q3⟩ := h.bs.vo.tb P hP
    exact ⟨q1, ps, up (fun z => by rw [z, h5] at q2; cases q2) q2, q3⟩
  · by_cases ej : i = j
    · subst ej
      rw [List.getElem?_set_self hlt] at q
      cases q
    · rw [List.getElem?_set_ne ej] at q
      exact h.va j d q
  · by_cases ej : i = j
    · subst ej
      rw [List.getElem?_set_self hlt] at q
      cases q
      exact ⟨p, us, hp, h2, h3, h4, upd_same, r⟩
    · rw [List.getElem?_set_ne ej] at q
      obtain ⟨p2, vs2, q1, q2, q3, q4, q5, q6⟩ := h.ow j ds q
      refine ⟨p2, vs2, q1, q2, q3, q4, up (fun z => ej ?_) q5, q6⟩
      subst z
      exact h.dj i j xs ds p2 hi q hp q1
  · have own : ∀ {l : Nat} {ws : List FL.D}, (env.set i (Sl.ow ys))[l]? = some (Sl.ow ws) → ∃ ws', env[l]? = some (Sl.ow ws') := fun {l ws} e => by
      by_cases el : i = l
      · subst el
        exact ⟨xs, hi⟩
      · rw [List.getElem?_set_ne el] at e
        exact ⟨ws, e⟩
    obtain ⟨_, k1⟩ := own e1
    obtain ⟨_, k2⟩ := own e2
    exact h.dj j k _ _ q k1 k2 e3 e4
theorem ow_at {i : Nat} {xs : List FL.D} (h : Co F B s env σ G H c) (hi : env[i]? = some (Sl.ow xs)) : ∃ p vs, σ[i]? = some (some (V.ref p)) ∧ H p = some (.lst vs) ∧ RepL F s G xs vs := by
  obtain ⟨p, vs, h1, _, _, _, h5, h6⟩ := h.ow i xs hi
  exact ⟨p, vs, h1, h5, h6⟩
variable {e o : Expr} {pos apos cpos : Pos}
/-- x.append(e) -/
def appS (i : Nat) (f : ES) : SS := fun env c => match env[i]? with
  | some (Sl.ow xs) => exS f (fun d env c => if xs.length < sizeLine then .nx (env.set i (Sl.ow (xs ++ [d]))) c else .bad) env c
  | _ => .bad
theorem tS_app {i : Nat} {f : ES} (h : tS F W z (appS i f) D σ H) : tDrop (tBM F.K "list" rAppend (tVar i) (tCons (tX F W false f) tNil)) D σ H := by
  obtain ⟨B, s, env, G, c, co, q⟩ := h
  unfold appS at q
  cases ei : env[i]? with
  | none => rw [ei] at q; exact q.elim
  | some x =>
    rw [ei] at q
    cases x with
    | va d => exact q.elim
    | no => exact q.elim
    | ow xs =>
      obtain ⟨p, vs, h1, h5, h6⟩ := ow_at co ei
      refine ⟨.ref p, h1, .inl ⟨rfl, _, .inl (.inl h5)⟩, B, s, env, G, c, co, exS_wp co q fun d c' hq v G' H' n r => ?_⟩
      have co' := co.nxt n
      obtain ⟨p', vs', k1, k5, k6⟩ := ow_at co' ei
      rw [h1] at k1
      have e : V.ref p = V.ref p' := Option.some.inj (Option.some.inj k1)
      injection e with e
      subst e
      by_cases hz : xs.length < sizeLine
      · rw [if_pos hz] at hq
        refine ⟨p, vs', v, rfl, rfl, k5, by rw [k6.length]; exact hz, hq s σ G' _ .rfl' n.g (co'.mut ei h1 (k6.append ⟨v, [], rfl, r.strict, rfl⟩))⟩
      · rw [if_neg hz] at hq
        exact hq.elim
theorem ss_app {i : Nat} {f : ES} (hK : X.K = F.K) (ho : PE X o (tVar i)) (h : SE F X W false e f) (hr : PE X (.Call (.Attribute o "append" apos) [e] [] cpos) (tBM X.K "list" rAppend (tVar i) (tCons (tX F W false f) tNil)) := by exact pe_bm PySem.F.plainAttrs_list PySem.F.slot_list_append PySem.F.type_list_append mt_append ho (pa_cons h.pe pa_nil))
    (hs : swapsWith (.Call (.Attribute o "append" apos) [e] [] cpos) none pos.line X.env = pure false := by rfl) : SSt F X W z (.Expr (.Call (.Attribute o "append" apos) [e] [] cpos) pos) (appS i f) :=
  ⟨ps_imp (ps_expr hr hs) fun D σ H h => by rw [hK]; exact tS_app h⟩
/-- x.pop() -/
def popS (i : Nat) : SS := fun env c => match env[i]? with
  | some (Sl.ow xs) => if xs = [] then .bad else .nx (env.set i (Sl.ow xs.dropLast)) c
  | _ => .bad
theorem RepL.dropLast {ds : List FL.D} {vs : List V} (h : RepL F s G ds vs) : RepL F s G ds.dropLast vs.dropLast := by
  rw [List.dropLast_eq_take, List.dropLast_eq_take, h.length]
  exact RepL.take _ h
theorem tS_pop {i : Nat} (h : tS F W z (popS i) D σ H) : tDrop (tBM0 F.K "list" rPop (tVar i)) D σ H := by
  obtain ⟨B, s, env, G, c, co, q⟩ := h
  unfold popS at q
  cases ei : env[i]? with
  | none => rw [ei] at q; exact q.elim
  | some x =>
    rw [ei] at q
    cases x with
    | va d => exact q.elim
    | no => exact q.elim
    | ow xs =>
      obtain ⟨p, vs, h1, h5, h6⟩ := ow_at co ei
      by_cases hz : xs = []
      · have q : wpS F W z B s G D (if xs = [] then .bad else .nx (env.set i (Sl.ow xs.dropLast)) c) := q
        rw [if_pos hz] at q
        exact q.elim
      · have q : wpS F W z B s G D (if xs = [] then .bad else .nx (env.set i (Sl.ow xs.dropLast)) c) := q
        rw [if_neg hz] at q
        have hl : vs.length - 1 < vs.length := by
          rw [h6.length]
          have := List.length_pos_iff.mpr hz
          omega
        exact ⟨.ref p, h1, .inl ⟨rfl, _, .inl (.inl h5)⟩, p, vs, vs[vs.length - 1], rfl, rfl, h5, List.getElem?_eq_getElem hl, q s σ G _ .rfl' (Ex.refl _) (co.mut ei h1 h6.dropLast)⟩
theorem ss_pop {i : Nat} (hK : X.K = F.K) (ho : PE X o (tVar i)) (hr : PE X (.Call (.Attribute o "pop" apos) [] [] cpos) (tBM0 X.K "list" rPop (tVar i)) := by exact pe_bm0 PySem.F.plainAttrs_list PySem.F.slot_list_pop PySem.F.type_list_pop mt_pop ho)
    (hs : swapsWith (.Call (.Attribute o "pop" apos) [] [] cpos) none pos.line X.env = pure false := by rfl) : SSt F X W z (.Expr (.Call (.Attribute o "pop" apos) [] [] cpos) pos) (popS i) :=
  ⟨ps_imp (ps_expr hr hs) fun D σ H h => by rw [hK]; exact tS_pop h⟩
/-- x[k] = e, x a list of this def's own -/
def setS (i : Nat) (fk f : ES) : SS := fun env c => match env[i]? with
  | some (Sl.ow xs) => exS (fun env => bnd (f env) fun d => bnd (fk env) fun k => ret (d, k)) (fun dk env c => match dk.2 with
    | .int k => match ixN xs.length k with
      | some j => .nx (env.set i (Sl.ow (xs.set j dk.1))) c
      | none => .bad
    | _ => .bad) env c
  | _ => .bad
theorem RepL.set {d : FL.D} {v : V} (r : Rep F s G d v) : ∀ {ds : List FL.D} {vs : List V} (j : Nat), RepL F s G ds vs → RepL F s G (ds.set j d) (vs.set j v)
  | [], _, _, h => by cases (show _ = [] from h); exact rfl
  | _ :: _, _, 0, ⟨u, rr, h1, h2, h3⟩ => by rw [h1]; exact ⟨v, rr, rfl, r, h3⟩
  | _ :: _, _, j + 1, ⟨u, rr, h1, h2, h3⟩ => by rw [h1]; exact ⟨u, rr.set j v, rfl, h2, RepL.set r j h3⟩
theorem tS_set {i : Nat} {fk f : ES} (h : tS F W z (setS i fk f) D σ H) : tAsg (tX F W false f) (gSub (tVar i) (tX F W true fk) rSetL) D σ H := by
  obtain ⟨B, s, env, G, c, co, q⟩ := h
  unfold setS at q
  cases ei : env[i]? with
  | none => rw [ei] at q; exact q.elim
  | some x =>
    rw [ei] at q
    cases x with
    | va d => exact q.elim
    | no => exact q.elim
    | ow xs =>
      have q2 := exS_wp co q fun dk c' hq => hq
      refine ⟨B, s, env, G, c, co, wpR_mono (wpR_bnd q2) (fun d c1 h1 v G1 H1 n1 r1 => ?_) fun _ _ x => x⟩
      have co1 := co.nxt n1
      obtain ⟨p, vs, k1, k5, k6⟩ := ow_at co1 ei
      refine ⟨.ref p, k1, B, s, env, G1, c1, co1, wpR_mono (wpR_bnd h1) (fun k c2 h2 kv G2 H2 n2 r2 => ?_) fun _ _ w => w.nxt n1⟩
      have co2 := co1.nxt n2
      obtain ⟨p', vs', m1, m5, m6⟩ := ow_at co2 ei
      rw [k1] at m1
      have e : V.ref p = V.ref p' := Option.some.inj (Option.some.inj m1)
      injection e with e
      subst e
      cases k with
      | int k =>
        obtain rfl := r2.int
        have h2 : wpS F W z B s G D (match ixN xs.length k with | some j => .nx (env.set i (Sl.ow (xs.set j d))) c2 | none => .bad) := h2
        cases ej : ixN xs.length k with
        | none => rw [ej] at h2; exact h2.elim
        | some j =>
          rw [ej] at h2
          exact ⟨p, vs', k, j, rfl, rfl, m5, by rw [m6.length]; exact ej, h2 s σ G2 _ .rfl' (n1.g.trans n2.g) (co2.mut ei k1 (RepL.set (Rep.mono n2.g (fun _ x => x) _ _ r1.strict) j m6))⟩
      | _ => exact h2.elim
theorem ss_set {i : Nat} {k : Expr} {fk f : ES} (ho : PE X o (tVar i)) (hk : SE F X W true k fk) (h : SE F X W false e f)
    (hg : PG X (.Subscript o k apos) (gSub (tVar i) (tX F W true fk) rSetL) := by exact pg_sub ho hk.pe set_list)
    (hs : swapsWithSole [(.Subscript o k apos)] e pos.line X.env = pure false := by rfl) (hw : swappedStores [(.Subscript o k apos)] e X.env = pure none := by rfl)
    (h1 : (assignEach [(.Subscript o k apos)] X.env).map (·.2) = [assign (.Subscript o k apos) X.env] := by rfl) : SSt F X W z (.Assign [.Subscript o k apos] e pos) (setS i fk f) := ⟨ps_imp (ps_asg h.pe hg hs hw h1) fun D σ H h => tS_set h⟩

/-! ### freezing: what is this def's own is known to all from here on -/
def frzS (i : Nat) (f : SS) : SS := fun env c => match env[i]? with
  | some (Sl.ow xs) => f (env.set i (Sl.va (.lst xs))) c
  | _ => f env c
theorem Co.frz {i : Nat} {xs : List FL.D} (h : Co F B s env σ G H c) (hi : env[i]? = some (Sl.ow xs)) : ∃ G', Ex G G' ∧ Co F B s (env.set i (Sl.va (.lst xs))) σ G' H c := by
  obtain ⟨p, vs, h1, h2, h3, h4, h5, h6⟩ := h.ow i xs hi
  have hlt : i < env.length := (List.getElem?_eq_some_iff.mp hi).1
  have e1 : Ex G (upd G p (.lst vs)) := Ex.new h4
  have ne : ∀ {a : Addr} {o : HO}, G a = some o → a ≠ p := fun q => ne_of_none q h4
  refine ⟨upd G p (.lst vs), e1, ⟨by rw [List.length_set]; exact h.len, ⟨h.bs.g.trans e1, h.bs.h, fun a o q => ?_, fun a q1 q2 => ?_, ⟨fun a q => ?_, fun P hP => ?_⟩, h.bs.ss⟩, fun j d q => ?_, fun j ds q => ?_, fun j k xs' ys' q k1 k2 k3 k4 => ?_⟩⟩
  · by_cases ea : a = p
    · subst ea
      rw [upd_same] at q
      rw [h5]
      exact q
    · rw [upd_ne ea] at q
      exact h.bs.gh a o q
  · have : a ≠ p := fun z => q2 (z ▸ h3)
    rw [upd_ne this]
    exact h.bs.nw a q1 q2
  · obtain ⟨q1, n, q2, q3⟩ := h.bs.vo.sp a q
    have : a ≠ p := fun z => h2 (z ▸ q)
    exact ⟨by rw [upd_ne this]; exact q1, n, q2, q3⟩
  · obtain ⟨q1, ps, q2, q3⟩ := h.bs.vo.tb P hP
    have : P ≠ p := fun z => by rw [z, h5] at q2; cases q2
    exact ⟨by rw [upd_ne this]; exact q1, ps, q2, q3⟩
  · by_cases ej : i = j
    · subst ej
      rw [List.getElem?_set_self hlt] at q
      cases q
      exact ⟨.ref p, h1, p, vs, Eq.refl _, upd_same, RepL.mono e1 (fun _ x => x) _ _ h6⟩
    · rw [List.getElem?_set_ne ej] at q
      obtain ⟨v, q1, q2⟩ := h.va j d q
      exact ⟨v, q1, Rep.mono e1 (fun _ x => x) _ _ q2⟩
  · by_cases ej : i = j
    · subst ej
      rw [List.getElem?_set_self hlt] at q
      cases q
    · rw [List.getElem?_set_ne ej] at q
      obtain ⟨p2, vs2, q1, q2, q3, q4, q5, q6⟩ := h.ow j ds q
      have : p2 ≠ p := fun z => by
        subst z
        exact ej (h.dj i j xs ds p2 hi q h1 q1)
      exact ⟨p2, vs2, q1, q2, q3, by rw [upd_ne this]; exact q4, q5, RepL.mono e1 (fun _ x => x) _ _ q6⟩
  · have ej : i ≠ j := fun z => by
      subst z
      rw [List.getElem?_set_self hlt] at k1
      cases k1
    have ek : i ≠ k := fun z => by
      subst z
      rw [List.getElem?_set_self hlt] at k2
      cases k2
    rw [List.getElem?_set_ne ej] at k1
    rw [List.getElem?_set_ne ek] at k2
    exact h.dj j k xs' ys' q k1 k2 k3 k4
theorem tS_frz {i : Nat} {f : SS} (h : tS F W z (frzS i f) D σ H) : tS F W z f D σ H := by
  obtain ⟨B, s, env, G, c, co, q⟩ := h
  unfold frzS at q
  cases ei : env[i]? with
  | none => rw [ei] at q; exact ⟨B, s, env, G, c, co, q⟩
  | some x =>
    rw [ei] at q
    cases x with
    | va d => exact ⟨B, s, env, G, c, co, q⟩
    | no => exact ⟨B, s, env, G, c, co, q⟩
    | ow xs =>
      obtain ⟨G', g, co'⟩ := co.frz ei
      exact ⟨B, s, _, G', c, co', wpS_later q .rfl' g⟩
theorem ss_frz {st : Stmt} {i : Nat} {f : SS} (h : SSt F X W z st f) : SSt F X W z st (frzS i f) := ⟨ps_imp h.ps fun D σ H h => tS_frz h⟩

/-! ### the counter -/
/-- spot[0] = e -/
def spotS (i : Nat) (f : ES) : SS := fun env c => match env[i]? with
  | some (Sl.va .spt) => exS f (fun d env _ => match d with
    | .int n => .nx env (some n)
    | _ => .bad) env c
  | _ => .bad
theorem tS_spot {i : Nat} {f : ES} (h : tS F W z (spotS i f) D σ H) : tAsg (tX F W false f) (gSub (tVar i) (tC (.int 0)) rSetL) D σ H := by
  obtain ⟨B, s, env, G, c, co, q⟩ := h
  unfold spotS at q
  cases ei : env[i]? with
  | none => rw [ei] at q; exact q.elim
  | some x =>
    rw [ei] at q
    cases x with
    | no => exact q.elim
    | ow xs => exact q.elim
    | va d =>
      cases d with
      | spt =>
        obtain ⟨v0, hv0, a, rfl, ha⟩ := co.va i _ ei
        refine ⟨B, s, env, G, c, co, exS_wp co q fun d c1 h1 v G1 H1 n1 r1 => ?_⟩
        have co1 := co.nxt n1
        cases d with
        | int n =>
          obtain rfl := r1.int
          obtain ⟨q1, m, q2, q3⟩ := n1.vo.sp a ha
          have gne : ∀ {b : Addr} {o : HO}, G1 b = some o → b ≠ a := fun e => ne_of_none e q1
          have st : Nxt F s G1 H1 s G1 (upd H1 a (.lst [.int n])) (some n) := ⟨Ex.refl _, fun b o k1 k2 k3 => by rw [upd_ne (fun z => k1 (by rw [z]; exact ha))]; exact k3, fun b o k => by rw [upd_ne (gne k)]; exact n1.gh b o k, fun b k _ => k,
            ⟨fun b k => by
              have : b = a := by rw [ha] at k; exact (Option.some.inj k).symm
              subst this
              exact ⟨q1, n, rfl, upd_same⟩, fun P hP => by
              obtain ⟨t1, ps, t2, t3⟩ := n1.vo.tb P hP
              have : P ≠ a := fun z => by rw [z, q3] at t2; cases t2
              exact ⟨t1, ps, by rw [upd_ne this]; exact t2, t3⟩⟩, .inl rfl⟩
          exact ⟨.ref a, hv0, a, [.int m], 0, 0, rfl, rfl, q3, rfl, h1 s σ G1 _ .rfl' n1.g (co1.nxt st)⟩
        | _ => exact h1.elim
      | _ => exact q.elim
theorem ss_spot {i : Nat} {j : Nat} {kp : Pos} {f : ES} (ho : PE X o (tVar i)) (h : SE F X W false e f)
    (hg : PG X (.Subscript o (.Constant (.int 0) j kp) apos) (gSub (tVar i) (tC (.int 0)) rSetL) := by exact pg_sub ho pe_int set_list)
    (hs : swapsWithSole [(.Subscript o (.Constant (.int 0) j kp) apos)] e pos.line X.env = pure false := by rfl) (hw : swappedStores [(.Subscript o (.Constant (.int 0) j kp) apos)] e X.env = pure none := by rfl)
    (h1 : (assignEach [(.Subscript o (.Constant (.int 0) j kp) apos)] X.env).map (·.2) = [assign (.Subscript o (.Constant (.int 0) j kp) apos) X.env] := by rfl) : SSt F X W z (.Assign [.Subscript o (.Constant (.int 0) j kp) apos] e pos) (spotS i f) := ⟨ps_imp (ps_asg h.pe hg hs hw h1) fun D σ H h => tS_spot h⟩
/-- spot = [n], the one counter -/
def newSpot (i : Nat) (n : Int) : SS := fun env c => match c with
  | none => if i < env.length then .nx (env.set i (Sl.va .spt)) (some n) else .bad
  | some _ => .bad
theorem tS_newSpot {i : Nat} {n : Int} (h : tS F W true (newSpot i n) D σ H) : tAsg (tLst (tCons (tC (.int n)) tNil)) (gName i) D σ H := by
  obtain ⟨B, s, env, G, c, co, q⟩ := h
  refine ⟨by show 1 ≤ sizeLine; decide, fun p hp => ?_⟩
  unfold newSpot at q
  cases c with
  | some m => exact q.elim
  | none =>
    by_cases hi : i < env.length
    · have q : wpS F W true B s G D (if i < env.length then .nx (env.set i (Sl.va .spt)) (some n) else .bad) := q
      rw [if_pos hi] at q
      have hs : s = none := by
        cases s with
        | none => rfl
        | some a =>
          obtain ⟨_, m, k, _⟩ := co.bs.vo.sp a rfl
          cases k
      subst hs
      have gp : G p = none := by
        cases e : G p with
        | none => rfl
        | some o =>
          have := co.bs.gh p o e
          rw [hp] at this
          cases this
      have st : Nxt F none G H (some p) G (upd H p (.lst [.int n])) (some n) := ⟨Ex.refl _, fun b o _ _ k3 => by rw [upd_ne (ne_of_none k3 hp)]; exact k3, fun b o k => by rw [upd_ne (ne_of_none (co.bs.gh b o k) hp)]; exact co.bs.gh b o k, fun b k _ => k,
        ⟨fun b k => by
          cases k
          exact ⟨gp, n, rfl, upd_same⟩, fun P hP => by
          obtain ⟨t1, ps, t2, t3⟩ := co.bs.vo.tb P hP
          exact ⟨t1, ps, by rw [upd_ne (ne_of_none t2 hp)]; exact t2, t3⟩⟩, .inr ⟨rfl, fun a k => by cases k; exact hp⟩⟩
      have co1 : Co F B (some p) env σ G (upd H p (.lst [.int n])) (some n) := {
        len := co.len
        bs := co.bs.trans st
        va := fun j d e => by
          obtain ⟨v, k1, k2⟩ := co.va j d e
          exact ⟨v, k1, Rep.mono (Ex.refl _) (fun a k => by cases k) _ _ k2⟩
        ow := fun j ds e => by
          obtain ⟨p2, vs, k1, k2, k3, k4, k5, k6⟩ := co.ow j ds e
          have ne : p2 ≠ p := ne_of_none k5 hp
          exact ⟨p2, vs, k1, fun k => ne (Option.some.inj k).symm, k3, k4, by rw [upd_ne ne]; exact k5, RepL.mono (Ex.refl _) (fun a k => by cases k) _ _ k6⟩
        dj := co.dj }
      exact q (some p) _ G _ (.inr ⟨rfl, rfl⟩) (Ex.refl _) (co1.set hi ⟨p, rfl, rfl⟩)
    · have q : wpS F W true B s G D (if i < env.length then .nx (env.set i (Sl.va .spt)) (some n) else .bad) := q
      rw [if_neg hi] at q
      exact q.elim
theorem ss_newSpot {i : Nat} {n : Int} (h : PS X (.Assign [tg] e pos) (tAsg (tLst (tCons (tC (.int n)) tNil)) (gName i))) : SSt F X W true (.Assign [tg] e pos) (newSpot i n) := ⟨ps_imp h fun D σ H h => tS_newSpot h⟩

/-! ### [e for x in xs if t] -/
def wipeE (env : En) : List Nat → En
  | [] => env
  | v :: vs => (wipeE env vs).set v Sl.no
theorem Co.wipe (h : Co F B s env σ G H c) : ∀ vs : List Nat, Co F B s (wipeE env vs) (L2.wipe σ vs) G H c
  | [] => h
  | v :: vs => by
    have k := Co.wipe h vs
    have key : ∀ {j : Nat} {x : Sl}, x ≠ Sl.no → ((wipeE env vs).set v Sl.no)[j]? = some x → v ≠ j ∧ (wipeE env vs)[j]? = some x := fun {j x} hx e => by
      by_cases ej : v = j
      · subst ej
        by_cases hv : v < (wipeE env vs).length
        · rw [List.getElem?_set_self hv] at e
          exact absurd (Option.some.inj e).symm hx
        · rw [List.getElem?_eq_none (by rw [List.length_set]; omega)] at e
          cases e
      · rw [List.getElem?_set_ne ej] at e
        exact ⟨ej, e⟩
    refine ⟨?_, k.bs, fun j d e => ?_, fun j ds e => ?_, fun j l xs ys p e1 e2 e3 e4 => ?_⟩
    · show ((L2.wipe σ vs).set v none).length = ((wipeE env vs).set v Sl.no).length
      rw [List.length_set, List.length_set]
      exact k.len
    · obtain ⟨ej, e⟩ := key (x := Sl.va d) (fun z => nomatch z) e
      obtain ⟨u, k1, k2⟩ := k.va j d e
      exact ⟨u, (List.getElem?_set_ne ej).trans k1, k2⟩
    · obtain ⟨ej, e⟩ := key (x := Sl.ow ds) (fun z => nomatch z) e
      obtain ⟨p, us, k1, k2⟩ := k.ow j ds e
      exact ⟨p, us, (List.getElem?_set_ne ej).trans k1, k2⟩
    · obtain ⟨n1, e1⟩ := key (x := Sl.ow xs) (fun z => nomatch z) e1
      obtain ⟨n2, e2⟩ := key (x := Sl.ow ys) (fun z => nomatch z) e2
      exact k.dj j l xs ys p e1 e2 ((List.getElem?_set_ne n1).symm.trans e3) ((List.getElem?_set_ne n2).symm.trans e4)
theorem wipe_of_agree {σ σ' : L2.St} {vs : List Nat} (hl : σ'.length = σ.length) (h : ∀ (j : Nat), j ∉ vs → σ'[j]? = σ[j]?) : L2.wipe σ' vs = L2.wipe σ vs := by
  have key : ∀ (us : List Nat) (τ τ' : L2.St), τ'.length = τ.length → (∀ (j : Nat), j ∉ us → τ'[j]? = τ[j]?) → ∀ (j : Nat), (L2.wipe τ' us)[j]? = (L2.wipe τ us)[j]? := by
    intro us
    induction us with
    | nil => exact fun τ τ' _ h j => h j (by simp)
    | cons v us ih =>
      intro τ τ' hl h j
      show ((L2.wipe τ' us).set v none)[j]? = ((L2.wipe τ us).set v none)[j]?
      by_cases ej : v = j
      · subst ej
        by_cases hv : v < τ.length
        · rw [List.getElem?_set_self (by rw [L2.wipe_length]; omega), List.getElem?_set_self (by rw [L2.wipe_length]; omega)]
        · rw [List.getElem?_eq_none (by rw [List.length_set, L2.wipe_length]; omega), List.getElem?_eq_none (by rw [List.length_set, L2.wipe_length]; omega)]
      · rw [List.getElem?_set_ne ej, List.getElem?_set_ne ej]
        -- v may be among the places that differ: a list that agrees with τ' there is taken
        have q := ih (τ.set v (τ'[v]?.getD none)) τ' (by rw [List.length_set]; exact hl) (fun i hi => by
          by_cases ei : v = i
          · subst ei
            by_cases hv : v < τ.length
            · rw [List.getElem?_set_self hv, List.getElem?_eq_getElem (by omega)]
              rfl
            · rw [List.getElem?_eq_none (by omega), List.getElem?_eq_none (by rw [List.length_set]; omega)]
          · rw [List.getElem?_set_ne ei]
            exact h i (by simp [hi, Ne.symm ei])) j
        rw [q]
        have cm : ∀ (ws : List Nat) (ρ : L2.St) (y : Option V), ∀ (i : Nat), v ≠ i → (L2.wipe (ρ.set v y) ws)[i]? = (L2.wipe ρ ws)[i]? := by
          intro ws
          induction ws with
          | nil => exact fun ρ y i hi => List.getElem?_set_ne hi
          | cons w ws ih2 =>
            intro ρ y i hi
            show ((L2.wipe (ρ.set v y) ws).set w none)[i]? = ((L2.wipe ρ ws).set w none)[i]?
            by_cases ew : w = i
            · subst ew
              by_cases hw : w < ρ.length
              · rw [List.getElem?_set_self (by rw [L2.wipe_length, List.length_set]; exact hw), List.getElem?_set_self (by rw [L2.wipe_length]; exact hw)]
              · rw [List.getElem?_eq_none (by rw [List.length_set, L2.wipe_length, List.length_set]; omega), List.getElem?_eq_none (by rw [List.length_set, L2.wipe_length]; omega)]
            · rw [List.getElem?_set_ne ew, List.getElem?_set_ne ew]
              exact ih2 ρ y i hi
        exact cm us τ _ j ej
  exact List.ext_getElem? (key vs σ σ' hl h)
/-- what raises is not allowed -/
def noX {α : Type} (m : M α) : M α := fun c => match m c with
  | .ex _ _ => .bad
  | r => r
theorem wpR_noX {α : Type} {m : M α} {c : CT} {Q : α → CT → Prop} {E E' : Exn → CT → Prop} (h : wpR (noX m c) Q E) : wpR (m c) Q E' := by
  unfold noX at h
  cases e : m c with
  | ok a c' => rw [e] at h; exact h
  | ex x c' => rw [e] at h; exact h.elim
  | bad => rw [e] at h; exact h
def compA (t : Tg) (tt : BS) (te : ES) (env : En) : List FL.D → List FL.D → M (List FL.D)
  | [], acc => ret acc
  | d :: r, acc => match t d env with
    | none => bad
    | some e1 => bnd (noX (tt e1)) fun k => match k with
      | true => bnd (noX (te e1)) fun y => if acc.length < sizeLine then compA t tt te env r (acc ++ [y]) else bad
      | false => compA t tt te env r acc
def lcE (it : AS) (vs : List Nat) (t : Tg) (tt : BS) (te : ES) : AS := fun env => bnd (it env) fun ds => compA t tt te (wipeE env vs) ds []
def yesT : BS := fun _ => ret true
abbrev W0 : WX := fun _ _ _ _ => False
theorem tO_lc {it : AS} {vs ts : List Nat} {t : Tg} {tt : BS} {te : ES} {Q : VK} (hts : ∀ j ∈ ts, j ∈ vs) (h : tO F W (lcE it vs t tt te) σ H Q) : tLc (tI F W it) (tG F ts t) (tT F W0 tt) (tX F W0 false te) vs σ H Q := by
  obtain ⟨B, s, env, G, c, co, q⟩ := h
  refine ⟨B, s, env, G, c, co, wpR_mono (wpR_bnd q) (fun ds c1 h1 J ok G1 H1 n1 hit hok p hp => ?_) fun _ _ x => x⟩
  have g1p : G1 p = none := by
    cases e : G1 p with
    | none => rfl
    | some o =>
      have := n1.gh p o e
      rw [hp] at this
      cases this
  have sp : s ≠ some p := fun z => by
    obtain ⟨_, m, _, k⟩ := n1.vo.sp p z
    rw [hp] at k
    cases k
  refine ⟨fun i m H2 => i ≤ ds.length ∧ m = ds.length - i ∧ ∃ G2 c2 acc us, Nxt F s G H s G2 H2 c2 ∧ Ex G1 G2 ∧ ok s G2 ∧ G2 p = none ∧ H2 p = some (.lst us) ∧ RepL F s G2 acc us ∧
    wpR (compA t tt te (wipeE env vs) (ds.drop i) acc c2) (fun ds c' => ∀ p vs G' H', Nxt F s G H s G' H' c' → s ≠ some p → H p = none → G' p = none → H' p = some (.lst vs) → RepL F s G' ds vs → Q (.ref p) H') (xW F W s σ G H),
    ⟨ds.length, Nat.zero_le _, rfl, G1, c1, [], [], n1.newO hp, Ex.refl _, hok, g1p, upd_same, rfl, by rw [List.drop_zero]; exact h1⟩, fun i m H2 ⟨hi, hm, G2, c2, acc, us, n2, g2, ok2, p2, p3, r2, w2⟩ => ?_⟩
  have co2 : Co F B s env σ G2 H2 c2 := co.nxt n2
  by_cases hlt : i < ds.length
  · rw [List.drop_eq_getElem_cons hlt] at w2
    have hd : ds[i]? = some ds[i] := List.getElem?_eq_getElem hlt
    refine .inr ⟨hit.go i s G2 H2 c2 ok2 n2.gh n2.vo hlt, fun H' => i + 1 ≤ ds.length ∧ ∃ G2 c2 acc us, Nxt F s G H s G2 H' c2 ∧ Ex G1 G2 ∧ ok s G2 ∧ G2 p = none ∧ H' p = some (.lst us) ∧ RepL F s G2 acc us ∧
      wpR (compA t tt te (wipeE env vs) (ds.drop (i + 1)) acc c2) (fun ds c' => ∀ p vs G' H', Nxt F s G H s G' H' c' → s ≠ some p → H p = none → G' p = none → H' p = some (.lst vs) → RepL F s G' ds vs → Q (.ref p) H') (xW F W s σ G H),
      fun H' w => ⟨m - 1, by omega, w.1, by omega, w.2⟩, fun x H3 y => ?_⟩
    obtain ⟨G3, n3, r3⟩ := hit.yld i s G2 H2 c2 x H3 _ ok2 n2.gh n2.vo y hd
    unfold compA at w2
    cases et : t ds[i] (wipeE env vs) with
    | none => simp only [et] at w2; exact w2.elim
    | some e1 =>
      simp only [et] at w2
      have hp2 : H2 p ≠ none := by rw [p3]; exact fun z => nomatch z
      have keep : ∀ {Gx Hx : Hp} {cx : CT}, Nxt F s G2 H2 s Gx Hx cx → Gx p = none ∧ Hx p = some (.lst us) ∧ RepL F s Gx acc us := fun n => ⟨n.nw p p2 hp2, n.h p _ sp (not_tab n2.vo p3) p3, RepL.mono n.g (fun _ x => x) _ _ r2⟩
      refine ⟨B, s, wipeE env vs, G3, c2, ds[i], e1, (co2.nxt n3).wipe vs, r3, et, fun σ3 co3 hl3 ha3 => ⟨?_, ?_⟩⟩
      · have e := wipe_of_agree (vs := vs) hl3 fun j hj => ha3 j fun z => hj (hts j z)
        rw [e]
        refine wipe_of_agree (L2.wipe_length σ vs) fun j hj => ?_
        have key : ∀ us : List Nat, j ∉ us → (L2.wipe σ us)[j]? = σ[j]? := by
          intro us
          induction us with
          | nil => exact fun _ => rfl
          | cons u us ih =>
            intro hu
            show ((L2.wipe σ us).set u none)[j]? = σ[j]?
            rw [List.getElem?_set_ne (fun z => hu (by simp [z]))]
            exact ih fun z => hu (List.mem_cons_of_mem _ z)
        exact key vs hj
      · refine ⟨B, s, e1, G3, c2, co3, wpR_noX (wpR_mono (wpR_bnd w2) (fun k c4 h4 G4 H4 n4 => ?_) fun _ _ x => x)⟩
        have n24 := n3.trans n4
        obtain ⟨a1, a2, a3⟩ := keep n24
        cases k with
        | true =>
          refine iteT ⟨B, s, e1, G4, c4, co3.nxt n4, wpR_noX (wpR_mono (wpR_bnd h4) (fun d c5 h5 v G5 H5 n5 r5 => ?_) fun _ _ x => x)⟩
          have n25 := n24.trans n5
          obtain ⟨b1, b2, b3⟩ := keep n25
          by_cases hz : acc.length < sizeLine
          · rw [if_pos hz] at h5
            have nw : Nxt F s G H s G5 (upd H5 p (.lst (us ++ [v]))) c5 := by
              have N := n2.trans n25
              have hpn : H p = none := n1.back hp
              refine ⟨N.g, fun a o q1 q2 q3 => ?_, fun a o q => ?_, N.nw, ⟨fun a q => ?_, fun P hP => ?_⟩, N.ss⟩
              · rw [upd_ne (ne_of_none q3 hpn)]
                exact N.h a o q1 q2 q3
              · rw [upd_ne (ne_of_none q b1)]
                exact N.gh a o q
              · obtain ⟨t1, m', t2, t3⟩ := N.vo.sp a q
                exact ⟨t1, m', t2, by rw [upd_ne (fun z => sp (by rw [← z]; exact q))]; exact t3⟩
              · obtain ⟨t1, ps, t2, t3⟩ := N.vo.tb P hP
                exact ⟨t1, ps, by rw [upd_ne (show P ≠ p from fun z => by rw [z, b2] at t2; cases t2)]; exact t2, t3⟩
            exact ⟨us, b2, by rw [b3.length]; exact hz, hlt, G5, c5, acc ++ [d], us ++ [v], nw, g2.trans n25.g, hit.mono _ _ _ _ ok2 (fun _ x => x) n25.g, b1, upd_same, b3.append ⟨v, [], rfl, r5.strict, rfl⟩, h5⟩
          · rw [if_neg hz] at h5
            exact h5.elim
        | false => exact iteF ⟨hlt, G4, c4, acc, us, n2.trans n24, g2.trans n24.g, hit.mono _ _ _ _ ok2 (fun _ x => x) n24.g, a1, a2, a3, h4⟩
  · have e : i = ds.length := by omega
    subst e
    refine .inl ⟨hit.stop s G2 H2 c2 ok2 n2.gh n2.vo, ?_⟩
    rw [List.drop_length] at w2
    exact w2 p us G2 H2 n2 sp (n1.back hp) p2 p3 r2
end
end FL

set_option Elab.async false
set_option linter.all false
set_option maxRecDepth 100000
set_option maxHeartbeats 1000000
/-! F5: list comprehensions as rules; the operations. -/
namespace FL
open PySem L2 PyProof.Rows
open Evl (Ex)
section
variable {F : FX} {X : Cx} {W : WX} {z b : Bool}
structure STs (F : FX) (X : Cx) (ifs : List Expr) (f : BS) : Prop where
  pts : PTs X ifs (tT F W0 f)
theorem pts_imp {ifs : List Expr} {t t' : TT} (h : PTs X ifs t) (i : ∀ σ H Q, t' σ H Q → t σ H Q) : PTs X ifs t' := ⟨fun pins s σ H Q I q => h.run pins s σ H Q I (i σ H Q q)⟩
theorem sts_nil : STs F X [] yesT := ⟨pts_imp pts_nil fun σ H Q h => tT_ret h⟩
theorem sts_one {e : Expr} {f : BS} (h : ST F X W0 e f) : STs F X [e] f := ⟨pts_one h.pt⟩
variable {elt tg iter : Expr} {ifs : List Expr} {scope : Scope} {own : List (Str × Nat)} {pos spos : Pos} {it : AS} {ts : List Nat} {t : Tg} {tt : BS} {te : ES}
theorem so_lc (hc : X.calm = true) (hN : X.N.Nodup) (hi : SI F X W tg iter it) (ok : BlkOk X.N X.env.scope scope own) (hts : ∀ j ∈ ts, j ∈ own.map (·.2))
    (hg : ∀ (s : Shared) (H : Hp) (C : Addr) (cl : List (Str × Addr)) (fp : List Addr), STg F (X.blk s H scope (compEnvC scope cl C X.env) fp) tg ts t) (ht : ∀ (s : Shared) (H : Hp) (C : Addr) (cl : List (Str × Addr)) (fp : List Addr), STs F (X.blk s H scope (compEnvC scope cl C X.env) fp) ifs tt)
    (he : ∀ (s : Shared) (H : Hp) (C : Addr) (cl : List (Str × Addr)) (fp : List Addr), SE F (X.blk s H scope (compEnvC scope cl C X.env) fp) W0 false elt te) (hs : ∀ x, foldedSetIterable iter X.env x = pure x := by intro _; rfl) :
    SO F X W (.ListComp elt [⟨tg, iter, ifs, 0⟩] scope pos) (lcE it (own.map (·.2)) t tt te) :=
  ⟨pe_imp (pe_lc hc hN hi.pi ok (fun s H C cl fp => (hg s H C cl fp).pg) (fun s H C cl fp => (ht s H C cl fp).pts) (fun s H C cl fp => (he s H C cl fp).pe) hs) fun σ H Q h => tO_lc hts h⟩
/-- y = [..] on one line -/
theorem ps_lc {i : Nat} {y : Str} {py : Pos} (hc : X.calm = true) (hN : X.N.Nodup) (hy : X.N[i]? = some y) (hyl : X.env.scope.names.lookup y = some .local)
    (hsw : swapsWith (.ListComp elt [⟨tg, iter, ifs, 0⟩] scope pos) (some (.Name y py)) spos.line X.env = pure true) (hi : SI F X W tg iter it) (ok : BlkOk X.N X.env.scope scope own) (hts : ∀ j ∈ ts, j ∈ own.map (·.2))
    (hg : ∀ (s : Shared) (H : Hp) (C : Addr) (cl : List (Str × Addr)) (fp : List Addr), STg F (X.blk s H scope (compEnvC scope cl C X.env) fp) tg ts t) (ht : ∀ (s : Shared) (H : Hp) (C : Addr) (cl : List (Str × Addr)) (fp : List Addr), STs F (X.blk s H scope (compEnvC scope cl C X.env) fp) ifs tt)
    (he : ∀ (s : Shared) (H : Hp) (C : Addr) (cl : List (Str × Addr)) (fp : List Addr), SE F (X.blk s H scope (compEnvC scope cl C X.env) fp) W0 false elt te) (hs : ∀ x, foldedSetIterable iter X.env x = pure x := by intro _; rfl) :
    PS X (.Assign [.Name y py] (.ListComp elt [⟨tg, iter, ifs, 0⟩] scope pos) spos) (tAsg (tO F W (lcE it (own.map (·.2)) t tt te)) (gName i)) :=
  ps_imp (ps_setLc hc hN hy hyl hsw hi.pi ok (fun s H C cl fp => (hg s H C cl fp).pg) (fun s H C cl fp => (ht s H C cl fp).pts) (fun s H C cl fp => (he s H C cl fp).pe) hs) fun D σ H h => tO_lc hts h
theorem ss_asgP {i : Nat} {st : Stmt} {f : AS} (h : PS X st (tAsg (tO F W f) (gName i))) : SSt F X W z st (asgO i f) := ⟨ps_imp h fun D σ H h => tS_asgO h⟩
theorem tX_own {f : AS} {σ : L2.St} {H : Hp} {Q : VK} (h : tX F W b (lstE f) σ H Q) : tO F W f σ H Q := by
  obtain ⟨B, s, env, G, c, co, q⟩ := h
  refine ⟨B, s, env, G, c, co, wpR_mono (wpR_bnd q) (fun ds c' hq p vs G' H' n hs hp hg hh hr => hq (.ref p) _ H' (nxt_frz n hs hp hg hh) (.inl ⟨p, vs, rfl, upd_same, RepL.mono (Ex.new hg) (fun _ x => x) _ _ hr⟩)) fun _ _ x => x⟩
theorem ss_asgV {i : Nat} {st : Stmt} {f : AS} (h : PS X st (tAsg (tO F W f) (gName i))) : SSt F X W z st (asgS i (lstE f)) := ⟨ps_imp h fun D σ H h => tX_own (tS_asg h)⟩

/-! ### operations -/
theorem opr_or {f : Value → Value → Sem Value} {r r' : R2} (h : OpR X f r) (h' : OpR X f r') : OpR X f (fun x y H Q => r x y H Q ∨ r' x y H Q) := fun pins s σ H x y v u Q I rx ry q => q.elim (h pins s σ H x y v u Q I rx ry) (h' pins s σ H x y v u Q I rx ry)
theorem car_or {f : Value} {r r' : List V → Hp → VK → Prop} (h : CallR X f r) (h' : CallR X f r') : CallR X f (fun xs H Q => r xs H Q ∨ r' xs H Q) := fun pins s σ H xs us Q I r q => q.elim (h pins s σ H xs us Q I r) (h' pins s σ H xs us Q I r)
theorem slr_or {r r' : V → Option Int → Option Int → Hp → VK → Prop} (h : SlR X r) (h' : SlR X r') : SlR X (fun x lo hi H Q => r x lo hi H Q ∨ r' x lo hi H Q) := h.or h'

def addD (_ : CT) : D → D → Option D
  | .int i, .int j => some (.int (i + j))
  | .str x, .str y => if x.length + y.length ≤ sizeLine then some (.str (x ++ y)) else none
  | .tup xs, .tup ys => if xs.length + ys.length ≤ sizeLine then some (.tup (xs ++ ys)) else none
  | .lst xs, .lst ys => if xs.length + ys.length ≤ sizeLine then some (.lst (xs ++ ys)) else none
  | _, _ => none
def rAddG (K : PySem.W.Frag) : R2 := fun x y H Q => rI0 (fun i j => .int (i + j)) x y H Q ∨ (∃ i j, x = .str i ∧ y = .str j ∧ i.length + j.length ≤ sizeLine ∧ Q (.str (i ++ j)) H) ∨ rCatA K x y H Q ∨ rCat x y H Q
theorem op_addG : OpR X (binaryOp .Add) (rAddG X.K) := opr_or op_add (opr_or op_add_str (opr_or op_catA op_cat))
theorem od_add : OpD F (rAddG F.K) addD := ⟨fun s G H c d1 d2 v1 v2 res Q e vo r1 r2 eo w => by
  cases d1 with
  | int i =>
    cases d2 with
    | int j =>
      cases eo
      exact .inl ⟨i, j, r1.int, r2.int, w.now e vo rfl⟩
    | _ => cases eo
  | str x =>
    cases d2 with
    | str y =>
      have eo : (if x.length + y.length ≤ sizeLine then some (D.str (x ++ y)) else none) = some res := eo
      by_cases h : x.length + y.length ≤ sizeLine
      · rw [if_pos h] at eo
        cases eo
        exact .inr (.inl ⟨x, y, r1.str, r2.str, h, w.now e vo rfl⟩)
      · rw [if_neg h] at eo
        cases eo
    | _ => cases eo
  | tup xs =>
    cases d2 with
    | tup ys =>
      have eo : (if xs.length + ys.length ≤ sizeLine then some (D.tup (xs ++ ys)) else none) = some res := eo
      by_cases h : xs.length + ys.length ≤ sizeLine
      · rw [if_pos h] at eo
        cases eo
        obtain ⟨a, vs, rfl, h2, h3⟩ := r1.tup e
        obtain ⟨a', us, rfl, k2, k3⟩ := r2.tup e
        have l1 := h3.length
        have l2 := k3.length
        have ap := h3.append k3
        refine .inr (.inr (.inl ⟨a, a', vs, us, rfl, rfl, h2, k2, by omega, fun z => ?_, fun z1 z2 => ?_, fun _ _ => w.tup e vo ap⟩))
        · subst z
          have : xs = [] := List.eq_nil_of_length_eq_zero (by simpa using l1.symm)
          subst this
          rcases r2 with r2 | ⟨_, p, vs, ds, q, _⟩
          · exact w.now e vo r2
          · cases q
        · subst z2
          have : ys = [] := List.eq_nil_of_length_eq_zero (by simpa using l2.symm)
          subst this
          rw [List.append_nil] at w
          rcases r1 with r1 | ⟨_, p, vs, ds, q, _⟩
          · exact w.now e vo r1
          · cases q
      · rw [if_neg h] at eo
        cases eo
    | _ => cases eo
  | lst xs =>
    cases d2 with
    | lst ys =>
      have eo : (if xs.length + ys.length ≤ sizeLine then some (D.lst (xs ++ ys)) else none) = some res := eo
      by_cases h : xs.length + ys.length ≤ sizeLine
      · rw [if_pos h] at eo
        cases eo
        obtain ⟨a, vs, rfl, h2, h3⟩ := r1.list e
        obtain ⟨a', us, rfl, k2, k3⟩ := r2.list e
        have l1 := h3.length
        have l2 := k3.length
        exact .inr (.inr (.inr ⟨a, a', vs, us, rfl, rfl, h2, k2, by omega, w.lst e vo (h3.append k3)⟩))
      · rw [if_neg h] at eo
        cases eo
    | _ => cases eo
  | _ => cases eo⟩
/-- two ints -/
def iiD (C : Int → Int → Bool) (g : Int → Int → D) : CT → D → D → Option D := fun _ x y => match x, y with
  | .int i, .int j => if C i j = true then some (g i j) else none
  | _, _ => none
theorem od_ii {C : Int → Int → Bool} {C' : Int → Int → Prop} {g : Int → Int → D} {g' : Int → Int → V} (hC : ∀ i j, C i j = true → C' i j) (hg : ∀ s G i j, Rep F s G (g i j) (g' i j)) : OpD F (rI C' g') (iiD C g) := ⟨fun s G H c d1 d2 v1 v2 res Q e vo r1 r2 eo w => by
  unfold iiD at eo
  cases d1 with
  | int i =>
    cases d2 with
    | int j =>
      have eo : (if C i j = true then some (g i j) else none) = some res := eo
      by_cases h : C i j = true
      · rw [if_pos h] at eo
        cases eo
        exact ⟨i, j, r1.int, r2.int, hC i j h, w.now e vo (hg s G i j)⟩
      · rw [if_neg h] at eo
        cases eo
    | _ => cases eo
  | _ => cases eo⟩
def ii0 (g : Int → Int → D) : CT → D → D → Option D := fun _ x y => match x, y with
  | .int i, .int j => some (g i j)
  | _, _ => none
theorem od_ii0 {g : Int → Int → D} {g' : Int → Int → V} (hg : ∀ s G i j, Rep F s G (g i j) (g' i j)) : OpD F (rI0 g') (ii0 g) := ⟨fun s G H c d1 d2 v1 v2 res Q e vo r1 r2 eo w => by
  unfold ii0 at eo
  cases d1 with
  | int i =>
    cases d2 with
    | int j =>
      cases eo
      exact ⟨i, j, r1.int, r2.int, w.now e vo (hg s G i j)⟩
    | _ => cases eo
  | _ => cases eo⟩
def subD := ii0 fun i j => D.int (i - j)
theorem od_sub : OpD F (rI0 fun i j => .int (i - j)) subD := od_ii0 fun _ _ _ _ => rfl
def mulD := iiD (fun i j => decide ((-(2 ^ 64) < i ∧ i < 2 ^ 64) ∨ (-(2 ^ 64) < j ∧ j < 2 ^ 64))) fun i j => D.int (i * j)
theorem od_mul : OpD F (rI CMul fun i j => .int (i * j)) mulD := od_ii (fun i j h => (decide_eq_true_iff.mp h : (-(2 ^ 64) < i ∧ i < 2 ^ 64) ∨ (-(2 ^ 64) < j ∧ j < 2 ^ 64))) fun _ _ _ _ => rfl
def fdivD := iiD (fun _ j => decide (0 < j ∧ j < 1073741824)) fun i j => D.int (i / j)
theorem od_fdiv : OpD F (rI CDiv fun i j => .int (i / j)) fdivD := od_ii (fun i j h => (decide_eq_true_iff.mp h : 0 < j ∧ j < 1073741824)) fun _ _ _ _ => rfl
def modD := iiD (fun _ j => decide (0 < j)) fun i j => D.int (i % j)
theorem od_mod : OpD F (rI (fun _ j => 0 < j) fun i j => .int (i % j)) modD := od_ii (fun i j h => of_decide_eq_true h) fun _ _ _ _ => rfl
def powD := iiD (fun i j => decide (0 ≤ j ∧ j ≤ 1000000 ∧ i.natAbs < 2 ^ 64)) fun i j => D.int (i ^ j.toNat)
theorem od_pow : OpD F (rI CPow fun i j => .int (i ^ j.toNat)) powD := od_ii (fun i j h => (decide_eq_true_iff.mp h : 0 ≤ j ∧ j ≤ 1000000 ∧ i.natAbs < 2 ^ 64)) fun _ _ _ _ => rfl
/-- <, <=, >, >= of ints, of texts -/
def ordD (g : Int → Int → Bool) (h : List Nat → List Nat → Bool) : CT → D → D → Option D := fun _ x y => match x, y with
  | .int i, .int j => some (.bl (g i j))
  | .str i, .str j => some (.bl (h i.cps.toList j.cps.toList))
  | _, _ => none
def rOrd (g : Int → Int → Bool) (h : List Nat → List Nat → Bool) : R2 := fun x y H Q => rI0 (fun i j => .bl (g i j)) x y H Q ∨ ∃ i j, x = .str i ∧ y = .str j ∧ Q (.bl (h i.cps.toList j.cps.toList)) H
theorem od_ord {g : Int → Int → Bool} {h : List Nat → List Nat → Bool} : OpD F (rOrd g h) (ordD g h) := ⟨fun s G H c d1 d2 v1 v2 res Q e vo r1 r2 eo w => by
  unfold ordD at eo
  cases d1 with
  | int i =>
    cases d2 with
    | int j =>
      cases eo
      exact .inl ⟨i, j, r1.int, r2.int, w.now e vo rfl⟩
    | _ => cases eo
  | str i =>
    cases d2 with
    | str j =>
      cases eo
      exact .inr ⟨i, j, r1.str, r2.str, w.now e vo rfl⟩
    | _ => cases eo
  | _ => cases eo⟩
def ltD := ordD (fun i j => decide (i < j)) fun a b => decide (a < b)
def leD := ordD (fun i j => decide (i ≤ j)) fun a b => !decide (b < a)
def gtD := ordD (fun i j => decide (j < i)) fun a b => decide (b < a)
def geD := ordD (fun i j => decide (j ≤ i)) fun a b => !decide (a < b)
theorem op_ltG : OpR X (compareOp .Lt) (rOrd (fun i j => decide (i < j)) fun a b => decide (a < b)) := opr_or op_lt op_lt_str
theorem op_leG : OpR X (compareOp .LtE) (rOrd (fun i j => decide (i ≤ j)) fun a b => !decide (b < a)) := opr_or op_le op_le_str
theorem op_gtG : OpR X (compareOp .Gt) (rOrd (fun i j => decide (j < i)) fun a b => decide (b < a)) := opr_or op_gt op_gt_str
theorem op_geG : OpR X (compareOp .GtE) (rOrd (fun i j => decide (j ≤ i)) fun a b => !decide (a < b)) := opr_or op_ge op_ge_str
/-- == -/
def eqS : D → D → Option Bool
  | .int i, .int j => some (decide (i = j))
  | .str i, .str j => some (decide (i = j))
  | .bl i, .bl j => some (i == j)
  | .non, .non => some true
  | .non, .int _ => some false
  | .int _, .non => some false
  | .non, .str _ => some false
  | .str _, .non => some false
  | .non, .bl _ => some false
  | .bl _, .non => some false
  | .int _, .str _ => some false
  | .str _, .int _ => some false
  | .bl _, .str _ => some false
  | .str _, .bl _ => some false
  | _, _ => none
theorem eqS_scal {d1 d2 : D} {k : Bool} (e : eqS d1 d2 = some k) : ∃ x y : V, (∀ b F s G H v, RepB b F s G H d1 v → v = x) ∧ (∀ b F s G H v, RepB b F s G H d2 v → v = y) ∧ scal x y = true ∧ decide (x = y) = k := by
  cases d1 <;> cases d2 <;> first
    | exact ⟨.non, .non, fun _ _ _ _ _ _ r => r.non, fun _ _ _ _ _ _ r => r.non, rfl, by cases e; rfl⟩
    | (cases e; done)
    | exact ⟨.int _, .int _, fun _ _ _ _ _ _ r => r.int, fun _ _ _ _ _ _ r => r.int, rfl, by cases e; simp⟩
    | exact ⟨.str _, .str _, fun _ _ _ _ _ _ r => r.str, fun _ _ _ _ _ _ r => r.str, rfl, by cases e; simp⟩
    | exact ⟨.bl _, .bl _, fun _ _ _ _ _ _ r => r.bl, fun _ _ _ _ _ _ r => r.bl, rfl, by cases e; exact dec_bl⟩
    | exact ⟨.non, .int _, fun _ _ _ _ _ _ r => r.non, fun _ _ _ _ _ _ r => r.int, rfl, by cases e; simp⟩
    | exact ⟨.int _, .non, fun _ _ _ _ _ _ r => r.int, fun _ _ _ _ _ _ r => r.non, rfl, by cases e; simp⟩
    | exact ⟨.non, .str _, fun _ _ _ _ _ _ r => r.non, fun _ _ _ _ _ _ r => r.str, rfl, by cases e; simp⟩
    | exact ⟨.str _, .non, fun _ _ _ _ _ _ r => r.str, fun _ _ _ _ _ _ r => r.non, rfl, by cases e; simp⟩
    | exact ⟨.non, .bl _, fun _ _ _ _ _ _ r => r.non, fun _ _ _ _ _ _ r => r.bl, rfl, by cases e; simp⟩
    | exact ⟨.bl _, .non, fun _ _ _ _ _ _ r => r.bl, fun _ _ _ _ _ _ r => r.non, rfl, by cases e; simp⟩
    | exact ⟨.int _, .str _, fun _ _ _ _ _ _ r => r.int, fun _ _ _ _ _ _ r => r.str, rfl, by cases e; simp⟩
    | exact ⟨.str _, .int _, fun _ _ _ _ _ _ r => r.str, fun _ _ _ _ _ _ r => r.int, rfl, by cases e; simp⟩
    | exact ⟨.bl _, .str _, fun _ _ _ _ _ _ r => r.bl, fun _ _ _ _ _ _ r => r.str, rfl, by cases e; simp⟩
    | exact ⟨.str _, .bl _, fun _ _ _ _ _ _ r => r.str, fun _ _ _ _ _ _ r => r.bl, rfl, by cases e; simp⟩
mutual
def toP : D → Option PyData
  | .non => some .none
  | .bl b => some (.bool b)
  | .int i => some (.int i)
  | .str x => some (.str x)
  | .tup ds => (toPs ds).map .tuple
  | .lst ds => (toPs ds).map .list
  | _ => none
def toPs : List D → Option (List PyData)
  | [] => some []
  | d :: ds => match toP d with
    | none => none
    | some p => (toPs ds).map (p :: ·)
end
mutual
theorem rep_dp {s : Option Addr} {G H : Hp} (e : Ex G H) : ∀ (d : D) (v : V) (p : PyData), Rep F s G d v → toP d = some p → Dp F.K H v p
  | .non, _, _, r, h => by cases (show _ = V.non from r); cases h; exact .non
  | .bl b, _, _, r, h => by cases (show _ = V.bl b from r); cases h; exact .bl b
  | .int b, _, _, r, h => by cases (show _ = V.int b from r); cases h; exact .int b
  | .str b, _, _, r, h => by cases (show _ = V.str b from r); cases h; exact .str b
  | .tup ds, _, p, ⟨a, vs, h1, h2, h3⟩, h => by
    have h : (toPs ds).map .tuple = some p := h
    cases e2 : toPs ds with
    | none => rw [e2] at h; cases h
    | some ps =>
      rw [e2] at h
      cases h
      rw [h1]
      exact .tup (Evl.ex_t e h2.sq) (rep_dps e ds vs ps h3 e2)
  | .lst ds, _, p, ⟨a, vs, h1, h2, h3⟩, h => by
    have h : (toPs ds).map .list = some p := h
    cases e2 : toPs ds with
    | none => rw [e2] at h; cases h
    | some ps =>
      rw [e2] at h
      cases h
      rw [h1]
      exact .lst (.inl (.inl (e a _ h2))) (rep_dps e ds vs ps h3 e2)
  | .spt, _, _, _, h => by cases h
  | .scr _, _, _, _, h => by cases h
  | .ty _, _, _, _, h => by cases h
  | .exn _ _ _ _ _, _, _, _, h => by cases h
  | .set _, _, _, _, h => by cases h
  | .dct _ _, _, _, _, h => by cases h
theorem rep_dps {s : Option Addr} {G H : Hp} (e : Ex G H) : ∀ (ds : List D) (vs : List V) (ps : List PyData), RepL F s G ds vs → toPs ds = some ps → DpAll F.K H vs ps
  | [], _, _, r, h => by cases (show _ = [] from r); cases h; exact .nil
  | d :: ds, _, ps, ⟨v, r, h1, h2, h3⟩, h => by
    have h : (match toP d with | none => none | some p => (toPs ds).map (p :: ·)) = some ps := h
    cases e1 : toP d with
    | none => rw [e1] at h; cases h
    | some p =>
      rw [e1] at h
      cases e2 : toPs ds with
      | none => simp [e2] at h
      | some qs =>
        simp [e2] at h
        subst h
        rw [h1]
        exact .cons (rep_dp e d v p h2 e1) (rep_dps e ds r qs h3 e2)
end
theorem repB_dp {s : Option Addr} {G H : Hp} {d : D} {v : V} {p : PyData} (e : Ex G H) (r : RepB b F s G H d v) (h : toP d = some p) : Dp F.K H v p := by
  rcases r with r | ⟨_, a, vs, ds, h1, h2, h3, h4, h5, h6⟩
  · exact rep_dp e d v p r h
  · subst h1 h2
    have h : (toPs ds).map .list = some p := h
    cases e2 : toPs ds with
    | none => rw [e2] at h; cases h
    | some ps =>
      rw [e2] at h
      cases h
      exact .lst (.inl (.inl h5)) (rep_dps e ds vs ps h6 e2)
def eqP (d1 d2 : D) : Option Bool := match toP d1, toP d2 with
  | some p, some q => if SeqAt.shaped p = true ∧ SeqAt.shaped q = true then some (PyData.eqv p q) else none
  | _, _ => none
def eqX (d1 d2 : D) : Option Bool := match eqS d1 d2 with
  | some k => some k
  | none => eqP d1 d2
def eqD (_ : CT) (d1 d2 : D) : Option D := (eqX d1 d2).map .bl
def neD (_ : CT) (d1 d2 : D) : Option D := (eqX d1 d2).map fun k => .bl (!k)
def rEqG (K : PySem.W.Frag) : R2 := fun x y H Q => rEq x y H Q ∨ rEqD K x y H Q
def rNeG (K : PySem.W.Frag) : R2 := fun x y H Q => rNe x y H Q ∨ rNeD K x y H Q
theorem op_eqG (hu : X.A.units + 64 < cLine) : OpR X (compareOp .Eq) (rEqG X.K) := opr_or op_eq (op_eqD hu)
theorem op_neG (hu : X.A.units + 64 < cLine) : OpR X (compareOp .NotEq) (rNeG X.K) := opr_or op_ne (op_neD hu)
theorem eqX_cases {s : Option Addr} {G H : Hp} {d1 d2 : D} {v1 v2 : V} {k : Bool} (e : Ex G H) (r1 : RepB true F s G H d1 v1) (r2 : RepB true F s G H d2 v2) (h : eqX d1 d2 = some k) :
    (scal v1 v2 = true ∧ decide (v1 = v2) = k) ∨ ∃ p q, Dp F.K H v1 p ∧ Dp F.K H v2 q ∧ SeqAt.shaped p = true ∧ SeqAt.shaped q = true ∧ PyData.eqv p q = k := by
  unfold eqX at h
  cases e1 : eqS d1 d2 with
  | some k' =>
    rw [e1] at h
    cases h
    obtain ⟨x, y, hx, hy, h1, h2⟩ := eqS_scal e1
    rw [hx _ _ _ _ _ _ r1, hy _ _ _ _ _ _ r2]
    exact .inl ⟨h1, h2⟩
  | none =>
    rw [e1] at h
    have h : eqP d1 d2 = some k := h
    unfold eqP at h
    cases ep : toP d1 with
    | none => rw [ep] at h; cases h
    | some p =>
      cases eq : toP d2 with
      | none => rw [ep, eq] at h; cases h
      | some q =>
        rw [ep, eq] at h
        have h : (if SeqAt.shaped p = true ∧ SeqAt.shaped q = true then some (PyData.eqv p q) else none) = some k := h
        by_cases hs : SeqAt.shaped p = true ∧ SeqAt.shaped q = true
        · rw [if_pos hs] at h
          cases h
          exact .inr ⟨p, q, repB_dp e r1 ep, repB_dp e r2 eq, hs.1, hs.2, rfl⟩
        · rw [if_neg hs] at h
          cases h
theorem od_eq : OpD F (rEqG F.K) eqD := ⟨fun s G H c d1 d2 v1 v2 res Q e vo r1 r2 eo w => by
  unfold eqD at eo
  cases ek : eqX d1 d2 with
  | none => rw [ek] at eo; cases eo
  | some k =>
    rw [ek] at eo
    cases eo
    have q : Q (.bl k) H := w.now e vo rfl
    rcases eqX_cases e r1 r2 ek with ⟨h1, h2⟩ | ⟨p, q', h1, h2, h3, h4, h5⟩
    · exact .inl ⟨h1, by rw [h2]; exact q⟩
    · exact .inr ⟨p, q', h1, h2, h3, h4, by rw [h5]; exact q⟩⟩
theorem od_ne : OpD F (rNeG F.K) neD := ⟨fun s G H c d1 d2 v1 v2 res Q e vo r1 r2 eo w => by
  unfold neD at eo
  cases ek : eqX d1 d2 with
  | none => rw [ek] at eo; cases eo
  | some k =>
    rw [ek] at eo
    cases eo
    have q : Q (.bl (!k)) H := w.now e vo rfl
    rcases eqX_cases e r1 r2 ek with ⟨h1, h2⟩ | ⟨p, q', h1, h2, h3, h4, h5⟩
    · exact .inl ⟨h1, by rw [h2]; exact q⟩
    · exact .inr ⟨p, q', h1, h2, h3, h4, by rw [h5]; exact q⟩⟩
/-- is None -/
def isN : D → Bool
  | .non => true
  | _ => false
def isND (_ : CT) (d1 d2 : D) : Option D := match d2 with
  | .non => match d1 with
    | .exn _ _ _ _ _ => none
    | _ => some (.bl (isN d1))
  | _ => none
def notND (_ : CT) (d1 d2 : D) : Option D := match d2 with
  | .non => match d1 with
    | .exn _ _ _ _ _ => none
    | _ => some (.bl (!isN d1))
  | _ => none
theorem isN_rep {s : Option Addr} {G H : Hp} {d : D} {v : V} (r : RepB b F s G H d v) : decide (v = .non) = isN d := by
  rcases r with r | ⟨_, a, vs, ds, h1, h2, _⟩
  · cases d with
    | non => cases (show v = .non from r); rfl
    | bl k => cases (show v = .bl k from r); rfl
    | int k => cases (show v = .int k from r); rfl
    | str k => cases (show v = .str k from r); rfl
    | tup k => obtain ⟨a, vs, rfl, _⟩ := r; rfl
    | lst k => obtain ⟨a, vs, rfl, _⟩ := r; rfl
    | spt => obtain ⟨a, rfl, _⟩ := r; rfl
    | scr k => obtain ⟨a, rfl, _⟩ := r; rfl
    | ty k => cases (show v = .ty k from r); rfl
    | exn _ _ _ _ _ => obtain ⟨rfl, _⟩ := r; rfl
    | set k => obtain ⟨a, rfl, _⟩ := r; rfl
    | sti k => obtain ⟨a, n, rfl, _⟩ := r; rfl
    | dct _ k => obtain ⟨a, n, rfl, _⟩ := r; rfl
  · subst h1 h2
    rfl
theorem od_isN : OpD F (fun x y H Q => y = .non ∧ Q (.bl (decide (x = .non))) H) isND := ⟨fun s G H c d1 d2 v1 v2 res Q e vo r1 r2 eo w => by
  cases d2 with
  | non =>
    refine ⟨r2.non, ?_⟩
    rw [isN_rep r1]
    have er : res = .bl (isN d1) := by
      unfold isND at eo
      cases d1 <;> first | (cases eo; rfl) | cases eo
    subst er
    exact w.now e vo rfl
  | _ => cases eo⟩
theorem od_notN : OpD F (fun x y H Q => y = .non ∧ Q (.bl (!decide (x = .non))) H) notND := ⟨fun s G H c d1 d2 v1 v2 res Q e vo r1 r2 eo w => by
  cases d2 with
  | non =>
    refine ⟨r2.non, ?_⟩
    rw [isN_rep r1]
    have er : res = .bl (!isN d1) := by
      unfold notND at eo
      cases d1 <;> first | (cases eo; rfl) | cases eo
    subst er
    exact w.now e vo rfl
  | _ => cases eo⟩
end
end FL

set_option Elab.async false
set_option linter.all false
set_option maxRecDepth 100000
set_option maxHeartbeats 1000000
/-! F6: more operations. -/
namespace FL
open PySem L2 PyProof.Rows
open Evl (Ex)
section
variable {F : FX} {X : Cx} {W : WX} {z b : Bool} {s : Option Addr} {G H : Hp} {c : CT}
/-! ### and, or as values -/
def andE (f g : ES) : ES := fun env => bnd (f env) fun x => match x with
  | .bl true => g env
  | .bl false => ret (.bl false)
  | _ => bad
def orE (f g : ES) : ES := fun env => bnd (f env) fun x => match x with
  | .bl true => ret (.bl true)
  | .bl false => g env
  | _ => bad
def notE (f : ES) : ES := fun env => bnd (f env) fun x => match x with
  | .bl k => ret (.bl (!k))
  | _ => bad
theorem tX_cont {g : ES} {σ : L2.St} {Q : VK} {B : St0} {env : En} {G1 H1 : Hp} {c1 : CT} (co : Co F B s env σ G H c) (n : Nxt F s G H s G1 H1 c1)
    (h : wpR (g env c1) (fun d c' => ∀ v G' H', Nxt F s G H s G' H' c' → RepB b F s G' H' d v → Q v H') (xW F W s σ G H)) : tX F W b g σ H1 Q :=
  ⟨B, s, env, G1, c1, co.nxt n, wpR_mono h (fun d c' h v G' H' m r => h v G' H' (n.trans m) r) fun _ _ w => w.nxt n⟩
variable {a c' e o : Expr} {es rest : List Expr} {pos apos cpos : Pos} {f g : ES}
theorem se_one {op : BoolOp} (h : SE F X W b a f) : SE F X W b (.BoolOp op [a] pos) f := ⟨pe_one h.pe⟩
theorem se_and (ha : SE F X W true a f) (hb : SE F X W b (.BoolOp .And (c' :: rest) pos) g) : SE F X W b (.BoolOp .And (a :: c' :: rest) pos) (andE f g) := ⟨pe_imp (pe_and ha.pe hb.pe) fun σ H Q ⟨B, s, env, G, c, co, q⟩ =>
  ⟨B, s, env, G, c, co, wpR_mono (wpR_bnd q) (fun x c1 h1 v G1 H1 n1 r1 => by
    cases x with
    | bl k =>
      refine ⟨k, r1.bl, ?_⟩
      cases k with
      | true => exact iteT (tX_cont co n1 h1)
      | false => exact iteF (h1 (.bl false) G1 H1 n1 (.inl rfl))
    | _ => exact h1.elim) fun _ _ x => x⟩⟩
theorem se_or (ha : SE F X W true a f) (hb : SE F X W b (.BoolOp .Or (c' :: rest) pos) g) : SE F X W b (.BoolOp .Or (a :: c' :: rest) pos) (orE f g) := ⟨pe_imp (pe_or ha.pe hb.pe) fun σ H Q ⟨B, s, env, G, c, co, q⟩ =>
  ⟨B, s, env, G, c, co, wpR_mono (wpR_bnd q) (fun x c1 h1 v G1 H1 n1 r1 => by
    cases x with
    | bl k =>
      refine ⟨k, r1.bl, ?_⟩
      cases k with
      | true => exact iteT (h1 (.bl true) G1 H1 n1 (.inl rfl))
      | false => exact iteF (tX_cont co n1 h1)
    | _ => exact h1.elim) fun _ _ x => x⟩⟩
theorem se_not (ha : SE F X W true a f) : SE F X W b (.UnaryOp .Not a pos) (notE f) := ⟨pe_imp (pe_not ha.pe) fun σ H Q ⟨B, s, env, G, c, co, q⟩ =>
  ⟨B, s, env, G, c, co, wpR_mono (wpR_bnd q) (fun x c1 h1 v G1 H1 n1 r1 => by
    cases x with
    | bl k => exact ⟨k, r1.bl, h1 (.bl (!k)) G1 H1 n1 (.inl rfl)⟩
    | _ => exact h1.elim) fun _ _ x => x⟩⟩
/-- a test's outcome as a value -/
def valT (t : BS) : ES := fun env => bnd (t env) fun k => ret (.bl k)

/-! ### truth -/
def truD : D → Option Bool
  | .non => some false
  | .bl k => some k
  | .int i => some (i != 0)
  | .str x => if x.length ≤ sizeLine then some ((x.length : Int) != 0) else none
  | .tup xs => some (!xs.isEmpty)
  | .lst xs => some (!xs.isEmpty)
  | _ => none
def truT (f : ES) : BS := fun env => bnd (f env) fun x => lft (truD x)
theorem isEmpty_rep {ds : List D} {vs : List V} (r : RepL F s G ds vs) : vs.isEmpty = ds.isEmpty := by
  have h := r.length
  cases ds <;> cases vs <;> first | rfl | simp at h
theorem tru_rep {d : D} {v : V} {k : Bool} (e : Ex G H) (r : RepB b F s G H d v) (h : truD d = some k) : TruV F.K v H k := by
  cases d with
  | non => cases h; rw [r.non]; rfl
  | bl i => cases h; rw [r.bl]; rfl
  | int i => cases h; rw [r.int]; rfl
  | str x =>
    have h : (if x.length ≤ sizeLine then some ((x.length : Int) != 0) else none) = some k := h
    by_cases hz : x.length ≤ sizeLine
    · rw [if_pos hz] at h
      cases h
      rw [r.str]
      exact ⟨hz, rfl⟩
    · rw [if_neg hz] at h
      cases h
  | tup xs =>
    cases h
    obtain ⟨a, vs, rfl, h2, h3⟩ := r.tup e
    exact .inr (.inl ⟨vs, h2, by rw [isEmpty_rep h3]⟩)
  | lst xs =>
    cases h
    obtain ⟨a, vs, rfl, h2, h3⟩ := r.list e
    exact .inl ⟨vs, .inl (.inl h2), by rw [isEmpty_rep h3]⟩
  | _ => cases h
theorem st_truth (hK : X.K = F.K) (ha : SE F X W true a f) (he : ∀ whole, isTrue a X.env whole = (do let v ← whole; standAt a.pos; holding [v] (truthy v)) := by intro _; rfl) : ST F X W a (truT f) := ⟨pt_imp (pt_truth ha.pe he) fun σ H Q ⟨B, s, env, G, c, co, q⟩ =>
  ⟨B, s, env, G, c, co, wpR_mono (wpR_bnd q) (fun x c1 h1 v G1 H1 n1 r1 => by
    obtain ⟨k, ek, hq⟩ := wpR_lft h1
    rw [hK]
    exact ⟨k, tru_rep n1.gh r1 ek, hq G1 H1 n1⟩) fun _ _ x => x⟩⟩

/-! ### in -/
def isFlat : D → Bool
  | .non => true
  | .bl _ => true
  | .int _ => true
  | .str _ => true
  | _ => false
def eqF : D → D → Bool
  | .non, .non => true
  | .bl a, .bl b => a == b
  | .bl a, .int b => (if a then 1 else 0) == b
  | .int a, .bl b => a == (if b then 1 else 0)
  | .int a, .int b => a == b
  | .str a, .str b => a == b
  | _, _ => false
theorem flat_rep {d : D} {v : V} (r : RepB b F s G H d v) (h : isFlat d = true) : flatV v = true ∧ ∀ {d' : D} {v' : V} {b' : Bool}, RepB b' F s G H d' v' → isFlat d' = true → eqV v v' = eqF d d' := by
  cases d with
  | non =>
    rw [r.non]
    refine ⟨rfl, fun r' h' => ?_⟩
    rename_i d' v' b'
    cases d' with
    | non => rw [r'.non]; rfl
    | bl i => rw [r'.bl]; rfl
    | int i => rw [r'.int]; rfl
    | str i => rw [r'.str]; rfl
    | _ => cases h'
  | bl i =>
    rw [r.bl]
    refine ⟨rfl, fun r' h' => ?_⟩
    rename_i d' v' b'
    cases d' with
    | non => rw [r'.non]; rfl
    | bl i => rw [r'.bl]; rfl
    | int i => rw [r'.int]; rfl
    | str i => rw [r'.str]; rfl
    | _ => cases h'
  | int i =>
    rw [r.int]
    refine ⟨rfl, fun r' h' => ?_⟩
    rename_i d' v' b'
    cases d' with
    | non => rw [r'.non]; rfl
    | bl i => rw [r'.bl]; rfl
    | int i => rw [r'.int]; rfl
    | str i => rw [r'.str]; rfl
    | _ => cases h'
  | str i =>
    rw [r.str]
    refine ⟨rfl, fun r' h' => ?_⟩
    rename_i d' v' b'
    cases d' with
    | non => rw [r'.non]; rfl
    | bl i => rw [r'.bl]; rfl
    | int i => rw [r'.int]; rfl
    | str i => rw [r'.str]; rfl
    | _ => cases h'
  | _ => cases h
theorem flats_rep : ∀ {ds : List D} {vs : List V}, RepL F s G ds vs → ds.all isFlat = true → vs.all flatV = true ∧ ∀ {d : D} {v : V} {b : Bool}, RepB b F s G H d v → isFlat d = true → inV v vs = ds.any fun y => eqF y d
  | [], vs, r, _ => by cases (show vs = [] from r); exact ⟨rfl, fun _ _ => rfl⟩
  | d :: ds, _, ⟨v, rr, h1, h2, h3⟩, h => by
    rw [List.all_cons, Bool.and_eq_true] at h
    obtain ⟨k1, k2⟩ := flats_rep h3 h.2
    obtain ⟨m1, m2⟩ := flat_rep (b := true) (H := H) (.inl h2) h.1
    rw [h1]
    refine ⟨by rw [List.all_cons, m1, k1]; rfl, fun r' h' => ?_⟩
    show (List.any (v :: rr) fun y => eqV y _) = _
    rw [List.any_cons, List.any_cons, m2 r' h']
    exact congrArg (_ || ·) (k2 r' h')
/-- any item in a tuple of flat items -/
def rInT (K : PySem.W.Frag) (neg : Bool) : R2 := fun x y H Q => ∃ d ds, Dp K H x d ∧ Dp K H y (.tuple ds) ∧ SeqAt.shaped d = true ∧ SeqAt.shaped (.tuple ds) = true ∧ PyData.depthAll ds = 0 ∧ Q (.bl (if neg = true then !(ds.any fun z => PyData.eqv z d) else ds.any fun z => PyData.eqv z d)) H
theorem inT_at {pins : _} {sg : _} {H : Hp} {sh : Shared} {d : PyData} {ds : List PyData} {x y : V} {v u : Value} (hu : X.A.units + 64 < cLine) (I : L2.Inv X pins sg H sh) (hd : Dp X.K H x d) (he : Dp X.K H y (.tuple ds)) (sd : SeqAt.shaped d = true) (se : SeqAt.shaped (.tuple ds) = true) (h0 : PyData.depthAll ds = 0) (rx : RelV x v) (ry : RelV y u) :
    ∃ (a : Addr) (its : List Value) (e : Value → Bool), u = .ref a ∧ sh.heap.IsTuple a its.toArray ∧ (∀ w, w ∈ its.toArray → SeqAt.EqAt X.A.in1 sh w v (e w)) ∧ its.toArray.any e = ds.any fun z => PyData.eqv z d := by
  obtain ⟨as, r1⟩ := Dp.reads I d x v hd rx
  cases he with
  | tup hs ha =>
    cases ry
    obtain ⟨its, r, pl, hz⟩ := I.tuple hs
    have hl : PyData.canLayAll0 ds = true := SeqAt.canLay_of_shaped se
    obtain ⟨bs, h4⟩ := Dp.readsAll I ds _ its ha r
    have hm : its.map (SeqAt.readOf sh.heap) = ds := SeqAt.readsAll_map ds its bs hl h4
    refine ⟨_, its, fun w => PyData.eqv (SeqAt.readOf sh.heap w) d, rfl, pl, SeqAt.items_eqAt (vs := its.toArray) h4 r1 hl (SeqAt.canLay_of_shaped sd) (by rw [h0, Nat.zero_min]; omega), ?_⟩
    rw [← hm, List.any_map, List.any_toArray]
    rfl
theorem op_inT (hu : X.A.units + 64 < cLine) : OpR X (compareOp .In) (rInT X.K false) := by
  intro pins s σ H x y v u Q I rx ry h
  obtain ⟨d, ds, hd, he, sd, se, h0, q⟩ := h
  obtain ⟨a, its, e, rfl, pl, h1, h2⟩ := inT_at hu I hd he sd se h0 rx ry
  refine SeqAt.in_tupleAt e pl h1 ⟨.bl _, H, I, rfl, ?_⟩
  rw [h2]
  exact q
theorem op_notInT (hu : X.A.units + 64 < cLine) : OpR X (compareOp .NotIn) (rInT X.K true) := by
  intro pins s σ H x y v u Q I rx ry h
  obtain ⟨d, ds, hd, he, sd, se, h0, q⟩ := h
  obtain ⟨a, its, e, rfl, pl, h1, h2⟩ := inT_at hu I hd he sd se h0 rx ry
  refine SeqAt.notIn_tupleAt e pl h1 ⟨.bl _, H, I, rfl, ?_⟩
  rw [h2]
  exact q
theorem flat_depth : ∀ {ds : List D} {ps : List PyData}, ds.all isFlat = true → toPs ds = some ps → PyData.depthAll ps = 0
  | [], _, _, h => by cases h; rfl
  | d :: ds, ps, f, h => by
    rw [List.all_cons, Bool.and_eq_true] at f
    have h : (match toP d with | none => none | some p => (toPs ds).map (p :: ·)) = some ps := h
    cases e2 : toPs ds with
    | none => cases e1 : toP d <;> simp [e1, e2] at h
    | some qs =>
      have q := flat_depth f.2 e2
      cases d with
      | non => simp [e2, toP] at h; subst h; simp [PyData.depthAll, PyData.depth, q]
      | bl b => simp [e2, toP] at h; subst h; simp [PyData.depthAll, PyData.depth, q]
      | int b => simp [e2, toP] at h; subst h; simp [PyData.depthAll, PyData.depth, q]
      | str b => simp [e2, toP] at h; subst h; simp [PyData.depthAll, PyData.depth, q]
      | _ => exact absurd (show false = true from f.1) Bool.false_ne_true
def inT (d1 : D) (ys : List D) : Option Bool := match toP d1, toPs ys with
  | some p, some qs => if ys.all isFlat = true ∧ SeqAt.shaped p = true ∧ SeqAt.shaped (.tuple qs) = true then some (qs.any fun z => PyData.eqv z p) else none
  | _, _ => none
def inX (d1 d2 : D) : Option Bool := match d2 with
  | .str y => match d1 with
    | .str x => some (match x.cps.toList with
      | [k] => decide (k ∈ y.cps.toList)
      | _ => !(Builtin.Str.occurrences y x 0 y.length 1).isEmpty)
    | _ => none
  | .tup ys => if isFlat d1 = true ∧ ys.all isFlat = true then some (ys.any fun y => eqF y d1) else inT d1 ys
  | .lst ys => if isFlat d1 = true ∧ ys.all isFlat = true then some (ys.any fun y => eqF y d1) else none
  | .set ys => match d1 with
    | .str x => some (decide (x ∈ ys))
    | _ => none
  | _ => none
/-- x in a set of texts -/
def rInX (w : World) (neg : Bool) : R2 := fun x y H Q => ∃ (k : Str) (a : Addr) (xs : List Str), x = .str k ∧ y = .ref a ∧ H a = some (setH w a xs) ∧ Q (.bl (if neg = true then !decide (k ∈ xs) else decide (k ∈ xs))) H
theorem op_inX : OpR X (compareOp .In) (rInX X.w false) := by
  intro pins s σ H x y v u Q I rx ry h
  obtain ⟨k, a, xs, rfl, rfl, ha, q⟩ := h
  obtain ⟨tk, rfl⟩ := rx
  cases ry
  have R : SetX X.w s.heap a xs := (I.hok a _ ha).1
  obtain ⟨n, S⟩ := R.setOf (P := X.prog)
  exact wpAny_inSet_of (strKind_is _ _ _ _) rfl S ⟨.bl (decide (k ∈ xs)), H, I.tok _, rfl, q⟩
theorem op_notInX : OpR X (compareOp .NotIn) (rInX X.w true) := by
  intro pins s σ H x y v u Q I rx ry h
  obtain ⟨k, a, xs, rfl, rfl, ha, q⟩ := h
  obtain ⟨tk, rfl⟩ := rx
  cases ry
  have R : SetX X.w s.heap a xs := (I.hok a _ ha).1
  obtain ⟨n, S⟩ := R.setOf (P := X.prog)
  exact wpAny_notInSet_of (strKind_is _ _ _ _) rfl S ⟨.bl (!decide (k ∈ xs)), H, I.tok _, rfl, q⟩
def rInG (K : PySem.W.Frag) (w : World) : R2 := fun x y H Q => rInX w false x y H Q ∨ rIn K false x y H Q ∨ rInT K false x y H Q ∨ (∃ (c : Nat) (z : Str), x = .str ⟨#[c]⟩ ∧ y = .str z ∧ Q (.bl (decide (c ∈ z.cps.toList))) H) ∨ ∃ i j, x = .str i ∧ y = .str j ∧ Q (.bl (!(Builtin.Str.occurrences j i 0 j.length 1).isEmpty)) H
def rNotInG (K : PySem.W.Frag) (w : World) : R2 := fun x y H Q => rInX w true x y H Q ∨ rIn K true x y H Q ∨ rInT K true x y H Q ∨ (∃ (c : Nat) (z : Str), x = .str ⟨#[c]⟩ ∧ y = .str z ∧ Q (.bl (!decide (c ∈ z.cps.toList))) H) ∨ ∃ i j, x = .str i ∧ y = .str j ∧ Q (.bl (!(!(Builtin.Str.occurrences j i 0 j.length 1).isEmpty))) H
theorem op_inG (hu : X.A.units + 64 < cLine) : OpR X (compareOp .In) (rInG X.K X.w) := opr_or op_inX (opr_or op_in_seq (opr_or (op_inT hu) (opr_or op_in_sign op_in_str)))
theorem op_notInG (hu : X.A.units + 64 < cLine) : OpR X (compareOp .NotIn) (rNotInG X.K X.w) := opr_or op_notInX (opr_or op_notIn_seq (opr_or (op_notInT hu) (opr_or op_notIn_sign op_notIn_str)))
theorem inX_cases {d1 d2 : D} {v1 v2 : V} {k : Bool} (e : Ex G H) (r1 : RepB true F s G H d1 v1) (r2 : RepB true F s G H d2 v2) (h : inX d1 d2 = some k) :
    (∃ (t : Str) (a : Addr) (xs : List Str), v1 = .str t ∧ v2 = .ref a ∧ H a = some (setH F.w a xs) ∧ decide (t ∈ xs) = k) ∨ (∃ p xs, v2 = .ref p ∧ (SqL F.K H p xs ∨ SqT F.K H p xs) ∧ flatV v1 = true ∧ xs.all flatV = true ∧ inV v1 xs = k) ∨ (∃ p ps, Dp F.K H v1 p ∧ Dp F.K H v2 (.tuple ps) ∧ SeqAt.shaped p = true ∧ SeqAt.shaped (.tuple ps) = true ∧ PyData.depthAll ps = 0 ∧ (ps.any fun z => PyData.eqv z p) = k) ∨ (∃ (c : Nat) (z : Str), v1 = .str ⟨#[c]⟩ ∧ v2 = .str z ∧ decide (c ∈ z.cps.toList) = k) ∨ ∃ i j, v1 = .str i ∧ v2 = .str j ∧ (!(Builtin.Str.occurrences j i 0 j.length 1).isEmpty) = k := by
  unfold inX at h
  cases d2 with
  | str y =>
    cases d1 with
    | str x =>
      have h : some (match x.cps.toList with | [k] => decide (k ∈ y.cps.toList) | _ => !(Builtin.Str.occurrences y x 0 y.length 1).isEmpty) = some k := h
      cases h
      obtain ⟨xs⟩ := x
      obtain ⟨l⟩ := xs
      match l with
      | [m] => exact .inr (.inr (.inr (.inl ⟨m, y, r1.str, r2.str, rfl⟩)))
      | [] => exact .inr (.inr (.inr (.inr ⟨_, y, r1.str, r2.str, rfl⟩)))
      | _ :: _ :: _ => exact .inr (.inr (.inr (.inr ⟨_, y, r1.str, r2.str, rfl⟩)))
    | _ => cases h
  | tup ys =>
    have h : (if isFlat d1 = true ∧ ys.all isFlat = true then some (ys.any fun y => eqF y d1) else inT d1 ys) = some k := h
    by_cases hf : isFlat d1 = true ∧ ys.all isFlat = true
    · rw [if_pos hf] at h
      cases h
      obtain ⟨a, vs, rfl, h2, h3⟩ := r2.tup e
      obtain ⟨k1, k2⟩ := flats_rep (H := H) h3 hf.2
      exact .inr (.inl ⟨a, vs, rfl, .inr h2, (flat_rep r1 hf.1).1, k1, k2 r1 hf.1⟩)
    · rw [if_neg hf] at h
      unfold inT at h
      cases e1 : toP d1 with
      | none => simp [e1] at h
      | some p =>
        cases e2 : toPs ys with
        | none => simp [e1, e2] at h
        | some qs =>
          simp only [e1, e2] at h
          by_cases hs : ys.all isFlat = true ∧ SeqAt.shaped p = true ∧ SeqAt.shaped (.tuple qs) = true
          · rw [if_pos hs] at h
            cases h
            exact .inr (.inr (.inl ⟨p, qs, repB_dp e r1 e1, repB_dp e r2 (by show (toPs ys).map PyData.tuple = _; rw [e2]; rfl), hs.2.1, hs.2.2, flat_depth hs.1 e2, rfl⟩))
          · rw [if_neg hs] at h
            cases h
  | lst ys =>
    have h : (if isFlat d1 = true ∧ ys.all isFlat = true then some (ys.any fun y => eqF y d1) else none) = some k := h
    by_cases hf : isFlat d1 = true ∧ ys.all isFlat = true
    · rw [if_pos hf] at h
      cases h
      obtain ⟨a, vs, rfl, h2, h3⟩ := r2.list e
      obtain ⟨k1, k2⟩ := flats_rep (H := H) h3 hf.2
      exact .inr (.inl ⟨a, vs, rfl, .inl (.inl (.inl h2)), (flat_rep r1 hf.1).1, k1, k2 r1 hf.1⟩)
    · rw [if_neg hf] at h
      cases h
  | set ys =>
    cases d1 with
    | str x =>
      have h : some (decide (x ∈ ys)) = some k := h
      cases h
      rcases r2 with ⟨a, rfl, h2⟩ | ⟨_, p, vs, ds, q, _⟩
      · exact .inl ⟨x, a, ys, r1.str, rfl, e a _ h2, rfl⟩
      · cases q
    | _ => cases h
  | _ => cases h
def inD (_ : CT) (d1 d2 : D) : Option D := (inX d1 d2).map .bl
def notInD (_ : CT) (d1 d2 : D) : Option D := (inX d1 d2).map fun k => .bl (!k)
theorem od_in : OpD F (rInG F.K F.w) inD := ⟨fun s G H c d1 d2 v1 v2 res Q e vo r1 r2 eo w => by
  unfold inD at eo
  cases ek : inX d1 d2 with
  | none => rw [ek] at eo; cases eo
  | some k =>
    rw [ek] at eo
    cases eo
    have q : Q (.bl k) H := w.now e vo rfl
    rcases inX_cases e r1 r2 ek with ⟨t, a, xs, h1, h2, h3, h4⟩ | ⟨p, xs, h1, h2, h3, h4, h5⟩ | ⟨p, ps, h1, h2, h3, h4, h5, h6⟩ | ⟨i, j, h1, h2, h3⟩ | ⟨i, j, h1, h2, h3⟩
    · exact .inl ⟨t, a, xs, h1, h2, h3, by rw [if_neg Bool.false_ne_true, h4]; exact q⟩
    · exact .inr (.inl ⟨p, xs, h1, h2, h3, h4, by rw [if_neg Bool.false_ne_true, h5]; exact q⟩)
    · exact .inr (.inr (.inl ⟨p, ps, h1, h2, h3, h4, h5, by rw [if_neg Bool.false_ne_true, h6]; exact q⟩))
    · exact .inr (.inr (.inr (.inl ⟨i, j, h1, h2, by rw [h3]; exact q⟩)))
    · exact .inr (.inr (.inr (.inr ⟨i, j, h1, h2, by rw [h3]; exact q⟩)))⟩
theorem od_notIn : OpD F (rNotInG F.K F.w) notInD := ⟨fun s G H c d1 d2 v1 v2 res Q e vo r1 r2 eo w => by
  unfold notInD at eo
  cases ek : inX d1 d2 with
  | none => rw [ek] at eo; cases eo
  | some k =>
    rw [ek] at eo
    cases eo
    have q : Q (.bl (!k)) H := w.now e vo rfl
    rcases inX_cases e r1 r2 ek with ⟨t, a, xs, h1, h2, h3, h4⟩ | ⟨p, xs, h1, h2, h3, h4, h5⟩ | ⟨p, ps, h1, h2, h3, h4, h5, h6⟩ | ⟨i, j, h1, h2, h3⟩ | ⟨i, j, h1, h2, h3⟩
    · exact .inl ⟨t, a, xs, h1, h2, h3, by rw [if_pos rfl, h4]; exact q⟩
    · exact .inr (.inl ⟨p, xs, h1, h2, h3, h4, by rw [if_pos rfl, h5]; exact q⟩)
    · exact .inr (.inr (.inl ⟨p, ps, h1, h2, h3, h4, h5, by rw [if_pos rfl, h6]; exact q⟩))
    · exact .inr (.inr (.inr (.inl ⟨i, j, h1, h2, by rw [h3]; exact q⟩)))
    · exact .inr (.inr (.inr (.inr ⟨i, j, h1, h2, by rw [h3]; exact q⟩)))⟩

/-! ### subscripts -/
def ixD (c : CT) (d1 d2 : D) : Option D := match d2 with
  | .int i => match d1 with
    | .tup xs => atI xs i
    | .lst xs => atI xs i
    | .str x => if x.length ≤ sizeLine then (atI x.cps.toList i).map fun k => .str ⟨#[k]⟩ else none
    | .spt => if i = 0 then c.map .int else none
    | _ => none
  | _ => none
theorem atI_rep {ds : List D} {vs : List V} {i : Int} {d : D} (r : RepL F s G ds vs) (h : atI ds i = some d) : ∃ v, atI vs i = some v ∧ Rep F s G d v := by
  unfold atI at h ⊢
  rw [r.length]
  cases e : ixN ds.length i with
  | none => rw [e] at h; cases h
  | some j =>
    rw [e] at h
    exact r.get h
theorem od_ix : OpD F (rIx F.K) ixD := ⟨fun s G H c d1 d2 v1 v2 res Q e vo r1 r2 eo w => by
  unfold ixD at eo
  cases d2 with
  | int i =>
    cases d1 with
    | tup xs =>
      obtain ⟨a, vs, rfl, h2, h3⟩ := r1.tup e
      obtain ⟨v, k1, k2⟩ := atI_rep h3 eo
      exact .inr (.inl ⟨a, vs, i, v, rfl, r2.int, h2, k1, w.now e vo k2⟩)
    | lst xs =>
      obtain ⟨a, vs, rfl, h2, h3⟩ := r1.list e
      obtain ⟨v, k1, k2⟩ := atI_rep h3 eo
      exact .inl ⟨a, vs, i, v, rfl, r2.int, .inl (.inl h2), k1, w.now e vo k2⟩
    | str x =>
      have eo : (if x.length ≤ sizeLine then (atI x.cps.toList i).map fun k => D.str ⟨#[k]⟩ else none) = some res := eo
      by_cases hz : x.length ≤ sizeLine
      · rw [if_pos hz] at eo
        cases ek : atI x.cps.toList i with
        | none => rw [ek] at eo; cases eo
        | some k =>
          rw [ek] at eo
          cases eo
          exact .inr (.inr ⟨x, i, k, r1.str, r2.int, hz, ek, w.now e vo rfl⟩)
      · rw [if_neg hz] at eo
        cases eo
    | spt =>
      have eo : (if i = 0 then c.map D.int else none) = some res := eo
      by_cases hi : i = 0
      · rw [if_pos hi] at eo
        subst hi
        rcases r1 with ⟨a, rfl, ha⟩ | ⟨_, p, vs, ds, q, _⟩
        · obtain ⟨_, n, k2, k3⟩ := vo.sp a ha
          subst k2
          cases eo
          exact .inl ⟨a, [.int n], 0, .int n, rfl, r2.int, .inl (.inl k3), rfl, w.now e vo rfl⟩
        · cases q
      · rw [if_neg hi] at eo
        cases eo
    | _ => cases eo
  | _ => cases eo⟩
theorem se_ix (hK : X.K = F.K) (ha : SE F X W true a f) (hb : SE F X W true c' g) (hs : PlainIx c' := by exact fun _ _ => rfl) : SE F X W b (.Subscript a c' pos) (opE ixD f g) :=
  ⟨pe_imp (pe_ix ix_seq ha.pe hb.pe hs) fun _ _ _ h => by rw [hK]; exact tX_op od_ix h⟩

/-! ### slices -/
abbrev OS := En → M (Option Int)
def tPo (F : FX) (W : WX) (f : OS) : TO := fun σ H Q => ∃ B s env G c, Co F B s env σ G H c ∧ wpR (f env c) (fun d c' => ∀ G' H', Nxt F s G H s G' H' c' → Q d H') (xW F W s σ G H)
structure SP' (F : FX) (X : Cx) (W : WX) (e : Option Expr) (f : OS) : Prop where
  po : PO X e (tPo F W f)
theorem po_imp {e : Option Expr} {t t' : TO} (h : PO X e t) (i : ∀ σ H Q, t' σ H Q → t σ H Q) : PO X e t' := ⟨fun pins s σ H Q I q => h.run pins s σ H Q I (i σ H Q q)⟩
def noP : OS := fun _ => ret none
def soP (f : ES) : OS := fun env => bnd (f env) fun d => match d with
  | .int i => ret (some i)
  | _ => bad
theorem sp_no : SP' F X W none noP := ⟨po_imp po_none fun σ H Q ⟨B, s, env, G, c, co, q⟩ => q G H co.rfl⟩
theorem sp_so (h : SE F X W true a f) : SP' F X W (some a) (soP f) := ⟨po_imp (po_some h.pe) fun σ H Q ⟨B, s, env, G, c, co, q⟩ =>
  ⟨B, s, env, G, c, co, wpR_mono (wpR_bnd q) (fun d c1 h1 v G1 H1 n1 r1 => by
    cases d with
    | int i => exact ⟨i, r1.int, h1 G1 H1 n1⟩
    | _ => exact h1.elim) fun _ _ x => x⟩⟩
def cutD {α : Type} (xs : List α) (lo hi : Option Int) : List α := (xs.drop (HT.sIx xs.length 0 lo)).take (HT.sIx xs.length xs.length hi - HT.sIx xs.length 0 lo)
theorem cut_rep {ds : List D} {vs : List V} (r : RepL F s G ds vs) (lo hi : Option Int) : RepL F s G (cutD ds lo hi) (cutV vs lo hi) := by
  unfold cutD cutV
  rw [r.length]
  exact RepL.take _ (RepL.drop _ r)
def slD (d : D) (lo hi : Option Int) : Option D := match d with
  | .str x => if x.length ≤ sizeLine then some (.str (cutS x lo hi)) else none
  | .tup xs => some (.tup (cutD xs lo hi))
  | .lst xs => some (.lst (cutD xs lo hi))
  | .scr ns => some (.lst ((cutD ns lo hi).map .int))
  | _ => none
def slE (f : ES) (lo hi : OS) : ES := fun env => bnd (f env) fun d => bnd (lo env) fun l => bnd (hi env) fun h => lft (slD d l h)
def rSlG (K : PySem.W.Frag) : V → Option Int → Option Int → Hp → VK → Prop := fun x lo hi H Q => rSlS x lo hi H Q ∨ rSlA K x lo hi H Q ∨ rSlL K x lo hi H Q
theorem sl_G : SlR X (rSlG X.K) := slr_or sl_str (slr_or sl_tupA sl_list)
theorem cut_map {α β : Type} (g : α → β) (xs : List α) (lo hi : Option Int) : cutD (xs.map g) lo hi = (cutD xs lo hi).map g := by
  unfold cutD
  rw [List.length_map, List.map_take, List.map_drop]
theorem ints_rep (ns : List Int) : RepL F s G (ns.map .int) (ns.map V.int) := by
  induction ns with
  | nil => exact (show ([] : List V) = [] from rfl)
  | cons n ns ih => exact (show ∃ v r, (V.int n :: ns.map V.int) = v :: r ∧ Rep F s G (D.int n) v ∧ RepL F s G (ns.map D.int) r from ⟨V.int n, ns.map V.int, rfl, rfl, ih⟩)
theorem cut_whole {α : Type} {xs : List α} {lo hi : Option Int} (h : HT.sIx xs.length 0 lo = 0 ∧ HT.sIx xs.length xs.length hi = xs.length) : cutD xs lo hi = xs := by
  unfold cutD
  rw [h.1, h.2, List.drop_zero, Nat.sub_zero, List.take_length]
theorem sl_rep {d : D} {v : V} {lo hi : Option Int} {res : D} {Q : VK} (e : Ex G H) (vo : Vol F s c G H) (r : RepB true F s G H d v) (h : slD d lo hi = some res) (w : Want F s G H c res Q) : rSlG F.K v lo hi H Q := by
  cases d with
  | str x =>
    have h : (if x.length ≤ sizeLine then some (D.str (cutS x lo hi)) else none) = some res := h
    by_cases hz : x.length ≤ sizeLine
    · rw [if_pos hz] at h
      cases h
      exact .inl ⟨x, r.str, hz, w.now e vo rfl⟩
    · rw [if_neg hz] at h
      cases h
  | tup xs =>
    cases h
    obtain ⟨a, vs, rfl, h2, h3⟩ := r.tup e
    refine .inr (.inl ⟨a, vs, rfl, h2, fun q => ?_, fun _ => w.tup e vo (cut_rep h3 lo hi)⟩)
    rw [h3.length] at q
    rw [cut_whole q] at w
    rcases r with r | ⟨_, p, vs, ds, q, _⟩
    · exact w.now e vo r
    · cases q
  | lst xs =>
    cases h
    obtain ⟨a, vs, rfl, h2, h3⟩ := r.list e
    exact .inr (.inr ⟨a, vs, rfl, .inl (.inl h2), w.lst e vo (cut_rep h3 lo hi)⟩)
  | scr ns =>
    cases h
    rcases r with ⟨a, rfl, h2⟩ | ⟨_, p, vs, ds, q, _⟩
    · refine .inr (.inr ⟨a, _, rfl, Evl.ex_l e h2, w.lst e vo ?_⟩)
      have q := cut_rep (F := F) (s := s) (G := G) (ints_rep ns) lo hi
      rw [cut_map] at q
      exact q
    · cases q
  | _ => cases h
theorem se_sl {lo hi : Option Expr} {fl fh : OS} {p2 : Pos} (hK : X.K = F.K) (ha : SE F X W true a f) (hl : SP' F X W lo fl) (hh : SP' F X W hi fh) : SE F X W b (.Subscript a (.Slice lo hi none p2) pos) (slE f fl fh) :=
  ⟨pe_imp (pe_slice sl_G ha.pe hl.po hh.po) fun σ H Q ⟨B, s, env, G, c, co, q⟩ => ⟨B, s, env, G, c, co, wpR_mono (wpR_bnd q) (fun d c1 h1 v G1 H1 n1 r1 =>
    ⟨B, s, env, G1, c1, co.nxt n1, wpR_mono (wpR_bnd h1) (fun l c2 h2 G2 H2 n2 => ⟨B, s, env, G2, c2, (co.nxt n1).nxt n2, wpR_mono (wpR_bnd h2) (fun u c3 h3 G3 H3 n3 => by
      obtain ⟨res, er, hq⟩ := wpR_lft h3
      have n23 := n2.trans n3
      rw [hK]
      exact sl_rep n3.gh n3.vo (r1.nxt n1.vo n23) er fun v' G' H' n r => hq v' G' H' ((n1.trans n23).trans n) (.inl r)) fun _ _ w => (w.nxt n1).nxt n2⟩) fun _ _ w => w.nxt n1⟩) fun _ _ x => x⟩⟩

/-! ### built-in functions -/
def on1 (g : D → Option D) : CT → List D → Option D := fun _ ds => match ds with
  | [d] => g d
  | _ => none
def on2 (g : D → D → Option D) : CT → List D → Option D := fun _ ds => match ds with
  | [d, d'] => g d d'
  | _ => none
theorem cd1 {r : List V → Hp → VK → Prop} {g : D → Option D} (h : ∀ (s : Option Addr) (G H : Hp) (c : CT) (d : D) (v : V) (res : D) (Q : VK), Ex G H → Vol F s c G H → RepB true F s G H d v → g d = some res → Want F s G H c res Q → r [v] H Q) : CaD F r (on1 g) := ⟨fun s G H c ds vs res Q e vo rr eo w => by
  cases ds with
  | nil => cases eo
  | cons d ds =>
    cases ds with
    | cons _ _ => cases eo
    | nil =>
      obtain ⟨v, us, ev, r1, rn⟩ := rr
      cases (show us = [] from rn)
      subst ev
      exact h s G H c d v res Q e vo r1 eo w⟩
theorem cd2 {r : List V → Hp → VK → Prop} {g : D → D → Option D} (h : ∀ (s : Option Addr) (G H : Hp) (c : CT) (d d' : D) (v v' : V) (res : D) (Q : VK), Ex G H → Vol F s c G H → RepB true F s G H d v → RepB true F s G H d' v' → g d d' = some res → Want F s G H c res Q → r [v, v'] H Q) : CaD F r (on2 g) := ⟨fun s G H c ds vs res Q e vo rr eo w => by
  cases ds with
  | nil => cases eo
  | cons d ds =>
    cases ds with
    | nil => cases eo
    | cons d' ds =>
      cases ds with
      | cons _ _ => cases eo
      | nil =>
        obtain ⟨v, us, ev, r1, v', us', ev', r1', rn⟩ := rr
        cases (show us' = [] from rn)
        subst ev' ev
        exact h s G H c d d' v v' res Q e vo r1 r1' eo w⟩
def lenX (d : D) : Option D := match d with
  | .str x => if x.length ≤ sizeLine then some (.int x.length) else none
  | .tup xs => some (.int xs.length)
  | .lst xs => some (.int xs.length)
  | .scr xs => some (.int xs.length)
  | _ => none
def lenD := on1 lenX
theorem cd_len : CaD F (fun xs H Q => ∃ x n, xs = [x] ∧ LenV F.K x H n ∧ Q (.int n) H) lenD := cd1 fun s G H c d v res Q e vo r1 eo w => by
  cases d with
  | str x =>
    have eo : (if x.length ≤ sizeLine then some (D.int x.length) else none) = some res := eo
    by_cases hz : x.length ≤ sizeLine
    · rw [if_pos hz] at eo
      cases eo
      exact ⟨v, x.length, rfl, by rw [r1.str]; exact ⟨hz, rfl⟩, w.now e vo rfl⟩
    · rw [if_neg hz] at eo
      cases eo
  | tup xs =>
    cases eo
    obtain ⟨a, vs, rfl, h2, h3⟩ := r1.tup e
    exact ⟨_, xs.length, rfl, .inr ⟨vs, h2, h3.length.symm⟩, w.now e vo rfl⟩
  | lst xs =>
    cases eo
    obtain ⟨a, vs, rfl, h2, h3⟩ := r1.list e
    exact ⟨_, xs.length, rfl, .inl ⟨vs, .inl (.inl h2), h3.length.symm⟩, w.now e vo rfl⟩
  | scr xs =>
    cases eo
    rcases r1 with ⟨a, rfl, h2⟩ | ⟨_, p, vs, ds, q, _⟩
    · exact ⟨_, xs.length, rfl, .inl ⟨_, Evl.ex_l e h2, by rw [List.length_map]⟩, w.now e vo rfl⟩
    · cases q
  | _ => cases eo
def intX (d : D) : Option D := match d with
  | .int i => some (.int i)
  | .bl k => some (.int (if k then 1 else 0))
  | _ => none
def intD := on1 intX
theorem cd_int : CaD F (fun xs H Q => (∃ i, xs = [.int i] ∧ Q (.int i) H) ∨ ∃ k, xs = [.bl k] ∧ Q (.int (if k then 1 else 0)) H) intD := cd1 fun s G H c d v res Q e vo r1 eo w => by
  cases d with
  | int i =>
    cases eo
    exact .inl ⟨i, by rw [r1.int], w.now e vo rfl⟩
  | bl k =>
    cases eo
    exact .inr ⟨k, by rw [r1.bl], w.now e vo rfl⟩
  | _ => cases eo
def strX (d : D) : Option D := match d with
  | .int i => if i.natAbs.log2 < 1920 then some (.str (toString i)) else none
  | _ => none
def strD := on1 strX
theorem cd_str : CaD F (fun xs H Q => ∃ i, xs = [.int i] ∧ i.natAbs.log2 < 1920 ∧ Q (.str (toString i)) H) strD := cd1 fun s G H c d v res Q e vo r1 eo w => by
  cases d with
  | int i =>
    have eo : (if i.natAbs.log2 < 1920 then some (D.str (toString i)) else none) = some res := eo
    by_cases hz : i.natAbs.log2 < 1920
    · rw [if_pos hz] at eo
      cases eo
      exact ⟨i, by rw [r1.int], hz, w.now e vo rfl⟩
    · rw [if_neg hz] at eo
      cases eo
  | _ => cases eo
def tupX (d : D) : Option D := match d with
  | .lst xs => some (.tup xs)
  | .tup xs => some (.tup xs)
  | _ => none
def tupD := on1 tupX
theorem cd_tup : CaD F (fun xs H Q => ∃ p ys, xs = [.ref p] ∧ ((SqL F.K H p ys ∧ ∀ l, H l = none → Q (.ref l) (upd H l (.tup ys))) ∨ (SqT F.K H p ys ∧ Q (.ref p) H))) tupD := cd1 fun s G H c d v res Q e vo r1 eo w => by
  cases d with
  | lst xs =>
    cases eo
    obtain ⟨a, vs, rfl, h2, h3⟩ := r1.list e
    exact ⟨a, vs, rfl, .inl ⟨.inl (.inl h2), w.tup e vo h3⟩⟩
  | tup xs =>
    cases eo
    obtain ⟨a, vs, rfl, h2, h3⟩ := r1.tup e
    refine ⟨a, vs, rfl, .inr ⟨h2, ?_⟩⟩
    rcases r1 with r | ⟨_, p, vs, ds, q, _⟩
    · exact w.now e vo r
    · cases q
  | _ => cases eo
def lstX (d : D) : Option D := match d with
  | .lst xs => some (.lst xs)
  | .tup xs => some (.lst xs)
  | _ => none
def lstD := on1 lstX
theorem cd_lst : CaD F (fun xs H Q => ∃ p ys, xs = [.ref p] ∧ (SqL F.K H p ys ∨ SqT F.K H p ys) ∧ ∀ l, H l = none → Q (.ref l) (upd H l (.lst ys))) lstD := cd1 fun s G H c d v res Q e vo r1 eo w => by
  cases d with
  | lst xs =>
    cases eo
    obtain ⟨a, vs, rfl, h2, h3⟩ := r1.list e
    exact ⟨a, vs, rfl, .inl (.inl (.inl h2)), w.lst e vo h3⟩
  | tup xs =>
    cases eo
    obtain ⟨a, vs, rfl, h2, h3⟩ := r1.tup e
    exact ⟨a, vs, rfl, .inr h2, w.lst e vo h3⟩
  | _ => cases eo
variable {x : Str} {p : Pos} {av : AS} {id T : String} {r : List V → Hp → VK → Prop} {op : CT → List D → Option D}
theorem se_callB (hr : CallR X (.builtin id) r) (hd : CaD F r op) (hg : Gl X x) (hm : X.mg x = none) (hv : bootBuiltins x = some (.builtin id)) (ha : SA F X W true (e :: es) av) (hn : x ≠ "__name__" := by decide) (hdb : (x == ("__debug__" : Str)) = false := by decide)
    (he : starEach (e :: es) X.env = (false, eval e X.env) :: starEach es X.env := by rfl) (hpl : (backTo pos (starEach es X.env)).any (·.1) = false := by rfl) : SE F X W b (.Call (.Name x p) (e :: es) [] pos) (caE op av) :=
  ⟨pe_imp (pe_callB hr hg hm hv ha.pa hn hdb he hpl) fun _ _ _ h => tX_ca hd h⟩
theorem se_callTy (hr : CallR X (.type T) r) (hd : CaD F r op) (hg : Gl X x) (hm : X.mg x = none) (hv : bootBuiltins x = some (.type T)) (ha : SA F X W true (e :: es) av) (hn : x ≠ "__name__" := by decide) (hdb : (x == ("__debug__" : Str)) = false := by decide)
    (he : starEach (e :: es) X.env = (false, eval e X.env) :: starEach es X.env := by rfl) (hpl : (backTo pos (starEach es X.env)).any (·.1) = false := by rfl) : SE F X W b (.Call (.Name x p) (e :: es) [] pos) (caE op av) :=
  ⟨pe_imp (pe_callTy hr hg hm hv ha.pa hn hdb he hpl) fun _ _ _ h => tX_ca hd h⟩
/-- a built-in class, as a value -/
theorem se_ty {n : String} (h : PE X e (tC (.ty n))) : SE F X W b e (kE (.ty n)) := se_k h fun _ _ => rfl
/-- isinstance(x, T), isinstance(x, (T, U)) -/
def tyN : D → Option String
  | .non => some "NoneType"
  | .bl _ => some "bool"
  | .int _ => some "int"
  | .str _ => some "str"
  | .tup _ => some "tuple"
  | .lst _ => some "list"
  | _ => none
def tys : List String := ["bool", "int", "str", "tuple", "list"]
def isTy (t n : String) : Bool := t == n || (t == "bool" && n == "int")
def tyOf : D → Option String
  | .ty n => if tys.contains n then some n else none
  | _ => none
def tysOf : List D → Option (List String)
  | [] => some []
  | d :: ds => match tyOf d with
    | none => none
    | some n => (tysOf ds).map (n :: ·)
def isiX (d d' : D) : Option D := match tyN d with
  | none => none
  | some t => match d' with
    | .ty n => if tys.contains n then some (.bl (isTy t n)) else none
    | .tup cs => (tysOf cs).map fun ns => .bl (ns.any (isTy t))
    | _ => none
def isiD := on2 isiX
theorem kit_fact (K : PySem.W.Frag) {t n : String} (ht : t ∈ ["NoneType", "bool", "int", "str", "tuple", "list"]) (hn : n ∈ tys) : PySem.W.kitOne K (.type t) (.type n) = some (isTy t n) := by
  unfold tys at hn
  simp only [List.mem_cons, List.not_mem_nil, or_false] at ht hn
  rcases ht with rfl | rfl | rfl | rfl | rfl | rfl <;> rcases hn with rfl | rfl | rfl | rfl | rfl <;> rfl
theorem ty_rep {d : D} {v : V} {t : String} (e : Ex G H) (r : RepB b F s G H d v) (h : tyN d = some t) : TyX F.K H v (.type t) ∧ t ∈ ["NoneType", "bool", "int", "str", "tuple", "list"] := by
  cases d with
  | non => cases h; rw [r.non]; exact ⟨.base .non, by decide⟩
  | bl k => cases h; rw [r.bl]; exact ⟨.base (.bl k), by decide⟩
  | int k => cases h; rw [r.int]; exact ⟨.base (.int k), by decide⟩
  | str k => cases h; rw [r.str]; exact ⟨.base (.str k), by decide⟩
  | tup xs =>
    cases h
    refine ⟨?_, by decide⟩
    rcases r with ⟨a, vs, rfl, h2, h3⟩ | ⟨_, p, vs, ds, q, _⟩
    · rcases h2 with h2 | ⟨o, its, n, h2, h4, _⟩
      · exact .base (.tup (e a _ h2))
      · exact .kTuple h2 h4
    · cases q
  | lst xs =>
    cases h
    obtain ⟨a, vs, rfl, h2, h3⟩ := r.list e
    exact ⟨.base (.lst h2), by decide⟩
  | _ => cases h
theorem ty_mem {n : String} (h : tys.contains n = true) : n ∈ tys := List.contains_iff_mem.mp h
theorem tysOf_rep : ∀ {ds : List D} {vs : List V} {ns : List String}, RepL F s G ds vs → tysOf ds = some ns → ∃ us : List Value, Paired ClsV vs us ∧ us = ns.map Value.type ∧ ∀ n ∈ ns, n ∈ tys
  | [], vs, ns, r, h => by
    cases (show vs = [] from r)
    cases h
    exact ⟨[], .nil, rfl, by simp⟩
  | d :: ds, vs, ns, ⟨v, rr, ev, h2, h3⟩, h => by
    have h : (match tyOf d with | none => none | some n => (tysOf ds).map (n :: ·)) = some ns := h
    cases d with
    | ty n =>
      by_cases hn : tys.contains n = true
      · have e1 : tyOf (.ty n) = some n := if_pos hn
        rw [e1] at h
        cases e2 : tysOf ds with
        | none => simp [e2] at h
        | some ms =>
          simp [e2] at h
          subst h
          obtain ⟨us, k1, k2, k3⟩ := tysOf_rep h3 e2
          cases (show v = .ty n from h2)
          rw [ev]
          exact ⟨.type n :: us, .cons (.ty n) k1, by rw [k2]; rfl, fun m hm => by
            rcases List.mem_cons.mp hm with q | q
            · rw [q]; exact ty_mem hn
            · exact k3 m q⟩
      · have e1 : tyOf (.ty n) = none := if_neg hn
        rw [e1] at h
        cases h
    | _ => cases h
theorem kitAny_of (K : PySem.W.Frag) {t : String} (ht : t ∈ ["NoneType", "bool", "int", "str", "tuple", "list"]) : ∀ {ns : List String}, (∀ n ∈ ns, n ∈ tys) → PySem.W.kitAny K (.type t) (ns.map Value.type) = some (ns.any (isTy t))
  | [], _ => rfl
  | n :: ns, h => by
    have k := kit_fact K ht (h n (List.mem_cons_self ..))
    have ih := kitAny_of K ht fun m hm => h m (List.mem_cons_of_mem _ hm)
    rw [List.map_cons, List.any_cons]
    show (match PySem.W.kitOne K (.type t) (.type n) with | some true => some true | some false => PySem.W.kitAny K (.type t) (ns.map Value.type) | none => none) = _
    rw [k]
    cases isTy t n with
    | true => rfl
    | false => exact ih
def rIsiG (K : PySem.W.Frag) : List V → Hp → VK → Prop := fun xs H Q => rIsi K xs H Q ∨ rIsiT K xs H Q ∨ rIsiK K xs H Q
theorem call_isiG : CallR X (.builtin "isinstance") (rIsiG X.K) := car_or call_isi (car_or call_isiT call_isiK)
theorem cd_isi : CaD F (rIsiG F.K) isiD := cd2 fun s G H c d d' v v' res Q e vo r1 r2 eo w => by
  unfold isiX at eo
  cases et : tyN d with
  | none => rw [et] at eo; cases eo
  | some t =>
    rw [et] at eo
    obtain ⟨k1, k2⟩ := ty_rep e r1 et
    cases d' with
    | ty n =>
      have eo : (if tys.contains n then some (D.bl (isTy t n)) else none) = some res := eo
      by_cases hn : tys.contains n = true
      · rw [if_pos hn] at eo
        cases eo
        have ev : v' = .ty n := by
          rcases r2 with r | ⟨_, p, vs, ds, q, _⟩
          · exact r
          · cases q
        rw [ev]
        exact .inl ⟨v, .ty n, _, _, _, rfl, .ty n, k1, kit_fact F.K k2 (ty_mem hn), w.now e vo rfl⟩
      · rw [if_neg hn] at eo
        cases eo
    | tup cs =>
      have eo : ((tysOf cs).map fun ns => D.bl (ns.any (isTy t))) = some res := eo
      cases en : tysOf cs with
      | none => rw [en] at eo; cases eo
      | some ns =>
        rw [en] at eo
        cases eo
        rcases r2 with ⟨a, vs, rfl, h2, h3⟩ | ⟨_, p, vs, ds, q, _⟩
        · obtain ⟨us, m1, m2, m3⟩ := tysOf_rep h3 en
          rcases h2 with h2 | ⟨o, its, n, h2, h4, h5, h6, h7⟩
          · exact .inr (.inl ⟨v, a, vs, _, us, _, rfl, e a _ h2, m1, k1, by rw [m2]; exact kitAny_of F.K k2 m3, w.now e vo rfl⟩)
          · obtain ⟨oc, od, dt, sl⟩ := o
            simp only at h4 h5
            subst h4 h5
            have e3 := ClsV.all m1 h7
            refine .inr (.inr ⟨v, a, od, us, n, sl, _, _, rfl, ?_, k1, by rw [m2]; exact kitAny_of F.K k2 m3, w.now e vo rfl⟩)
            rw [h2, ← e3, Array.toArray_toList]
        · cases q
    | _ => cases eo
end
end FL

set_option Elab.async false
set_option linter.all false
set_option maxRecDepth 100000
set_option maxHeartbeats 1000000
/-! F7: methods of texts; raising and catching. -/
namespace FL
open PySem L2 PyProof.Rows
open Evl (Ex)
section
variable {F : FX} {X : Cx} {W : WX} {z b : Bool} {s : Option Addr} {G H : Hp} {c : CT} {o e : Expr} {pos apos cpos : Pos} {f g : ES}
def m1E (op : Str → D → Option D) (f g : ES) : ES := fun env => bnd (f env) fun d => match d with
  | .str x => bnd (g env) fun y => lft (op x y)
  | _ => bad
def m0E (op : Str → Option D) (f : ES) : ES := fun env => bnd (f env) fun d => match d with
  | .str x => lft (op x)
  | _ => bad
structure M1D (F : FX) (r : V → List V → Hp → VK → Prop) (op : Str → D → Option D) : Prop where
  run : ∀ (s : Option Addr) (G H : Hp) (c : CT) (x : Str) (d : D) (v : V) (res : D) (Q : VK), Ex G H → Vol F s c G H → RepB true F s G H d v → op x d = some res → Want F s G H c res Q → r (.str x) [v] H Q
structure M0D (F : FX) (r : V → List V → Hp → VK → Prop) (op : Str → Option D) : Prop where
  run : ∀ (s : Option Addr) (G H : Hp) (c : CT) (x : Str) (res : D) (Q : VK), Ex G H → Vol F s c G H → op x = some res → Want F s G H c res Q → r (.str x) [] H Q
theorem se_m1 {id : String} {name : Str} {r : V → List V → Hp → VK → Prop} {op : Str → D → Option D} (slot : Slot "str" name id) (ty : typeOf (.builtin id) = pure (.type "method_descriptor")) (rule : MtR X id r) (hd : M1D F r op) (ho : SE F X W true o f) (he : SE F X W true e g)
    (hs : starEach [e] X.env = [(false, eval e X.env)] := by rfl) (hbase : attributeBase o name X.env (eval o X.env) = eval o X.env := by rfl) (hline : (apos.endLine == pos.line) = true := by rfl) :
    SE F X W b (.Call (.Attribute o name apos) [e] [] pos) (m1E op f g) := ⟨pe_imp (pe_m1 slot ty rule ho.pe he.pe hs hbase hline) fun σ H Q ⟨B, s, env, G, c, co, q⟩ => ⟨B, s, env, G, c, co, wpR_mono (wpR_bnd q) (fun d c1 h1 v G1 H1 n1 r1 => by
      cases d with
      | str x =>
        refine ⟨⟨x, r1.str⟩, B, s, env, G1, c1, co.nxt n1, wpR_mono (wpR_bnd h1) (fun y c2 h2 u G2 H2 n2 r2 => ?_) fun _ _ w => w.nxt n1⟩
        obtain ⟨res, er, hq⟩ := wpR_lft h2
        rw [r1.str]
        exact hd.run s G2 H2 c2 x y u res Q n2.gh n2.vo r2 er fun v' G' H' n r => hq v' G' H' ((n1.trans n2).trans n) (.inl r)
      | _ => exact h1.elim) fun _ _ x => x⟩⟩
theorem se_m0 {id : String} {name : Str} {r : V → List V → Hp → VK → Prop} {op : Str → Option D} (slot : Slot "str" name id) (ty : typeOf (.builtin id) = pure (.type "method_descriptor")) (rule : MtR X id r) (hd : M0D F r op) (ho : SE F X W true o f)
    (hbase : attributeBase o name X.env (eval o X.env) = eval o X.env := by rfl) (hline : (apos.endLine == pos.line) = true := by rfl) :
    SE F X W b (.Call (.Attribute o name apos) [] [] pos) (m0E op f) := ⟨pe_imp (pe_m0 slot ty rule ho.pe hbase hline) fun σ H Q ⟨B, s, env, G, c, co, q⟩ => ⟨B, s, env, G, c, co, wpR_mono (wpR_bnd q) (fun d c1 h1 v G1 H1 n1 r1 => by
      cases d with
      | str x =>
        obtain ⟨res, er, hq⟩ := wpR_lft h1
        rw [r1.str]
        exact ⟨⟨x, rfl⟩, hd.run s G1 H1 c1 x res Q n1.gh n1.vo er fun v' G' H' n r => hq v' G' H' (n1.trans n) (.inl r)⟩
      | _ => exact h1.elim) fun _ _ x => x⟩⟩
/-- a text from two texts -/
def ssX (C : Str → Str → Bool) (h : Str → Str → D) : Str → D → Option D := fun x d => match d with
  | .str y => if C x y = true then some (h x y) else none
  | _ => none
theorem md_ss {r : V → List V → Hp → VK → Prop} {C : Str → Str → Bool} {h : Str → Str → D} (hr : ∀ (s : Option Addr) (G H : Hp) (c : CT) (x y : Str) (Q : VK), Ex G H → Vol F s c G H → C x y = true → Want F s G H c (h x y) Q → r (.str x) [.str y] H Q) : M1D F r (ssX C h) := ⟨fun s G H c x d v res Q e vo r1 eo w => by
  cases d with
  | str y =>
    have eo : (if C x y = true then some (h x y) else none) = some res := eo
    by_cases hc : C x y = true
    · rw [if_pos hc] at eo
      cases eo
      rw [r1.str]
      exact hr s G H c x y Q e vo hc w
    · rw [if_neg hc] at eo
      cases eo
  | _ => cases eo⟩
def endsX := ssX (fun _ _ => true) fun x y => .bl (Txt.endswith x y)
theorem md_ends : M1D F (fun x xs H Q => ∃ a b, x = .str a ∧ xs = [.str b] ∧ Q (.bl (Txt.endswith a b)) H) endsX := md_ss fun s G H c x y Q e vo _ w => ⟨x, y, rfl, rfl, w.now e vo rfl⟩
def startsX := ssX (fun _ _ => true) fun x y => .bl (Txt.startswith x y)
theorem md_starts : M1D F (fun x xs H Q => ∃ a b, x = .str a ∧ xs = [.str b] ∧ Q (.bl (Txt.startswith a b)) H) startsX := md_ss fun s G H c x y Q e vo _ w => ⟨x, y, rfl, rfl, w.now e vo rfl⟩
def lstripX := ssX (fun x _ => decide (x.length ≤ sizeLine)) fun x y => .str (Txt.lstripChars x y)
theorem md_lstrip : M1D F (fun x xs H Q => ∃ a b, x = .str a ∧ xs = [.str b] ∧ a.length ≤ sizeLine ∧ Q (.str (Txt.lstripChars a b)) H) lstripX := md_ss fun s G H c x y Q e vo h w => ⟨x, y, rfl, rfl, of_decide_eq_true h, w.now e vo rfl⟩
def rstripX := ssX (fun x _ => decide (x.length ≤ sizeLine)) fun x y => .str (Txt.rstripChars x y)
theorem md_rstrip : M1D F (fun x xs H Q => ∃ a b, x = .str a ∧ xs = [.str b] ∧ a.length ≤ sizeLine ∧ Q (.str (Txt.rstripChars a b)) H) rstripX := md_ss fun s G H c x y Q e vo h w => ⟨x, y, rfl, rfl, of_decide_eq_true h, w.now e vo rfl⟩
def stripX := ssX (fun x _ => decide (x.length ≤ sizeLine)) fun x y => .str (Txt.stripChars x y)
theorem md_strip : M1D F (fun x xs H Q => ∃ a b, x = .str a ∧ xs = [.str b] ∧ a.length ≤ sizeLine ∧ Q (.str (Txt.stripChars a b)) H) stripX := md_ss fun s G H c x y Q e vo h w => ⟨x, y, rfl, rfl, of_decide_eq_true h, w.now e vo rfl⟩
def rmpreX := ssX (fun x _ => decide (x.length ≤ sizeLine)) fun x y => .str (Txt.removeprefix x y)
theorem md_rmpre : M1D F (fun x xs H Q => ∃ a b, x = .str a ∧ xs = [.str b] ∧ a.length ≤ sizeLine ∧ Q (.str (Txt.removeprefix a b)) H) rmpreX := md_ss fun s G H c x y Q e vo h w => ⟨x, y, rfl, rfl, of_decide_eq_true h, w.now e vo rfl⟩
theorem strs_rep (ys : List Str) : RepL F s G (ys.map .str) (ys.map V.str) := by
  induction ys with
  | nil => exact (show ([] : List V) = [] from rfl)
  | cons n ns ih => exact (show ∃ v r, (V.str n :: ns.map V.str) = v :: r ∧ Rep F s G (D.str n) v ∧ RepL F s G (ns.map D.str) r from ⟨V.str n, ns.map V.str, rfl, rfl, ih⟩)
theorem strs_of : ∀ {ys : List Str} {vs : List V}, RepL F s G (ys.map .str) vs → vs = ys.map V.str
  | [], vs, h => by cases (show vs = [] from h); rfl
  | y :: ys, vs, h => by
    obtain ⟨v, r, ev, h1, h2⟩ := (show ∃ v r, vs = v :: r ∧ Rep F s G (D.str y) v ∧ RepL F s G (ys.map D.str) r from h)
    cases (show v = .str y from h1)
    rw [ev, strs_of h2]
    rfl
def splitX := ssX (fun x y => y.length != 0 && decide (x.length + 2 ≤ sizeLine)) fun x y => .lst ((Txt.split x y).map .str)
theorem md_split : M1D F (fun x xs H Q => ∃ a b, x = .str a ∧ xs = [.str b] ∧ (b.length == 0) = false ∧ a.length + 2 ≤ sizeLine ∧ rNewStrs (Txt.split a b) H Q) splitX := md_ss fun s G H c x y Q e vo h w => by
  rw [Bool.and_eq_true] at h
  refine ⟨x, y, rfl, rfl, ?_, of_decide_eq_true h.2, w.lst e vo (strs_rep _)⟩
  have := h.1
  simpa using this
def partX := ssX (fun x y => y.length != 0 && decide (x.length ≤ sizeLine)) fun x y => .tup [.str (Txt.partition x y).1, .str (Txt.partition x y).2.1, .str (Txt.partition x y).2.2]
theorem three {x y z : Str} : RepL F s G [D.str x, D.str y, D.str z] [V.str x, V.str y, V.str z] := strs_rep [x, y, z]
theorem md_part : M1D F (fun x xs H Q => ∃ a b, x = .str a ∧ xs = [.str b] ∧ (b.length == 0) = false ∧ a.length ≤ sizeLine ∧
    ∀ p, H p = none → Q (.ref p) (upd H p (.tup [.str (Txt.partition a b).1, .str (Txt.partition a b).2.1, .str (Txt.partition a b).2.2]))) partX := md_ss fun s G H c x y Q e vo h w => by
  rw [Bool.and_eq_true] at h
  refine ⟨x, y, rfl, rfl, ?_, of_decide_eq_true h.2, w.tup e vo three⟩
  have := h.1
  simpa using this
theorem mt_rpartition : MtR X "str.rpartition" (fun x xs H Q => ∃ a b, x = .str a ∧ xs = [.str b] ∧ (b.length == 0) = false ∧ a.length ≤ sizeLine ∧
    ∀ p, H p = none → Q (.ref p) (upd H p (.tup [.str (Txt.rpartition a b).1, .str (Txt.rpartition a b).2.1, .str (Txt.rpartition a b).2.2]))) := by
  intro pins s σ H x xs v us Q I rx rs h
  obtain ⟨a, b, rfl, rfl, hb, hz, h⟩ := h
  obtain ⟨t, rfl⟩ := rx
  cases rs with
  | cons r1 rs =>
    cases rs
    obtain ⟨u, rfl⟩ := r1
    refine call_meets F.slot_str_rpartition (typeIs_str _ _ _) F.entry_str_rpartition (F.args_str_rpartition_2 _ _) (meets_str_rpartition a b t u hb hz) ?_
    unfold Txt.rpartition at h
    revert h
    cases Builtin.Str.lastOccurrence a b 0 a.length with
    | none => intro h; exact laid_parts I h
    | some i => intro h; exact laid_parts I h
def rpartX := ssX (fun x y => y.length != 0 && decide (x.length ≤ sizeLine)) fun x y => .tup [.str (Txt.rpartition x y).1, .str (Txt.rpartition x y).2.1, .str (Txt.rpartition x y).2.2]
theorem md_rpart : M1D F (fun x xs H Q => ∃ a b, x = .str a ∧ xs = [.str b] ∧ (b.length == 0) = false ∧ a.length ≤ sizeLine ∧
    ∀ p, H p = none → Q (.ref p) (upd H p (.tup [.str (Txt.rpartition a b).1, .str (Txt.rpartition a b).2.1, .str (Txt.rpartition a b).2.2]))) rpartX := md_ss fun s G H c x y Q e vo h w => by
  rw [Bool.and_eq_true] at h
  refine ⟨x, y, rfl, rfl, ?_, of_decide_eq_true h.2, w.tup e vo three⟩
  have := h.1
  simpa using this
/-- the texts of data -/
def strsD : List D → Option (List Str)
  | [] => some []
  | .str x :: r => (strsD r).map (x :: ·)
  | _ :: _ => none
theorem strsD_eq : ∀ {ds : List D} {ys : List Str}, strsD ds = some ys → ds = ys.map .str
  | [], _, h => by cases h; rfl
  | d :: ds, ys, h => by
    cases d with
    | str x =>
      have h : (strsD ds).map (x :: ·) = some ys := h
      cases e : strsD ds with
      | none => rw [e] at h; cases h
      | some zs =>
        rw [e] at h
        cases h
        rw [strsD_eq e]
        rfl
    | _ => cases h
def joinX (x : Str) (d : D) : Option D := match d with
  | .lst ds => match strsD ds with
    | some ys => if (ys.map (·.length)).sum + ys.length * x.length ≤ 16777216 then some (.str (Txt.join x ys)) else none
    | none => none
  | .tup ds => match strsD ds with
    | some ys => if (ys.map (·.length)).sum + ys.length * x.length ≤ 16777216 then some (.str (Txt.join x ys)) else none
    | none => none
  | _ => none
theorem md_join : M1D F (fun x xs H Q => ∃ a p, ∃ ys : List Str, x = .str a ∧ xs = [.ref p] ∧ (SqL F.K H p (ys.map V.str) ∨ SqT F.K H p (ys.map V.str)) ∧
      (ys.map (·.length)).sum + ys.length * a.length ≤ 16777216 ∧ Q (.str (Txt.join a ys)) H) joinX := ⟨fun s G H c x d v res Q e vo r1 eo w => by
  cases d with
  | lst ds =>
    unfold joinX at eo
    simp only at eo
    cases es : strsD ds with
    | none => rw [es] at eo; cases eo
    | some ys =>
      rw [es] at eo
      simp only at eo
      by_cases hz : (ys.map (·.length)).sum + ys.length * x.length ≤ 16777216
      · rw [if_pos hz] at eo
        cases eo
        obtain ⟨a, vs, rfl, h2, h3⟩ := r1.list e
        rw [strsD_eq es] at h3
        have ev := strs_of h3
        subst ev
        exact ⟨x, a, ys, rfl, rfl, .inl (.inl (.inl h2)), hz, w.now e vo rfl⟩
      · rw [if_neg hz] at eo
        cases eo
  | tup ds =>
    unfold joinX at eo
    simp only at eo
    cases es : strsD ds with
    | none => rw [es] at eo; cases eo
    | some ys =>
      rw [es] at eo
      simp only at eo
      by_cases hz : (ys.map (·.length)).sum + ys.length * x.length ≤ 16777216
      · rw [if_pos hz] at eo
        cases eo
        obtain ⟨a, vs, rfl, h2, h3⟩ := r1.tup e
        rw [strsD_eq es] at h3
        have ev := strs_of h3
        subst ev
        exact ⟨x, a, ys, rfl, rfl, .inr h2, hz, w.now e vo rfl⟩
      · rw [if_neg hz] at eo
        cases eo
  | _ => cases eo⟩
/-- s.split(t), a list of this def's own -/
def splitO (f g : ES) : AS := fun env => bnd (f env) fun d => match d with
  | .str x => bnd (g env) fun y => match y with
    | .str y => if (y.length != 0 && decide (x.length + 2 ≤ sizeLine)) = true then ret ((Txt.split x y).map .str) else bad
    | _ => bad
  | _ => bad
theorem own_new {ds : List D} {vs : List V} {G1 H1 : Hp} {c1 : CT} (n : Nxt F s G H s G1 H1 c1) (r : RepL F s G1 ds vs) {Q : VK} (h : ∀ p vs G' H', Nxt F s G H s G' H' c1 → s ≠ some p → H p = none → G' p = none → H' p = some (.lst vs) → RepL F s G' ds vs → Q (.ref p) H') : ∀ p, H1 p = none → Q (.ref p) (upd H1 p (.lst vs)) := fun p hp => by
  refine h p vs G1 _ (n.newO hp) (fun z => ?_) (n.back hp) ?_ upd_same r
  · obtain ⟨_, m, _, k⟩ := n.vo.sp p z
    rw [hp] at k
    cases k
  · cases e : G1 p with
    | none => rfl
    | some o =>
      have := n.gh p o e
      rw [hp] at this
      cases this
theorem so_split (ho : SE F X W true o f) (he : SE F X W true e g) (hs : starEach [e] X.env = [(false, eval e X.env)] := by rfl) (hbase : attributeBase o "split" X.env (eval o X.env) = eval o X.env := by rfl) (hline : (apos.endLine == pos.line) = true := by rfl) :
    SO F X W (.Call (.Attribute o "split" apos) [e] [] pos) (splitO f g) := ⟨pe_imp (pe_split ho.pe he.pe hs hbase hline) fun σ H Q ⟨B, s, env, G, c, co, q⟩ => ⟨B, s, env, G, c, co, wpR_mono (wpR_bnd q) (fun d c1 h1 v G1 H1 n1 r1 => by
      cases d with
      | str x =>
        refine ⟨⟨x, r1.str⟩, B, s, env, G1, c1, co.nxt n1, wpR_mono (wpR_bnd h1) (fun y c2 h2 u G2 H2 n2 r2 => ?_) fun _ _ w => w.nxt n1⟩
        rw [r1.str]
        cases y with
        | str y =>
          by_cases hc : (y.length != 0 && decide (x.length + 2 ≤ sizeLine)) = true
          · have h2 : wpR ((if (y.length != 0 && decide (x.length + 2 ≤ sizeLine)) = true then ret ((Txt.split x y).map D.str) else bad) c2) _ _ := h2
            rw [if_pos hc] at h2
            rw [r2.str]
            have hc' := hc
            rw [Bool.and_eq_true] at hc'
            refine ⟨x, y, rfl, rfl, by simpa using hc'.1, of_decide_eq_true hc'.2, own_new (n1.trans n2) (strs_rep _) h2⟩
          · have h2 : wpR ((if (y.length != 0 && decide (x.length + 2 ≤ sizeLine)) = true then ret ((Txt.split x y).map D.str) else bad) c2) _ _ := h2
            rw [if_neg hc] at h2
            exact h2.elim
        | _ => exact h2.elim
      | _ => exact h1.elim) fun _ _ x => x⟩⟩
end
end FL

set_option Elab.async false
set_option linter.all false
set_option maxRecDepth 100000
set_option maxHeartbeats 2000000
/-! G1: generator expressions. -/
namespace FL
open PySem PySem.Spec L2 PyProof.Rows GenW
open Evl (Ex)

/-- the context of a generator expression that was made in the state s -/
abbrev Cxg (X : Cx) (Ag : Around) (s : Shared) (H : Hp) (cenv : Env) (fp : List Addr) : Cx :=
  { X with A := Ag, s_0 := s, H_0 := H, env := cenv, outer := X.stack, stack := cenv :: X.stack, ex := fp, fn := fun _ => false, calm := true, pn := [], xe := fun _ _ => False }
section
variable {X : Cx} {pins : List (Addr × Obj)} {σ : L2.St} {H : Hp} {s s' : Shared}
theorem gen_start {scope : Scope} {own : List (Str × Nat)} {fp : List Addr} {Ag : Around} {code : Value} {m : Str → Option Value} (I : Inv X pins σ H s) (ok : BlkOk X.N X.env.scope scope own) (hN : X.N.Nodup) (hcell : ∀ y ∈ scope.names, y.2 ≠ .cell)
    (hfp : ∀ b ∈ fp, FpOk X pins H b ∧ b < s.heap.objs.size) (hA : Ag.handled = none)
    (hfr : Ag.frames = some (genEnv scope (cloFrom X.env.cells scope.names []) s.heap.objs.size code builtinsNs X.env :: X.stack))
    (kp : ∀ b o, s.heap.get? b = some o → s'.heap.get? b = some o) (hos : s'.os = s.os) (hb : AllBare s'.gens) (hn : s'.heap.Ns s.heap.objs.size m) :
    Inv (Cxg X Ag s H (genEnv scope (cloFrom X.env.cells scope.names []) s.heap.objs.size code builtinsNs X.env) fp) [] (wipe σ (own.map (·.2))) H s' := by
  have hfree : ∀ y ∈ scope.names, y.2 = .free → ∃ c, X.env.cells.lookup y.1 = some c := fun y hy e => by
    rcases ok.free y hy e with k | k
    · exact I.ok.has _ (.inl k)
    · exact I.ok.has _ (.inr k)
  generalize hcenv : genEnv scope (cloFrom X.env.cells scope.names []) s.heap.objs.size code builtinsNs X.env = cenv at hfr ⊢
  have hL : cenv.locals = s.heap.objs.size := by rw [← hcenv]; rfl
  have hcl : cenv.cells = cloFrom X.env.cells scope.names [] := by rw [← hcenv]; rfl
  have hsc : cenv.scope = scope := by rw [← hcenv]; rfl
  have cm : ∀ {y c}, (y, c) ∈ cloFrom X.env.cells scope.names [] → X.env.cells.lookup y = some c ∧ c < s.heap.objs.size := fun {y c} hm => by
    rcases cloFrom_mem hm with hm | ⟨h1, rfl⟩
    · cases hm
    · obtain ⟨c, hc⟩ := hfree _ h1 rfl
      rw [hc]
      obtain ⟨w, z⟩ := I.cell _ _ hc
      exact ⟨rfl, z.lt⟩
  have mem : ∀ {y c}, cenv.cells.lookup y = some c → X.env.cells.lookup y = some c ∧ c < s.heap.objs.size := fun {y c} e => by
    rw [hcl] at e
    exact cm (PySem.mem_of_lookup e)
  have look : ∀ {y}, scope.names.lookup y = some .free → ∃ c, cenv.cells.lookup y = some c ∧ X.env.cells.lookup y = some c := fun {y} hl => by
    have hy : (y, NameKind.free) ∈ scope.names := PySem.mem_of_lookup hl
    obtain ⟨c', e'⟩ := mem_lookup (cloFrom_has (cells := X.env.cells) (acc := []) hy)
    rw [← hcl] at e'
    exact ⟨c', e', (mem e').1⟩
  have okB : (Cxg X Ag s H cenv fp).Ok := by
    refine ⟨I.ok.mod, by show cenv.scope.kind = _; rw [hsc]; exact ok.kind, by show cenv.globals = _; rw [← hcenv]; exact I.ok.glob, by show cenv.builtins = _; rw [← hcenv]; rfl, by show s.heap.objs.size ≤ cenv.locals; rw [hL]; exact Nat.le_refl _,
      fun y z c e1 e2 => ?_, fun y hy => ?_, fun y c z e => ?_, fun _ => hA, hfr, .inr ⟨rfl, ?_⟩, fun b hb => ⟨?_, fun y c e z => ?_⟩, I.bs, Nat.le_trans I.ok.bsz I.sz, fun b o e hb => ?_, fun b hb z => ?_, I.stack, I.stkFree⟩
    · exact I.ok.inj y z c (mem e1).1 (mem e2).1
    · show ∃ c, cenv.cells.lookup y = some c
      have hy : scope.names.lookup y = some .cell ∨ scope.names.lookup y = some .free := by
        have hy : cenv.kindOf y = some .cell ∨ cenv.kindOf y = some .free := hy
        unfold Env.kindOf at hy
        rw [hsc] at hy
        exact hy
      rcases hy with hy | hy
      · exact absurd rfl (hcell _ (PySem.mem_of_lookup hy))
      · obtain ⟨c, h1, _⟩ := look hy
        exact ⟨c, h1⟩
    · cases z
    · show cenv.frame = some cenv.locals
      rw [← hcenv]; rfl
    · show b ≠ cenv.locals
      rw [hL]; exact Nat.ne_of_lt (hfp b hb).2
    · exact (hfp b hb).1.2.2.2.2.1 y c (mem e).1 z
    · rcases (hfp b hb).1.2.2.2.1 with z | z
      · exact I.ok.noex b o e z
      · exact absurd (Nat.lt_of_lt_of_le (Heap.lt_size e) (Nat.le_trans I.ok.bsz z)) (Nat.lt_irrefl _)
    · rcases List.mem_cons.mp (I.stkSub b z) with z | z
      · exact (hfp b hb).1.2.1 z
      · exact (hfp b hb).1.2.2.1 z
  refine ⟨okB, hos, hb, Un.kept kp, ⟨m, by show s'.heap.Ns cenv.locals m; rw [hL]; exact hn, fun i y av e1 e2 e3 => ?_⟩, fun y c e => ?_, ?_, fun y c e => ?_, fun p hp => ?_, I.hok.kept kp, by rw [wipe_length]; exact I.len⟩
  · obtain ⟨e2, hne⟩ := wipe_some e2
    have no : ∀ k, scope.names.lookup y = some k → k = .local ∨ k = .cell → False := fun k e hh => by
      rcases ok.own _ (PySem.mem_of_lookup e) hh with e' | e'
      · obtain ⟨p, hp, hpy⟩ := List.mem_map.mp e'
        have e3 := ok.ix p hp
        have : p.1 = y := hpy
        rw [this] at e3
        exact hne (List.mem_map.mpr ⟨p, hp, nodup_ix hN e3 e1⟩)
      · exact e' (List.mem_of_getElem? e1)
    have e3 : Vis scope y := by
      have e3 : Vis cenv.scope y := e3
      rw [hsc] at e3
      exact e3
    have hfr : scope.names.lookup y = some .free := by
      rcases e3 with e3 | e3 | e3
      · exact (no _ e3 (.inl rfl)).elim
      · exact (no _ e3 (.inr rfl)).elim
      · exact e3
    obtain ⟨m, hn, hl⟩ := I.loc
    have hvis : Vis X.env.scope y := (ok.free _ (PySem.mem_of_lookup hfr) rfl).elim (fun k => .inr (.inl k)) (fun k => .inr (.inr k))
    obtain ⟨w, r, q⟩ := hl i y av e1 e2 hvis
    have hk : cenv.kindOf y = some .free := by
      unfold Env.kindOf
      rw [hsc]; exact hfr
    refine ⟨w, r, .inr ⟨.inr hk, ?_⟩⟩
    obtain ⟨c, h1, h2⟩ := look hfr
    rcases q with ⟨k, _⟩ | ⟨_, c', e', z⟩
    · have k : X.env.scope.names.lookup y = some .local := k
      rcases ok.free _ (PySem.mem_of_lookup hfr) rfl with k' | k' <;> rw [show X.env.scope.names.lookup y = _ from k'] at k <;> cases k
    · rw [h2] at e'; cases e'
      exact ⟨c, h1, z.keeps kp⟩
  · obtain ⟨w, z⟩ := I.cell y c (mem e).1
    exact ⟨w, z.keeps kp⟩
  · show H cenv.locals = none
    rw [hL]; exact I.hok.fresh (Nat.le_refl _)
  · exact I.freeC y c (mem e).1
  · exact absurd (show p ∈ ([] : List (Addr × Obj)) ++ [] from hp) (by simp)
/-! ### the generator's run -/
/-- what stands while it sleeps: n items to come at most -/
def GSt (Xg : Cx) (gp : List (Addr × Obj)) (σw : L2.St) (fp : List Addr) (tn : Nat → Heap → Prop) (W : Nat → Nat → Nat → Hp → Prop) (n : Nat) (s : Shared) : Prop :=
  ∃ i m H, Inv Xg gp σw H s ∧ tn i s.heap ∧ (∀ b ∈ fp, H b = none) ∧ W i m n H
def GEnd (Xg : Cx) (gp : List (Addr × Obj)) (σw : L2.St) (Fin : Hp → Prop) : GenEnd := fun _ _ r s1 => ((r = .ok (.ret .none) ∨ r = .ok .next) ∧ ∃ H', Inv Xg gp σw H' s1 ∧ Fin H') ∨ ∃ e, r = .error e ∧ False
def GPro (Xg : Cx) (gp : List (Addr × Obj)) (σw : L2.St) (St : Nat → Shared → Prop) (Yd : Nat → V → Hp → Prop) (Brk : V → Hp → Prop) : Protocol := fun n _ v s1 kap =>
  ∃ y H', RelV y v ∧ Inv Xg gp σw H' s1 ∧ ((Yd (n + 1) y H' ∧ St n s1 ∧ ∀ s'', St n s'' → kap (.send .none) s'') ∨ Brk y H')
/-- the readings of a turn -/
def GTurn (J : It) (W : Nat → Nat → Nat → Hp → Prop) (g : TG) (tt : TT) (te : TE) (σw : L2.St) (vs : List Nat) (Fin : Hp → Prop) (Yd : Nat → V → Hp → Prop) (Brk : V → Hp → Prop) : Prop :=
  ∀ i m n H, W i m n H → (J.stop i H ∧ Fin H) ∨ (J.go i H ∧ ∀ x H', J.yld i H x H' → g x σw H' fun σ2 H2 => wipe σ2 vs = σw ∧ tt σ2 H2 fun b H3 =>
    if b = true then te σ2 H3 fun y H4 => 0 < n ∧ ((Yd n y H4 ∧ ∃ m', m' < m ∧ W (i + 1) m' (n - 1) H4) ∨ Brk y H4) else ∃ m', m' < m ∧ W (i + 1) m' n H3)
theorem gen_seg {Xg : Cx} {A0 : Around} {elt tg iter : Expr} {ifs : List Expr} {scope : Scope} {gpos : Pos} {it : Addr} {fp : List Addr} {tn : Nat → Heap → Prop} {J : It} {W : Nat → Nat → Nat → Hp → Prop} {g : TG} {tt : TT} {te : TE} {σw : L2.St} {vs : List Nat} {Fin : Hp → Prop} {Yd : Nat → V → Hp → Prop} {Brk : V → Hp → Prop} {gp : List (Addr × Obj)}
    (hA : Xg.A = A0.over (.compLoop (.GeneratorExp elt [⟨tg, iter, ifs, 0⟩] scope gpos) 0 (.ref it) .none Xg.env) []) (hco : Xg.env.scope.isCoroutine = false) (hcalm : Xg.calm = true) (hxe : Xg.xe = fun _ _ => False)
    (T : Turn Xg.prog Xg.w Xg.K tg J fp it tn) (hst : ∀ {σ' : L2.St} {H' : Hp} {s' : Shared}, Inv Xg gp σ' H' s' → (∀ b ∈ fp, H' b = none) → ∀ b ∈ fp, FpOk Xg gp H' b)
    (hg : PG Xg tg g) (ht : PTs Xg ifs tt) (he : PE Xg elt te) (hwv : wipe σw vs = σw) (turn : GTurn J W g tt te σw vs Fin Yd Brk) :
    ∀ (n m i : Nat) (s₀ s : Shared) (H : Hp), Inv Xg gp σw H s → tn i s.heap → (∀ b ∈ fp, H b = none) → W i m n H →
      Seg (model Xg.prog Xg.w) A0 (GEnd Xg gp σw Fin) (GPro Xg gp σw (GSt Xg gp σw fp tn W) Yd Brk) n s₀
        (.compLoop (.GeneratorExp elt [⟨tg, iter, ifs, 0⟩] scope gpos) 0 (.ref it) .none Xg.env)
        ((model Xg.prog Xg.w).den (.compLoop (.GeneratorExp elt [⟨tg, iter, ifs, 0⟩] scope gpos) 0 (.ref it) .none Xg.env)) [] s := by
  intro n
  induction n using Nat.strongRecOn with
  | ind n ihn =>
  intro m
  induction m using Nat.strongRecOn with
  | ind m ih =>
    intro i s₀ s H I st nfp w
    show Seg _ A0 _ _ _ s₀ _ ((compTurn (.GeneratorExp elt [⟨tg, iter, ifs, 0⟩] scope gpos) 0 (.ref it) .none Xg.env).onRaise (leaving Xg.env)) [] s
    rw [compTurn_gen, Sem.onRaise_eq_wrap]
    refine seg_bind_wrap (wpAny_standAt ?_)
    rcases turn i m n H w with ⟨stop, qq⟩ | ⟨go, step⟩
    · refine seg_bind_wrap ?_
      rw [← hA]
      refine thnF (T.done Xg rfl rfl rfl hcalm i gp s σw H (fun _ _ => False) I (hst I nfp) st stop) fun r s6 ⟨hr, I6⟩ => ?_
      subst hr
      exact seg_end (.ok .next) (.inl ⟨.inr rfl, H, I6, qq⟩)
    · refine seg_bind_wrap ?_
      rw [← hA]
      refine thnF (T.item Xg rfl rfl rfl hcalm i gp s σw H (fun _ _ => False) I (hst I nfp) st go) fun r s6 ⟨u, hr, h6⟩ => ?_
      subst hr
      refine seg_bind_wrap ?_
      rw [← hA]
      refine thnF h6 fun _ s7 ⟨x, H7, I7, r7, y7, st7, n7⟩ => ?_
      have I7' := I7.pinned (hst I7 n7) (T.obj _ _ st7)
      have pgr := hg.run _ s7 _ H7 x u _ I7' r7 (step x H7 y7)
      rw [hxe] at pgr
      refine seg_bind_wrap ?_
      rw [← hA]
      refine thnF pgr fun _ s8 ⟨σ8, H8, I8, hw8, q8⟩ => ?_
      have ptr := ht.run _ s8 σ8 H8 _ I8 q8
      rw [hxe] at ptr
      refine seg_bind_wrap ?_
      rw [← hA]
      refine thnF ptr fun b s9 ⟨H9, I9, q9⟩ => ?_
      have fin : ∀ {s' : Shared} {H' : Hp}, Inv Xg (gp ++ pinsAt fp s7.heap) σ8 H' s' → Inv Xg gp σw H' s' ∧ tn (i + 1) s'.heap ∧ ∀ b ∈ fp, H' b = none := fun {s' H'} I' => by
        have pin' : ∀ b ∈ fp, ∀ o, s7.heap.get? b = some o → s'.heap.get? b = some o ∧ H' b = none := fun b hb o e =>
          let z := I'.pin (b, o) (List.mem_append_right _ (List.mem_append_right _ (mem_pinsAt hb e)))
          ⟨z.1, z.2.1⟩
        refine ⟨(I'.unpinned (pins := gp)).weak (by rw [← hw8, wipe_length]) fun j v e => ?_, T.keep _ _ _ st7 fun b hb o e => (pin' b hb o e).1, fun b hb => ?_⟩
        · rw [← hw8] at e
          exact (wipe_some e).1
        · obtain ⟨o, e, _⟩ := T.obj _ _ st7 b hb
          exact (pin' b hb o e).2
      cases b with
      | false =>
        simp only [Bool.false_eq_true, if_false] at q9 ⊢
        obtain ⟨m', hm, w'⟩ := q9
        obtain ⟨I10, st10, n10⟩ := fin I9
        exact seg_again rfl (ih m' hm (i + 1) s₀ s9 H9 I10 st10 n10 w')
      | true =>
        simp only [if_true] at q9 ⊢
        have hy : ∀ v, yieldOut Xg.env v = yieldValue v := fun v => by simp only [yieldOut, hco, Bool.false_eq_true, if_false]
        simp only [hy]
        rw [Sem.bind_eq_wrap', Sem.bind_eq_wrap', Sem.wrap_wrap, Sem.wrap_wrap]
        have per := he.run _ s9 σ8 H9 _ I9 q9
        rw [hxe] at per
        refine seg_wrap ?_
        rw [← hA]
        refine thnF per fun z s10 ⟨y, H10, I10, r10, n0, q10⟩ => ?_
        obtain ⟨I11, st11, n11⟩ := fin I10
        obtain ⟨n, rfl⟩ : ∃ k, n = k + 1 := ⟨n - 1, by omega⟩
        refine seg_at (seg_yield rfl rfl rfl ⟨y, H10, r10, I11, ?_⟩)
        rcases q10 with ⟨hyd, m', hm, w'⟩ | hbr
        · refine .inl ⟨hyd, ⟨i + 1, m', H10, I11, st11, n11, w'⟩, fun s'' hs'' => ?_⟩
          obtain ⟨i2, m2, H2, I2, st2, n2, w2⟩ := hs''
          exact seg_again rfl (ihn n (Nat.lt_succ_self n) m2 i2 s'' s'' H2 I2 st2 n2 w2)
        · exact .inr hbr
end
theorem gen_segS {Xg : Cx} {A0 : Around} {elt tg iter : Expr} {ifs : List Expr} {scope : Scope} {gpos : Pos} {it : Addr} {fp : List Addr} {tn : Nat → Heap → Prop} {J : It} {W : Nat → Nat → Nat → Hp → Prop} {g : TG} {tt : TT} {te : TE} {σw : L2.St} {vs : List Nat} {Fin : Hp → Prop} {Yd : Nat → V → Hp → Prop} {Brk : V → Hp → Prop} {gp : List (Addr × Obj)}
    (hA : Xg.A = A0.over (.compLoop (.GeneratorExp elt [⟨tg, iter, ifs, 0⟩] scope gpos) 0 (.ref it) .none Xg.env) []) (hco : Xg.env.scope.isCoroutine = false) (hcalm : Xg.calm = true) (hxe : Xg.xe = fun _ _ => False)
    (T : Turn Xg.prog Xg.w Xg.K tg J fp it tn) (hst : ∀ {σ' : L2.St} {H' : Hp} {s' : Shared}, Inv Xg gp σ' H' s' → (∀ b ∈ fp, H' b = none) → ∀ b ∈ fp, FpOk Xg gp H' b)
    (hg : PG Xg tg g) (ht : PTs Xg ifs tt) (he : PE Xg elt te) (hwv : wipe σw vs = σw) (turn : GTurn J W g tt te σw vs Fin Yd Brk)
    (n : Nat) (s₀ s : Shared) (h : GSt Xg gp σw fp tn W n s) :
      Seg (model Xg.prog Xg.w) A0 (GEnd Xg gp σw Fin) (GPro Xg gp σw (GSt Xg gp σw fp tn W) Yd Brk) n s₀
        (.compStart (.GeneratorExp elt [⟨tg, iter, ifs, 0⟩] scope gpos) 0 (.ref it) .none Xg.env)
        ((model Xg.prog Xg.w).den (.compStart (.GeneratorExp elt [⟨tg, iter, ifs, 0⟩] scope gpos) 0 (.ref it) .none Xg.env)) [] s := by
  obtain ⟨i, m, H, I, st, nfp, w⟩ := h
  have loop := gen_seg hA hco hcalm hxe T hst hg ht he hwv turn n m i s₀ s H I st nfp w
  show Seg _ A0 _ _ _ s₀ _ ((compStart (.GeneratorExp elt [⟨tg, iter, ifs, 0⟩] scope gpos) 0 (.ref it) .none Xg.env).onRaise (leaving Xg.env)) [] s
  unfold compStart
  rw [Sem.onRaise_eq_wrap]
  show Seg _ A0 _ _ _ s₀ _ ((ask >>= _).wrap _ _ _ _) [] s
  refine seg_bind_wrap (wpAny_askSetting ?_)
  split
  · exact seg_again rfl loop
  · first
      | exact seg_bind_wrap (wpAny_rule (seg_bind_wrap (wpAny_standAt (seg_bind_wrap (T.self _ i s _ _ st (seg_again rfl loop))))))
      | (refine seg_bind_wrap (wpAny_rule ?_); show Seg _ A0 _ _ _ s₀ _ ((standAt iter.pos >>= _).wrap _ _ _ _) [] s; exact seg_bind_wrap (wpAny_standAt (seg_bind_wrap (T.self _ i s _ _ st (seg_again rfl loop)))))

/-! ### what walks it -/
/-- the generator at a, number g, n items to come at most -/
def GAt (M : Model) (Aw : Around) (R : GenEnd) (Y : Protocol) (a : Addr) (g : Nat) (St : Nat → Shared → Prop) (n : Nat) (s : Shared) : Prop :=
  St n s ∧ ∃ gs, s.gens[g]? = some gs ∧ ∀ s'', St n s'' → gs.Goes M Aw R Y n (.send .none) s''
theorem GSt.gens {Xg : Cx} {gp : List (Addr × Obj)} {σw : L2.St} {fp : List Addr} {tn : Nat → Heap → Prop} {W : Nat → Nat → Nat → Hp → Prop} {n : Nat} {s : Shared} {g' : Array GenState} (h : GSt Xg gp σw fp tn W n s) (hb : AllBare g') : GSt Xg gp σw fp tn W n { s with gens := g' } := by
  obtain ⟨i, m, H, I, st, nfp, w⟩ := h
  exact ⟨i, m, H, I.call' (s' := { s with gens := g' }) (ch := []) rfl Un.refl I.hok hb fun b z => by simp at z, st, nfp, w⟩
theorem inv_gens {Xg : Cx} {gp : List (Addr × Obj)} {σ : L2.St} {H : Hp} {s : Shared} {g' : Array GenState} (I : Inv Xg gp σ H s) (hb : AllBare g') : Inv Xg gp σ H { s with gens := g' } :=
  I.call' (s' := { s with gens := g' }) (ch := []) rfl Un.refl I.hok hb fun b z => by simp at z
theorem gen_next {Xg : Cx} {A : Around} {gp : List (Addr × Obj)} {σw : L2.St} {fp : List Addr} {tn : Nat → Heap → Prop} {W : Nat → Nat → Nat → Hp → Prop} {Fin : Hp → Prop} {Yd : Nat → V → Hp → Prop} {Brk : V → Hp → Prop} {a : Addr} {g n : Nat} {s : Shared} {E : Value → Shared → Prop} {Q : Option Value → Shared → Prop}
    (hh : A.handled = none) (hd : A.depth < recursionLimit) (hgen : ∀ {σ' : L2.St} {H' : Hp} {s' : Shared}, Inv Xg gp σ' H' s' → s'.heap.IsGen a g)
    (h : GAt (model Xg.prog Xg.w) A.in1 (GEnd Xg gp σw Fin) (GPro Xg gp σw (GSt Xg gp σw fp tn W) Yd Brk) a g (GSt Xg gp σw fp tn W) n s)
    (hN : ∀ H' s', Inv Xg gp σw H' s' → Fin H' → Q none s')
    (hY : ∀ y v H' s' k, n = k + 1 → RelV y v → Inv Xg gp σw H' s' → Yd n y H' → GAt (model Xg.prog Xg.w) A.in1 (GEnd Xg gp σw Fin) (GPro Xg gp σw (GSt Xg gp σw fp tn W) Yd Brk) a g (GSt Xg gp σw fp tn W) k s' → Q (some v) s')
    (hB : ∀ y v H' s', RelV y v → Inv Xg gp σw H' s' → Brk y H' → Q (some v) s') :
    wpAny (model Xg.prog Xg.w) A (pyNext (.ref a)) Q E s := by
  obtain ⟨hst, gs, hgs, hgo⟩ := h
  obtain ⟨i, m, H, I, st, nfp, w⟩ := id hst
  have hgl : g < s.gens.size := (Array.getElem?_eq_some_iff.mp hgs).1
  have hrun : GSt Xg gp σw fp tn W n (s.setGen g .running) := hst.gens (allBare_setGen I.bare rfl)
  refine wpAny_gsz (n := g + 1) hgl (next_genG (A := A) (Er := fun _ _ => False) (F := fun _ _ s₁ => ∃ H', Inv Xg gp σw H' s₁ ∧ Fin H') hh I.nolimit hd (hgen I) hgs (hgo _ hrun) (fun v s₁ gs' hbare hv => ?_) (fun s₁ hp h' hk => ?_) fun e s₁ he => he.elim)
  · intro hsz
    obtain ⟨y, H', r, I', q⟩ := hv
    have hsz1 : g < s₁.gens.size := by
      have q : (s₁.setGen g gs').gens.size = s₁.gens.size := setGen_size _ _ _
      have hsz' : g + 1 ≤ (s₁.setGen g gs').gens.size := hsz
      omega
    have I2 := inv_gens I' (allBare_setGen (s := s₁) (g := g) (x := gs') I'.bare hbare)
    rcases q with ⟨hyd, hst1, hk⟩ | hbr
    · cases n with
      | zero =>
        exact (hk s₁ hst1).elim
      | succ k =>
        exact hY y v H' _ k rfl r I2 hyd ⟨hst1.gens (allBare_setGen (s := s₁) (g := g) (x := gs') I'.bare hbare), gs', setGen_at hsz1, hk⟩
    · exact hB y v H' _ r I2 hbr
  · intro hsz
    obtain ⟨H', I', hF⟩ := hp
    refine hN H' _ ?_ hF
    exact Inv.kept (t' := s₁.toks) (inv_gens I' (allBare_setGen (s := s₁) (g := g) (x := .finished) I'.bare rfl)) hk
/-! ### its making -/
theorem wipe_set (σ : L2.St) (v : Nat) : ∀ vs : List Nat, wipe (σ.set v none) vs = (wipe σ vs).set v none
  | [] => rfl
  | u :: vs => by
    show (wipe (σ.set v none) vs).set u none = ((wipe σ vs).set u none).set v none
    rw [wipe_set σ v vs]
    by_cases h : v = u
    · subst h; rfl
    · rw [List.set_comm _ _ h]
theorem wipe_wipe (σ : L2.St) : ∀ vs : List Nat, wipe (wipe σ vs) vs = wipe σ vs
  | [] => rfl
  | v :: vs => by
    show (wipe ((wipe σ vs).set v none) vs).set v none = (wipe σ vs).set v none
    rw [wipe_set, wipe_wipe σ vs, List.set_set]
theorem genexp_env {A : Around} {e it : Expr} {gs : List Comprehension} {scope : Scope} {gpos : Pos} {x y : Value} {env : Env} (l : List Env) (hf : A.frames = some l) : (A.over (.compLoop (.GeneratorExp e gs scope gpos) 0 x y env) []).frames = some (env :: l) ∧ (A.over (.compLoop (.GeneratorExp e gs scope gpos) 0 x y env) []).depth = A.depth + 1 ∧ (A.over (.compLoop (.GeneratorExp e gs scope gpos) 0 x y env) []).units = A.units + 3 ∧ (A.over (.compLoop (.GeneratorExp e gs scope gpos) 0 x y env) []).handled = A.handled := by
  refine ⟨?_, rfl, rfl, rfl⟩
  show pushEnvs [env] (pushEnvs [] A.frames) = some (env :: l)
  rw [hf]
  rfl
/-- a generator that is ready to be walked at Aw -/
def GReady (X : Cx) (pins : List (Addr × Obj)) (σ : L2.St) (Aw : Around) (n0 : Nat) (Fin : Hp → Prop) (Yd : Nat → V → Hp → Prop) (Brk : V → Hp → Prop) (a : Addr) (s5 : Shared) : Prop :=
  ∃ (Xg : Cx) (gp : List (Addr × Obj)) (σw : L2.St) (fp : List Addr) (tn : Nat → Heap → Prop) (W : Nat → Nat → Nat → Hp → Prop) (g : Nat), Xg.prog = X.prog ∧ Xg.w = X.w ∧
    (∀ (σ' : L2.St) (H' : Hp) (s' : Shared), Inv Xg gp σ' H' s' → s'.heap.IsGen a g) ∧ (∀ (σ' : L2.St) (H' : Hp) (s' : Shared), Inv Xg gp σ' H' s' → Inv X pins σ H' s') ∧
    GAt (model Xg.prog Xg.w) Aw (GEnd Xg gp σw Fin) (GPro Xg gp σw (GSt Xg gp σw fp tn W) Yd Brk) a g (GSt Xg gp σw fp tn W) n0 s5
section
variable {X : Cx} {pins : List (Addr × Obj)} {σ : L2.St} {H : Hp} {s : Shared}
theorem gen_make {c P : Addr} {elt tg iter : Expr} {ifs : List Expr} {scope : Scope} {own : List (Str × Nat)} {gpos : Pos} {wi : TI} {g : TG} {tt : TT} {te : TE} {k : Nat} {Aw : Around} {Q' : Value → Shared → Prop} {Con : Nat → (Hp → Prop) → (Nat → V → Hp → Prop) → (V → Hp → Prop) → Prop}
    (hX : X.calm = true) (hr : Room (k + 1) Aw) (hd : X.A.depth < recursionLimit) (hfr : Aw.frames = some X.stack) (TB : GxR.TabB X.base X.mg c P) (hcode : X.env.code = .ref c) (hco : scope.isCoroutine = false) (h0 : scope.names.lookup (".0" : Str) = some NameKind.local)
    (hcell : ∀ y ∈ scope.names, y.2 ≠ .cell) (hN : X.N.Nodup) (ok : BlkOk X.N X.env.scope scope own) (hi : PI X tg iter wi)
    (hg : ∀ (Ag : Around) (s : Shared) (H : Hp) (C : Addr) (cl : List (Str × Addr)) (code : Value) (fp : List Addr), Room k Ag → PG (Cxg X Ag s H (genEnv scope cl C code builtinsNs X.env) fp) tg g)
    (ht : ∀ (Ag : Around) (s : Shared) (H : Hp) (C : Addr) (cl : List (Str × Addr)) (code : Value) (fp : List Addr), Room k Ag → PTs (Cxg X Ag s H (genEnv scope cl C code builtinsNs X.env) fp) ifs tt)
    (he : ∀ (Ag : Around) (s : Shared) (H : Hp) (C : Addr) (cl : List (Str × Addr)) (code : Value) (fp : List Addr), Room k Ag → PE (Cxg X Ag s H (genEnv scope cl C code builtinsNs X.env) fp) elt te)
    (hs : ∀ v, genFold iter X.env v = pure v) (I : Inv X pins σ H s)
    (h : wi σ H fun J H1 => GxR.TabG H1 P ∧ ∃ (W : Nat → Nat → Nat → Hp → Prop) (n0 : Nat) (Fin : Hp → Prop) (Yd : Nat → V → Hp → Prop) (Brk : V → Hp → Prop), (∀ H2, GxR.Tabbed P H1 H2 → ∃ m, W 0 m n0 H2) ∧ GTurn J W g tt te (wipe σ (own.map (·.2))) (own.map (·.2)) Fin Yd Brk ∧ Con n0 Fin Yd Brk)
    (hQ : ∀ n0 Fin Yd Brk a s5, Con n0 Fin Yd Brk → s5.heap.NoLimit → GReady X pins σ Aw n0 Fin Yd Brk a s5 → (∃ gn, s5.heap.IsGen a gn) → Q' (.ref a) s5) :
    wpAny (model X.prog X.w) X.A (eval (.GeneratorExp elt [⟨tg, iter, ifs, 0⟩] scope gpos) X.env) Q' X.xe s := by
  have hfree : ∀ y ∈ scope.names, y.2 = .free → ∃ c, X.env.cells.lookup y.1 = some c := fun y hy e => by
    rcases ok.free y hy e with k | k
    · exact I.ok.has _ (.inl k)
    · exact I.ok.has _ (.inr k)
  refine wpAny_GeneratorExp_make hco (closure_ok hfree) hcell h0 ok.kind hd ?_ hs
  refine thn (hi.run pins s σ H _ I h) fun xv s1 hx => thn hx fun itv s2 h2 => ?_
  obtain ⟨it, fp, tn, J, H2, e, I2, T, st2, f2, ⟨ps, hP, htr⟩, W, n0, Fin, Yd, Brk, hW, turn, hCon⟩ := h2
  subst e
  refine ⟨I2.nolimit, ?_⟩
  have hPs : s2.heap.get? P = some { cls := .none, data := .fields ps } := I2.hok P _ hP
  have sz : ∀ b ∈ fp, b < s2.heap.objs.size := fun b hb => by
    obtain ⟨o, e, _⟩ := T.obj _ _ st2 b hb
    exact Heap.lt_size e
  have cont : ∀ (code : Value) (H3 : Hp) (s3 : Shared), Inv X pins σ H3 s3 → GxR.Tabbed P H2 H3 → tn 0 s3.heap → (∀ b ∈ fp, b < s3.heap.objs.size) →
      wpAny (model X.prog X.w) X.A (builtinsFor X.env.globals X.env.builtins) (fun bi s₄ => ∀ h', h'.Ns s₄.heap.objs.size (fun y => if y = ".0" then some (.ref it) else none) → Heap.SameBut s₄.heap.objs.size (s₄.heap.push { cls := .type "frame", data := .dict #[] }) h' →
          Q' (.ref h'.objs.size) { s₄ with
            gens := s₄.gens.push (.fresh (.compStart (.GeneratorExp elt [⟨tg, iter, ifs, 0⟩] scope gpos) 0 (.ref it) .none (genEnv scope (cloFrom X.env.cells scope.names []) s₄.heap.objs.size code bi X.env))),
            toks := s₄.toks + 1 + 1 + 1,
            heap := h'.push { cls := .type "generator", data := .fields #[.int s₄.gens.size 0, .str "<genexpr>" (s₄.toks + 1), .str (X.env.qual ++ "<genexpr>") (s₄.toks + 1 + 1)] } }) X.xe s3 := by
    intro code H3 s3 I3 hT st3 sz3
    obtain ⟨bm, ob, e1, e2, e3, e4, e5, e6, e7, e8⟩ := TB.bm
    refine wpAny_builtinsFor (m := X.mg) (by rw [I3.ok.glob]; exact I3.mod.glob.keeps I3.bk) e1 e2 (I3.bk _ _ e5) e6 e7 e8 ?_
    intro h' hn' hs'
    have hsz : h'.objs.size = s3.heap.objs.size + 1 := by rw [hs'.1, Heap.size_push]
    have keep' : ∀ b o, s3.heap.get? b = some o → h'.get? b = some o := fun b o e => hs'.extBut b o (Nat.ne_of_lt (Heap.lt_size e)) (Heap.get?_push_of_some _ e)
    generalize hgo : ({ cls := .type "generator", data := .fields #[.int s3.gens.size 0, .str "<genexpr>" (s3.toks + 1), .str (X.env.qual ++ "<genexpr>") (s3.toks + 1 + 1)] } : Obj) = go
    have hgoc : go.cls = .type "generator" := by rw [← hgo]
    have hgod : go.data = .fields #[.int s3.gens.size 0, .str "<genexpr>" (s3.toks + 1), .str (X.env.qual ++ "<genexpr>") (s3.toks + 1 + 1)] := by rw [← hgo]
    have hgos : go.slots = #[] := by rw [← hgo]
    have keep5 : ∀ b o, s3.heap.get? b = some o → (h'.push go).get? b = some o := fun b o e => Heap.get?_push_of_some _ (keep' b o e)
    have hgat : (h'.push go).get? h'.objs.size = some go := Heap.get?_push_size _ (by rw [← hgo]; rfl)
    generalize hs5 : ({ s3 with gens := s3.gens.push (.fresh (.compStart (.GeneratorExp elt [⟨tg, iter, ifs, 0⟩] scope gpos) 0 (.ref it) .none (genEnv scope (cloFrom X.env.cells scope.names []) s3.heap.objs.size code builtinsNs X.env))), toks := s3.toks + 1 + 1 + 1, heap := h'.push go } : Shared) = s5
    have h5 : s5.heap = h'.push go := by rw [← hs5]
    have g5 : s5.gens = s3.gens.push (.fresh (.compStart (.GeneratorExp elt [⟨tg, iter, ifs, 0⟩] scope gpos) 0 (.ref it) .none (genEnv scope (cloFrom X.env.cells scope.names []) s3.heap.objs.size code builtinsNs X.env))) := by rw [← hs5]
    have o5 : s5.os = s3.os := by rw [← hs5]
    have fp3 : ∀ b ∈ fp, FpOk X pins H3 b ∧ b < s3.heap.objs.size := fun b hb => by
      refine ⟨⟨?_, (f2 b hb).2⟩, sz3 b hb⟩
      by_cases z : b = P
      · have := (f2 b hb).1
        rw [z, hP] at this
        cases this
      · rw [hT.2 b z]
        exact (f2 b hb).1
    generalize hce : genEnv scope (cloFrom X.env.cells scope.names []) s3.heap.objs.size code builtinsNs X.env = ce at g5
    obtain ⟨q1, q2, q3, q4⟩ := genexp_env (A := Aw) (e := elt) (it := iter) (gs := [⟨tg, iter, ifs, 0⟩]) (scope := scope) (gpos := gpos) (x := .ref it) (y := .none) (env := ce) X.stack hfr
    have hrg : Room k (Aw.over (.compLoop (.GeneratorExp elt [⟨tg, iter, ifs, 0⟩] scope gpos) 0 (.ref it) .none ce) []) := by
      refine ⟨by rw [q4]; exact hr.hd, ?_, ?_⟩
      · have := hr.dp; rw [q2]; omega
      · have := hr.un; rw [q3]; omega
    have I5 : Inv (Cxg X (Aw.over (.compLoop (.GeneratorExp elt [⟨tg, iter, ifs, 0⟩] scope gpos) 0 (.ref it) .none ce) []) s3 H3 ce fp) [] (wipe σ (own.map (·.2))) H3 s5 := by
      subst hce
      exact gen_start I3 ok hN hcell fp3 (by rw [q4]; exact hr.hd) q1 (fun b o e => by rw [h5]; exact keep5 b o e) o5 (by rw [g5]; exact I3.bare.push rfl) (by rw [h5]; exact hn'.push _)
    have pg := hg _ s3 H3 s3.heap.objs.size (cloFrom X.env.cells scope.names []) code fp hrg
    have pt := ht _ s3 H3 s3.heap.objs.size (cloFrom X.env.cells scope.names []) code fp hrg
    have pe := he _ s3 H3 s3.heap.objs.size (cloFrom X.env.cells scope.names []) code fp hrg
    rw [hce] at pg pt pe
    have hce' : ce.scope = scope := by rw [← hce]; rfl
    have hceL : ce.locals = s3.heap.objs.size := by rw [← hce]; rfl
    have hceC : ce.cells = cloFrom X.env.cells scope.names [] := by rw [← hce]; rfl
    have I6 : Inv (Cxg X (Aw.over (.compLoop (.GeneratorExp elt [⟨tg, iter, ifs, 0⟩] scope gpos) 0 (.ref it) .none ce) []) s3 H3 ce fp) [(h'.objs.size, go)] (wipe σ (own.map (·.2))) H3 s5 := by
      refine I5.pins_of fun p hp => ?_
      rw [List.mem_singleton.mp hp]
      refine ⟨by rw [h5]; exact hgat, I3.hok.fresh (by rw [hsz]; exact Nat.le_succ _), ?_, ?_, fun v z => by rw [hgod] at z; cases z⟩
      · show h'.objs.size ≠ ce.locals
        rw [hceL, hsz]; exact Nat.succ_ne_self _
      · show h'.objs.size ∉ frs X.stack
        intro z
        rcases List.mem_cons.mp (I3.stkSub _ z) with z | z
        · have := I3.lt
          rw [← z, hsz] at this
          exact absurd this (Nat.not_lt.mpr (Nat.le_succ _))
        · exact I3.nofs (a := h'.objs.size) (by rw [hsz]; exact Nat.le_succ _) z
    have genAt : ∀ (σ' : L2.St) (H' : Hp) (s' : Shared), Inv (Cxg X (Aw.over (.compLoop (.GeneratorExp elt [⟨tg, iter, ifs, 0⟩] scope gpos) 0 (.ref it) .none ce) []) s3 H3 ce fp) [(h'.objs.size, go)] σ' H' s' → s'.heap.IsGen h'.objs.size s3.gens.size := fun σ' H' s' J => by
      have z := J.pin (h'.objs.size, go) (List.mem_append_right _ (List.mem_singleton.mpr rfl))
      exact ⟨go, _, _, z.1, hgoc, hgod, hgos⟩
    have back : ∀ (σ' : L2.St) (H' : Hp) (s' : Shared), Inv (Cxg X (Aw.over (.compLoop (.GeneratorExp elt [⟨tg, iter, ifs, 0⟩] scope gpos) 0 (.ref it) .none ce) []) s3 H3 ce fp) [(h'.objs.size, go)] σ' H' s' → Inv X pins σ H' s' := fun σ' H' s' J =>
      I3.call' (ch := fp) J.os J.base J.hok J.bare fun b hb => ⟨(fp3 b hb).1.2.2.2.1, (fp3 b hb).1.2.1, (fp3 b hb).1.2.2.2.2.1, (fp3 b hb).1.2.2.2.2.2⟩
    have stat : ∀ {σ' : L2.St} {H' : Hp} {s' : Shared}, Inv (Cxg X (Aw.over (.compLoop (.GeneratorExp elt [⟨tg, iter, ifs, 0⟩] scope gpos) 0 (.ref it) .none ce) []) s3 H3 ce fp) [(h'.objs.size, go)] σ' H' s' → (∀ b ∈ fp, H' b = none) → ∀ b ∈ fp, FpOk (Cxg X (Aw.over (.compLoop (.GeneratorExp elt [⟨tg, iter, ifs, 0⟩] scope gpos) 0 (.ref it) .none ce) []) s3 H3 ce fp) [(h'.objs.size, go)] H' b := fun {σ' H' s'} I' hn b hb =>
      ⟨hn b hb, (I'.ok.exf b hb).1, I'.ok.exfs b hb, .inl hb, fun x c e => (I'.ok.exf b hb).2 x c e, fun p hp z => by
        have hp : p ∈ ([] : List (Addr × Obj)) ++ [(h'.objs.size, go)] := hp
        rw [List.nil_append] at hp
        rw [List.mem_singleton.mp hp] at z
        have z : h'.objs.size = b := z
        have := (fp3 b hb).2
        rw [← z, hsz] at this
        exact absurd this (Nat.not_lt.mpr (Nat.le_succ _))⟩
    obtain ⟨m0, w0⟩ := hW H3 hT
    have st5 : tn 0 s5.heap := T.keep _ _ _ st3 fun b _ o e => by rw [h5]; exact keep5 b o e
    refine hQ n0 Fin Yd Brk h'.objs.size s5 hCon I5.nolimit ⟨_, [(h'.objs.size, go)], wipe σ (own.map (·.2)), fp, tn, W, s3.gens.size, ?_, ?_, genAt, back, ⟨⟨0, m0, H3, I6, st5, fun b hb => (fp3 b hb).1.1, w0⟩, GenState.fresh (.compStart (.GeneratorExp elt [⟨tg, iter, ifs, 0⟩] scope gpos) 0 (.ref it) .none ce), ?_, fun s'' hs'' => ?_⟩⟩ ⟨_, genAt _ _ _ I6⟩
    · rfl
    · rfl
    · rw [g5]; exact Array.getElem?_push_size ..
    · refine ⟨rfl, ?_⟩
      have hwv : wipe (wipe σ (own.map (·.2))) (own.map (·.2)) = wipe σ (own.map (·.2)) := wipe_wipe _ _
      exact gen_segS (Xg := Cxg X (Aw.over (.compLoop (.GeneratorExp elt [⟨tg, iter, ifs, 0⟩] scope gpos) 0 (.ref it) .none ce) []) s3 H3 ce fp) (A0 := Aw) rfl (by show ce.scope.isCoroutine = false; rw [hce']; exact hco) rfl rfl T stat pg pt pe hwv turn n0 s'' s'' hs''
  cases hf : codeAmong gpos ps.toList with
  | none =>
    have cd : PySem.W.CodeHd s2.heap c P := TB.code.keeps fun b u e => I2.bk b u e
    refine wpAny_genexprCodeX hcode (cd.code hPs htr) (cd.tab hPs) hf fun c' h' tk hx hge hlt hco' _ htab' _ => ?_
    obtain ⟨o1, vs, f1, tf, fl, tg', inF, tx, tt', op, _, _, _, _, _, _, _, _, _, htr', _⟩ := hco'
    have I3 := GxR.inv_tab (h' := h') (g' := s2.gens) (d' := s2.drawn) (t' := tk) I2 hP (fun b u hb e => hx b u hb e) htab'.2 I2.bare
    exact cont _ _ _ I3 ⟨⟨_, upd_same, htr'⟩, fun b hb => upd_ne hb⟩ (T.keep _ _ _ st2 fun b hb o e => hx b o (fun z => by
      have := (f2 b hb).1
      rw [z, hP] at this
      cases this) e) fun b hb => Nat.lt_of_lt_of_le (sz b hb) (Nat.le_trans hge (Nat.le_of_lt hlt))
  | some cv =>
    refine wpAny_genexprCode_hit hcode ((TB.code.keeps fun b u e => I2.bk b u e).code hPs htr) hf ?_
    exact cont cv H2 s2 I2 ⟨⟨ps, hP, htr⟩, fun _ _ => rfl⟩ st2 sz
end
end FL

set_option Elab.async false
set_option linter.all false
set_option maxRecDepth 100000
set_option maxHeartbeats 2000000
/-! G2: all, any of a generator expression. -/
namespace FL
open PySem PySem.Spec L2 PyProof.Rows GenW
open Evl (Ex)
section
variable {Xg : Cx} {A : Around} {gp : List (Addr × Obj)} {σw : L2.St} {fp : List Addr} {tn : Nat → Heap → Prop} {W : Nat → Nat → Nat → Hp → Prop} {Fin : Hp → Prop} {Yd : Nat → V → Hp → Prop} {Brk : V → Hp → Prop} {a : Addr} {g : Nat} {R : Result → Shared → Prop}
theorem all_loop (hh : A.handled = none) (hd : A.depth < recursionLimit) (hgen : ∀ {σ' : L2.St} {H' : Hp} {s' : Shared}, Inv Xg gp σ' H' s' → s'.heap.IsGen a g)
    (tr : ∀ n y H, Yd n y H → y = .bl true) (br : ∀ y H, Brk y H → y = .bl false)
    (hF : ∀ H' s', Inv Xg gp σw H' s' → Fin H' → R (.ok (.ret (.bool true))) s') (hB : ∀ y H' s', Inv Xg gp σw H' s' → Brk y H' → R (.ok (.ret (.bool false))) s') :
    ∀ (n : Nat) (s : Shared), GAt (model Xg.prog Xg.w) A.in1.in1 (GEnd Xg gp σw Fin) (GPro Xg gp σw (GSt Xg gp σw fp tn W) Yd Brk) a g (GSt Xg gp σw fp tn W) n s →
      codeAny (model Xg.prog Xg.w) A (.builtin "all.loop" ⟨[.ref a], []⟩) R s := by
  intro n
  induction n with
  | zero =>
    intro s h
    refine codeAny_builtin F.entry_all_loop ?_
    rw [Around.under_plainId F.plain_all_loop _]
    show wpAny _ A.in1 (pyNext (.ref a) >>= _) _ _ s
    refine wpAny_bind (gen_next (A := A.in1) hh hd hgen h (fun H' s' I' q => ?_) (fun y v H' s' k hk => by omega) fun y v H' s' r I' q => ?_)
    · exact wpAny_bind (wpAny_rule (wpAny_pure (hF H' s' I' q)))
    · have e := br _ _ q
      subst e
      cases (show v = Value.bool false from r)
      refine wpAny_bind (wpAny_holding (wpAny_truthy_bool ?_))
      refine wpAny_bind (wpAny_letGo ?_)
      simp only [Bool.false_eq_true, if_false]
      exact wpAny_bind (wpAny_rule (wpAny_pure (hB _ H' s' I' q)))
  | succ n ih =>
    intro s h
    refine codeAny_builtin F.entry_all_loop ?_
    rw [Around.under_plainId F.plain_all_loop _]
    show wpAny _ A.in1 (pyNext (.ref a) >>= _) _ _ s
    refine wpAny_bind (gen_next (A := A.in1) hh hd hgen h (fun H' s' I' q => ?_) (fun y v H' s' k hk r I' q h' => ?_) fun y v H' s' r I' q => ?_)
    · exact wpAny_bind (wpAny_rule (wpAny_pure (hF H' s' I' q)))
    · have e := tr _ _ _ q
      subst e
      cases (show v = Value.bool true from r)
      cases hk
      refine wpAny_bind (wpAny_holding (wpAny_truthy_bool ?_))
      refine wpAny_bind (wpAny_letGo ?_)
      simp only [if_true]
      exact wpAny_pure ⟨plainId_quiet F.plain_all_loop _, ih _ h'⟩
    · have e := br _ _ q
      subst e
      cases (show v = Value.bool false from r)
      refine wpAny_bind (wpAny_holding (wpAny_truthy_bool ?_))
      refine wpAny_bind (wpAny_letGo ?_)
      simp only [Bool.false_eq_true, if_false]
      exact wpAny_bind (wpAny_rule (wpAny_pure (hB _ H' s' I' q)))
theorem any_loop (hh : A.handled = none) (hd : A.depth < recursionLimit) (hgen : ∀ {σ' : L2.St} {H' : Hp} {s' : Shared}, Inv Xg gp σ' H' s' → s'.heap.IsGen a g)
    (tr : ∀ n y H, Yd n y H → y = .bl false) (br : ∀ y H, Brk y H → y = .bl true)
    (hF : ∀ H' s', Inv Xg gp σw H' s' → Fin H' → R (.ok (.ret (.bool false))) s') (hB : ∀ y H' s', Inv Xg gp σw H' s' → Brk y H' → R (.ok (.ret (.bool true))) s') :
    ∀ (n : Nat) (s : Shared), GAt (model Xg.prog Xg.w) A.in1.in1 (GEnd Xg gp σw Fin) (GPro Xg gp σw (GSt Xg gp σw fp tn W) Yd Brk) a g (GSt Xg gp σw fp tn W) n s →
      codeAny (model Xg.prog Xg.w) A (.builtin "any.loop" ⟨[.ref a], []⟩) R s := by
  intro n
  induction n with
  | zero =>
    intro s h
    refine codeAny_builtin F.entry_any_loop ?_
    rw [Around.under_plainId F.plain_any_loop _]
    show wpAny _ A.in1 (pyNext (.ref a) >>= _) _ _ s
    refine wpAny_bind (gen_next (A := A.in1) hh hd hgen h (fun H' s' I' q => ?_) (fun y v H' s' k hk => by omega) fun y v H' s' r I' q => ?_)
    · exact wpAny_bind (wpAny_rule (wpAny_pure (hF H' s' I' q)))
    · have e := br _ _ q
      subst e
      cases (show v = Value.bool true from r)
      refine wpAny_bind (wpAny_holding (wpAny_truthy_bool ?_))
      refine wpAny_bind (wpAny_letGo ?_)
      simp only [if_true]
      exact wpAny_bind (wpAny_rule (wpAny_pure (hB _ H' s' I' q)))
  | succ n ih =>
    intro s h
    refine codeAny_builtin F.entry_any_loop ?_
    rw [Around.under_plainId F.plain_any_loop _]
    show wpAny _ A.in1 (pyNext (.ref a) >>= _) _ _ s
    refine wpAny_bind (gen_next (A := A.in1) hh hd hgen h (fun H' s' I' q => ?_) (fun y v H' s' k hk r I' q h' => ?_) fun y v H' s' r I' q => ?_)
    · exact wpAny_bind (wpAny_rule (wpAny_pure (hF H' s' I' q)))
    · have e := tr _ _ _ q
      subst e
      cases (show v = Value.bool false from r)
      cases hk
      refine wpAny_bind (wpAny_holding (wpAny_truthy_bool ?_))
      refine wpAny_bind (wpAny_letGo ?_)
      simp only [Bool.false_eq_true, if_false]
      exact wpAny_pure ⟨plainId_quiet F.plain_any_loop _, ih _ h'⟩
    · have e := br _ _ q
      subst e
      cases (show v = Value.bool true from r)
      refine wpAny_bind (wpAny_holding (wpAny_truthy_bool ?_))
      refine wpAny_bind (wpAny_letGo ?_)
      simp only [if_true]
      exact wpAny_bind (wpAny_rule (wpAny_pure (hB _ H' s' I' q)))
end
/-- the reading: k what decides (all: False, any: True) -/
abbrev QuCon (k : Bool) (Q : VK) : Nat → (Hp → Prop) → (Nat → V → Hp → Prop) → (V → Hp → Prop) → Prop := fun _ Fin Yd Brk => (∀ H, Fin H → Q (.bl (!k)) H) ∧ (∀ n y H, Yd n y H → y = .bl (!k)) ∧ ∀ y H, Brk y H → y = .bl k ∧ Q (.bl k) H
def tQuG (P : Addr) (k : Bool) (wi : TI) (g : TG) (tt : TT) (te : TE) (vs : List Nat) : TE := fun σ H Q =>
  wi σ H fun J H1 => GxR.TabG H1 P ∧ ∃ (W : Nat → Nat → Nat → Hp → Prop) (n0 : Nat) (Fin : Hp → Prop) (Yd : Nat → V → Hp → Prop) (Brk : V → Hp → Prop), (∀ H2, GxR.Tabbed P H1 H2 → ∃ m, W 0 m n0 H2) ∧ GTurn J W g tt te (wipe σ vs) vs Fin Yd Brk ∧ QuCon k Q n0 Fin Yd Brk
section
variable {X : Cx} {c P : Addr} {elt tg iter : Expr} {ifs : List Expr} {scope : Scope} {own : List (Str × Nat)} {gpos p pos : Pos} {wi : TI} {g : TG} {tt : TT} {te : TE} {k : Nat}
theorem pe_allG (hX : X.calm = true) (hr : Room (k + 1 + 1) X.A) (hgl : Gl X "all") (hm : X.mg "all" = none) (hb : bootBuiltins "all" = some (.builtin "all")) (TB : GxR.TabB X.base X.mg c P) (hcode : X.env.code = .ref c) (hco : scope.isCoroutine = false) (h0 : scope.names.lookup (".0" : Str) = some NameKind.local)
    (hcell : ∀ y ∈ scope.names, y.2 ≠ .cell) (hN : X.N.Nodup) (ok : BlkOk X.N X.env.scope scope own) (hi : PI X tg iter wi)
    (hg : ∀ (Ag : Around) (s : Shared) (H : Hp) (C : Addr) (cl : List (Str × Addr)) (code : Value) (fp : List Addr), Room k Ag → PG (Cxg X Ag s H (genEnv scope cl C code builtinsNs X.env) fp) tg g)
    (ht : ∀ (Ag : Around) (s : Shared) (H : Hp) (C : Addr) (cl : List (Str × Addr)) (code : Value) (fp : List Addr), Room k Ag → PTs (Cxg X Ag s H (genEnv scope cl C code builtinsNs X.env) fp) ifs tt)
    (he : ∀ (Ag : Around) (s : Shared) (H : Hp) (C : Addr) (cl : List (Str × Addr)) (code : Value) (fp : List Addr), Room k Ag → PE (Cxg X Ag s H (genEnv scope cl C code builtinsNs X.env) fp) elt te)
    (hs : ∀ v, genFold iter X.env v = pure v)
    (hse : starEach [.GeneratorExp elt [⟨tg, iter, ifs, 0⟩] scope gpos] X.env = (false, eval (.GeneratorExp elt [⟨tg, iter, ifs, 0⟩] scope gpos) X.env) :: starEach [] X.env := by rfl) :
    PE X (.Call (.Name "all" p) [.GeneratorExp elt [⟨tg, iter, ifs, 0⟩] scope gpos] [] pos) (tQuG P false wi g tt te (own.map (·.2))) := by
  refine ⟨fun pins s σ H Q I h => ?_⟩
  refine wpAny_Call_Name_kw (ld_blt I hgl hm hb ?_)
  refine PyProof.Rows.callWith_builtin1 ?_ hse (by rfl)
  rw [hse]
  show wpAny _ _ (spliced ((false, eval (.GeneratorExp elt [⟨tg, iter, ifs, 0⟩] scope gpos) X.env) :: backTo pos (starEach [] X.env))) _ _ s
  have hr2 : Room (k + 1) X.A.in1.in1 := ⟨hr.hd, by have := hr.dp; show X.A.depth + _ + _ < _; omega, by have := hr.un; show X.A.units + 1 + 1 + _ + _ < _; omega⟩
  refine Calls.spliced_cons (gen_make (Aw := X.A.in1.in1) (Con := QuCon false Q) hX hr2 hr.depth I.ok.frames TB hcode hco h0 hcell hN ok hi hg ht he hs I h fun n0 Fin Yd Brk a s5 hcon hl hG hgen => ?_)
  refine Calls.spliced_nil ?_
  obtain ⟨Xg, gp, σw, fp, tn, W, gn, e1, e2, q1, q2, q3⟩ := hG
  obtain ⟨c1, c2, c3⟩ := hcon
  rw [e1, e2] at q3
  show wpAny (model X.prog X.w) X.A (call (.builtin "all") [.ref a]) _ _ _
  refine call_function_tree F.kind_all F.plain_all F.entry_all (F.args_all1 _) ?_
  unfold Builtin.«all»
  refine wpAny_bind (m := oneArg "all" _) (wpAny_pure ?_)
  obtain ⟨gn', hgen⟩ := hgen
  refine wpAny_bind (wpAny_pyIter_gen hgen ?_)
  have z := all_loop (Xg := Xg) (A := X.A) hr.hd hr.depth (R := fun r s' => match r with | .ok (.ret v) => EP X pins σ Q v s' | .ok _ => False | .error e => X.xe e s') (fun J => q1 _ _ _ J) c2 (fun y H h => (c3 y H h).1) (fun H' s' J h => ⟨.bl true, H', q2 _ _ _ J, rfl, c1 H' h⟩) (fun y H' s' J h => ⟨.bl false, H', q2 _ _ _ J, rfl, (c3 y H' h).2⟩) n0 s5 (by rw [e1, e2]; exact q3)
  rw [e1, e2] at z
  exact wpAny_pure ⟨plainId_quiet F.plain_all_loop _, z⟩
theorem pe_anyG (hX : X.calm = true) (hr : Room (k + 1 + 1) X.A) (hgl : Gl X "any") (hm : X.mg "any" = none) (hb : bootBuiltins "any" = some (.builtin "any")) (TB : GxR.TabB X.base X.mg c P) (hcode : X.env.code = .ref c) (hco : scope.isCoroutine = false) (h0 : scope.names.lookup (".0" : Str) = some NameKind.local)
    (hcell : ∀ y ∈ scope.names, y.2 ≠ .cell) (hN : X.N.Nodup) (ok : BlkOk X.N X.env.scope scope own) (hi : PI X tg iter wi)
    (hg : ∀ (Ag : Around) (s : Shared) (H : Hp) (C : Addr) (cl : List (Str × Addr)) (code : Value) (fp : List Addr), Room k Ag → PG (Cxg X Ag s H (genEnv scope cl C code builtinsNs X.env) fp) tg g)
    (ht : ∀ (Ag : Around) (s : Shared) (H : Hp) (C : Addr) (cl : List (Str × Addr)) (code : Value) (fp : List Addr), Room k Ag → PTs (Cxg X Ag s H (genEnv scope cl C code builtinsNs X.env) fp) ifs tt)
    (he : ∀ (Ag : Around) (s : Shared) (H : Hp) (C : Addr) (cl : List (Str × Addr)) (code : Value) (fp : List Addr), Room k Ag → PE (Cxg X Ag s H (genEnv scope cl C code builtinsNs X.env) fp) elt te)
    (hs : ∀ v, genFold iter X.env v = pure v)
    (hse : starEach [.GeneratorExp elt [⟨tg, iter, ifs, 0⟩] scope gpos] X.env = (false, eval (.GeneratorExp elt [⟨tg, iter, ifs, 0⟩] scope gpos) X.env) :: starEach [] X.env := by rfl) :
    PE X (.Call (.Name "any" p) [.GeneratorExp elt [⟨tg, iter, ifs, 0⟩] scope gpos] [] pos) (tQuG P true wi g tt te (own.map (·.2))) := by
  refine ⟨fun pins s σ H Q I h => ?_⟩
  refine wpAny_Call_Name_kw (ld_blt I hgl hm hb ?_)
  refine PyProof.Rows.callWith_builtin1 ?_ hse (by rfl)
  rw [hse]
  show wpAny _ _ (spliced ((false, eval (.GeneratorExp elt [⟨tg, iter, ifs, 0⟩] scope gpos) X.env) :: backTo pos (starEach [] X.env))) _ _ s
  have hr2 : Room (k + 1) X.A.in1.in1 := ⟨hr.hd, by have := hr.dp; show X.A.depth + _ + _ < _; omega, by have := hr.un; show X.A.units + 1 + 1 + _ + _ < _; omega⟩
  refine Calls.spliced_cons (gen_make (Aw := X.A.in1.in1) (Con := QuCon true Q) hX hr2 hr.depth I.ok.frames TB hcode hco h0 hcell hN ok hi hg ht he hs I h fun n0 Fin Yd Brk a s5 hcon hl hG hgen => ?_)
  refine Calls.spliced_nil ?_
  obtain ⟨Xg, gp, σw, fp, tn, W, gn, e1, e2, q1, q2, q3⟩ := hG
  obtain ⟨c1, c2, c3⟩ := hcon
  rw [e1, e2] at q3
  show wpAny (model X.prog X.w) X.A (call (.builtin "any") [.ref a]) _ _ _
  refine call_function_tree F.kind_any F.plain_any F.entry_any (F.args_any1 _) ?_
  unfold Builtin.«any»
  refine wpAny_bind (m := oneArg "any" _) (wpAny_pure ?_)
  obtain ⟨gn', hgen⟩ := hgen
  refine wpAny_bind (wpAny_pyIter_gen hgen ?_)
  have z := any_loop (Xg := Xg) (A := X.A) hr.hd hr.depth (R := fun r s' => match r with | .ok (.ret v) => EP X pins σ Q v s' | .ok _ => False | .error e => X.xe e s') (fun J => q1 _ _ _ J) c2 (fun y H h => (c3 y H h).1) (fun H' s' J h => ⟨.bl false, H', q2 _ _ _ J, rfl, c1 H' h⟩) (fun y H' s' J h => ⟨.bl true, H', q2 _ _ _ J, rfl, (c3 y H' h).2⟩) n0 s5 (by rw [e1, e2]; exact q3)
  rw [e1, e2] at z
  exact wpAny_pure ⟨plainId_quiet F.plain_any_loop _, z⟩
end
end FL

set_option Elab.async false
set_option linter.all false
set_option maxRecDepth 100000
set_option maxHeartbeats 2000000
/-! G3: all, any of a generator expression as functions of data. -/
namespace FL
open PySem L2 PyProof.Rows
open Evl (Ex)
section
variable {F : FX} {s s1 : Option Addr} {G H G1 H1 H2 : Hp} {c1 : CT}
theorem Nxt.tab {P : Addr} (n : Nxt F s G H s1 G1 H1 c1) (hP : P ∈ F.TL) (ht : GxR.Tabbed P H1 H2) : Nxt F s G H s1 G1 H2 c1 where
  g := n.g
  h := fun a o h1 h2 e => by
    rw [ht.2 a fun z => h2 (z ▸ hP)]
    exact n.h a o h1 h2 e
  gh := fun a o e => by
    rw [ht.2 a fun z => ?_]
    · exact n.gh a o e
    · rw [z, (n.vo.tb P hP).1] at e
      cases e
  nw := n.nw
  vo := ⟨fun a e => by
    obtain ⟨h1, m, h3, h2⟩ := n.vo.sp a e
    refine ⟨h1, m, h3, ?_⟩
    rw [ht.2 a fun z => ?_]
    · exact h2
    · obtain ⟨ps, q, _⟩ := (n.vo.tb P hP).2
      rw [z, q] at h2
      exact (nomatch h2), fun P' hP' => by
    obtain ⟨h1, h2⟩ := n.vo.tb P' hP'
    refine ⟨h1, ?_⟩
    by_cases z : P' = P
    · rw [z]; exact ht.1
    · unfold GxR.TabG
      rw [ht.2 P' z]
      exact h2⟩
  ss := n.ss
end
def quL (k : Bool) (t : Tg) (tt : BS) (te : ES) (env : En) : List FL.D → M FL.D
  | [] => ret (.bl (!k))
  | d :: ds => match t d env with
    | none => bad
    | some e1 => bnd (noX (tt e1)) fun b => match b with
      | true => bnd (noX (te e1)) fun x => match x with
        | .bl j => if j = k then ret (.bl k) else quL k t tt te env ds
        | _ => bad
      | false => quL k t tt te env ds
def quE (k : Bool) (it : AS) (vs : List Nat) (t : Tg) (tt : BS) (te : ES) : ES := fun env => bnd (it env) fun ds => quL k t tt te (wipeE env vs) ds
section
variable {F : FX} {X : Cx} {W : WX} {b k : Bool} {σ : L2.St} {H : Hp} {Q : VK}
theorem tX_qu {P : Addr} {it : AS} {vs ts : List Nat} {t : Tg} {tt : BS} {te : ES} (hP : P ∈ F.TL) (hts : ∀ j ∈ ts, j ∈ vs) (h : tX F W b (quE k it vs t tt te) σ H Q) : tQuG P k (tI F W it) (tG F ts t) (tT F W0 tt) (tX F W0 false te) vs σ H Q := by
  obtain ⟨B, s, env, G, c, co, q⟩ := h
  refine ⟨B, s, env, G, c, co, wpR_mono (wpR_bnd q) (fun ds c1 h1 J ok G1 H1 n1 hit hok => ?_) fun _ _ x => x⟩
  refine ⟨(n1.vo.tb P hP).2, fun i m n H2 => i ≤ ds.length ∧ m = ds.length - i ∧ m ≤ n ∧ ∃ G2 c2, Nxt F s G H s G2 H2 c2 ∧ Ex G1 G2 ∧ ok s G2 ∧
    wpR (quL k t tt te (wipeE env vs) (ds.drop i) c2) (fun d c' => ∀ v G' H', Nxt F s G H s G' H' c' → RepB b F s G' H' d v → Q v H') (xW F W s σ G H),
    ds.length, fun H => Q (.bl (!k)) H, fun _ y _ => y = .bl (!k), fun y H => y = .bl k ∧ Q (.bl k) H,
    fun H2 ht => ⟨ds.length, Nat.zero_le _, rfl, Nat.le_refl _, G1, c1, n1.tab hP ht, Ex.refl _, hok, by rw [List.drop_zero]; exact h1⟩, fun i m n H2 ⟨hi, hm, hn, G2, c2, n2, g2, ok2, w2⟩ => ?_, fun _ h => h, fun _ _ _ h => h, fun _ _ h => h⟩
  have co2 : Co F B s env σ G2 H2 c2 := co.nxt n2
  by_cases hlt : i < ds.length
  · rw [List.drop_eq_getElem_cons hlt] at w2
    have hd : ds[i]? = some ds[i] := List.getElem?_eq_getElem hlt
    refine .inr ⟨hit.go i s G2 H2 c2 ok2 n2.gh n2.vo hlt, fun x H3 y => ?_⟩
    obtain ⟨G3, n3, r3⟩ := hit.yld i s G2 H2 c2 x H3 _ ok2 n2.gh n2.vo y hd
    unfold quL at w2
    cases et : t ds[i] (wipeE env vs) with
    | none => simp only [et] at w2; exact w2.elim
    | some e1 =>
      simp only [et] at w2
      refine ⟨B, s, wipeE env vs, G3, c2, ds[i], e1, (co2.nxt n3).wipe vs, r3, et, fun σ3 co3 hl3 ha3 => ⟨?_, ?_⟩⟩
      · have e := wipe_of_agree (vs := vs) hl3 fun j hj => ha3 j fun z => hj (hts j z)
        rw [e]
        exact wipe_wipe σ vs
      · refine ⟨B, s, e1, G3, c2, co3, wpR_noX (wpR_mono (wpR_bnd w2) (fun k' c4 h4 G4 H4 n4 => ?_) fun _ _ x => x)⟩
        have n24 := n2.trans (n3.trans n4)
        have g24 := g2.trans (n3.g.trans n4.g)
        have keep : ∀ {Gx Hx : Hp} {cx : CT}, Nxt F s G H s Gx Hx cx → Ex G2 Gx → ok s Gx := fun n e => hit.mono _ _ _ _ ok2 (fun _ h => h) e
        cases k' with
        | true =>
          refine iteT ⟨B, s, e1, G4, c4, co3.nxt n4, wpR_noX (wpR_mono (wpR_bnd h4) (fun d c5 h5 v G5 H5 n5 r5 => ?_) fun _ _ x => x)⟩
          have n25 := n24.trans n5
          refine ⟨by omega, ?_⟩
          cases d with
          | bl j =>
            have ev := r5.bl
            subst ev
            by_cases hj : j = k
            · subst hj
              simp only [if_true] at h5
              exact .inr ⟨rfl, h5 _ _ _ n25 (.inl rfl)⟩
            · simp only [if_neg hj] at h5
              refine .inl ⟨by cases j <;> cases k <;> first | rfl | exact absurd rfl hj, m - 1, by omega, by omega, by omega, by omega, G5, c5, n25, g24.trans n5.g, keep n25 (n3.g.trans (n4.g.trans n5.g)), h5⟩
          | _ => exact h5.elim
        | false =>
          refine iteF ⟨m - 1, by omega, by omega, by omega, by omega, G4, c4, n24, g24, keep n24 (n3.g.trans n4.g), h4⟩
  · have hi' : i = ds.length := by omega
    subst hi'
    rw [List.drop_length] at w2
    exact .inl ⟨hit.stop s G2 H2 c2 ok2 n2.gh n2.vo, w2 _ _ _ n2 (.inl rfl)⟩
variable {c P : Addr} {elt tg iter : Expr} {ifs : List Expr} {scope : Scope} {own : List (Str × Nat)} {gpos p pos : Pos} {it : AS} {ts : List Nat} {t : Tg} {tt : BS} {te : ES} {n : Nat}
theorem se_allG (hX : X.calm = true) (hr : Room (n + 1 + 1) X.A) (hgl : Gl X "all") (hm : X.mg "all" = none) (TB : GxR.TabB X.base X.mg c P) (hcode : X.env.code = .ref c) (hP : P ∈ F.TL) (hN : X.N.Nodup) (ok : BlkOk X.N X.env.scope scope own) (hts : ∀ j ∈ ts, j ∈ own.map (·.2)) (hi : SI F X W tg iter it)
    (hg : ∀ (Ag : Around) (s : Shared) (H : Hp) (C : Addr) (cl : List (Str × Addr)) (code : Value) (fp : List Addr), Room n Ag → STg F (Cxg X Ag s H (genEnv scope cl C code builtinsNs X.env) fp) tg ts t)
    (ht : ∀ (Ag : Around) (s : Shared) (H : Hp) (C : Addr) (cl : List (Str × Addr)) (code : Value) (fp : List Addr), Room n Ag → STs F (Cxg X Ag s H (genEnv scope cl C code builtinsNs X.env) fp) ifs tt)
    (he : ∀ (Ag : Around) (s : Shared) (H : Hp) (C : Addr) (cl : List (Str × Addr)) (code : Value) (fp : List Addr), Room n Ag → SE F (Cxg X Ag s H (genEnv scope cl C code builtinsNs X.env) fp) W0 false elt te)
    (hco : scope.isCoroutine = false := by rfl) (h0 : scope.names.lookup (".0" : Str) = some NameKind.local := by rfl) (hcell : ∀ y ∈ scope.names, y.2 ≠ .cell := by decide) (hs : ∀ v, genFold iter X.env v = pure v := by intro _; rfl)
    (hse : starEach [.GeneratorExp elt [⟨tg, iter, ifs, 0⟩] scope gpos] X.env = (false, eval (.GeneratorExp elt [⟨tg, iter, ifs, 0⟩] scope gpos) X.env) :: starEach [] X.env := by rfl) (hb : bootBuiltins "all" = some (.builtin "all") := by rfl) :
    SE F X W b (.Call (.Name "all" p) [.GeneratorExp elt [⟨tg, iter, ifs, 0⟩] scope gpos] [] pos) (quE false it (own.map (·.2)) t tt te) :=
  ⟨pe_imp (pe_allG hX hr hgl hm hb TB hcode hco h0 hcell hN ok hi.pi (fun Ag s H C cl code fp r => (hg Ag s H C cl code fp r).pg) (fun Ag s H C cl code fp r => (ht Ag s H C cl code fp r).pts) (fun Ag s H C cl code fp r => (he Ag s H C cl code fp r).pe) hs hse) fun σ H Q h => tX_qu hP hts h⟩
theorem se_anyG (hX : X.calm = true) (hr : Room (n + 1 + 1) X.A) (hgl : Gl X "any") (hm : X.mg "any" = none) (TB : GxR.TabB X.base X.mg c P) (hcode : X.env.code = .ref c) (hP : P ∈ F.TL) (hN : X.N.Nodup) (ok : BlkOk X.N X.env.scope scope own) (hts : ∀ j ∈ ts, j ∈ own.map (·.2)) (hi : SI F X W tg iter it)
    (hg : ∀ (Ag : Around) (s : Shared) (H : Hp) (C : Addr) (cl : List (Str × Addr)) (code : Value) (fp : List Addr), Room n Ag → STg F (Cxg X Ag s H (genEnv scope cl C code builtinsNs X.env) fp) tg ts t)
    (ht : ∀ (Ag : Around) (s : Shared) (H : Hp) (C : Addr) (cl : List (Str × Addr)) (code : Value) (fp : List Addr), Room n Ag → STs F (Cxg X Ag s H (genEnv scope cl C code builtinsNs X.env) fp) ifs tt)
    (he : ∀ (Ag : Around) (s : Shared) (H : Hp) (C : Addr) (cl : List (Str × Addr)) (code : Value) (fp : List Addr), Room n Ag → SE F (Cxg X Ag s H (genEnv scope cl C code builtinsNs X.env) fp) W0 false elt te)
    (hco : scope.isCoroutine = false := by rfl) (h0 : scope.names.lookup (".0" : Str) = some NameKind.local := by rfl) (hcell : ∀ y ∈ scope.names, y.2 ≠ .cell := by decide) (hs : ∀ v, genFold iter X.env v = pure v := by intro _; rfl)
    (hse : starEach [.GeneratorExp elt [⟨tg, iter, ifs, 0⟩] scope gpos] X.env = (false, eval (.GeneratorExp elt [⟨tg, iter, ifs, 0⟩] scope gpos) X.env) :: starEach [] X.env := by rfl) (hb : bootBuiltins "any" = some (.builtin "any") := by rfl) :
    SE F X W b (.Call (.Name "any" p) [.GeneratorExp elt [⟨tg, iter, ifs, 0⟩] scope gpos] [] pos) (quE true it (own.map (·.2)) t tt te) :=
  ⟨pe_imp (pe_anyG hX hr hgl hm hb TB hcode hco h0 hcell hN ok hi.pi (fun Ag s H C cl code fp r => (hg Ag s H C cl code fp r).pg) (fun Ag s H C cl code fp r => (ht Ag s H C cl code fp r).pts) (fun Ag s H C cl code fp r => (he Ag s H C cl code fp r).pe) hs hse) fun σ H Q h => tX_qu hP hts h⟩
end
end FL

set_option Elab.async false
set_option linter.all false
set_option maxRecDepth 100000
set_option maxHeartbeats 2000000
/-! G4: sorted of texts, of any number. -/
namespace FL
open PySem PySem.Spec L2 PyProof.Rows SrtO
open Evl (Ex)
/-- x stands ahead of y -/
def ltS (x y : Str) : Bool := decide (x.cps.toList < y.cps.toList)
theorem str_ext {x y : Str} (h : x.cps.toList = y.cps.toList) : x = y := by
  cases x
  cases y
  congr 1
  exact Array.toList_inj.mp h
theorem ltS_no {x y : Str} : ltS x y = false ↔ y.cps.toList ≤ x.cps.toList := by
  unfold ltS
  rw [decide_eq_false_iff_not, List.not_lt]
theorem ltS_yes {x y : Str} : ltS x y = true ↔ x.cps.toList < y.cps.toList := decide_eq_true_iff
theorem swo_str : Swo ltS := ⟨fun x y h => ltS_no.mpr (List.le_of_lt (ltS_yes.mp h)), fun x y z h1 h2 => ltS_no.mpr (List.le_trans (ltS_no.mp h1) (ltS_no.mp h2))⟩
theorem ltS_eq {x y : Str} (h1 : ltS x y = false) (h2 : ltS y x = false) : x = y := str_ext (List.le_antisymm (ltS_no.mp h2) (ltS_no.mp h1))
def insS (x : Str) : List Str → List Str
  | [] => [x]
  | y :: r => if ltS y x then y :: insS x r else x :: y :: r
def sortS : List Str → List Str
  | [] => []
  | x :: r => insS x (sortS r)
theorem insS_perm (x : Str) : ∀ l, (insS x l).Perm (x :: l)
  | [] => List.Perm.refl _
  | y :: r => by
    unfold insS
    split
    · exact ((insS_perm x r).cons y).trans (List.Perm.swap x y r)
    · exact List.Perm.refl _
theorem sortS_perm : ∀ l, (sortS l).Perm l
  | [] => List.Perm.refl _
  | x :: r => (insS_perm x _).trans ((sortS_perm r).cons x)
theorem insS_srt (x : Str) : ∀ l, Srtd ltS l → Srtd ltS (insS x l)
  | [], _ => List.pairwise_singleton _ _
  | y :: r, h => by
    unfold insS
    obtain ⟨h1, h2⟩ := List.pairwise_cons.mp h
    by_cases q : ltS y x = true
    · rw [if_pos q]
      refine List.pairwise_cons.mpr ⟨fun z hz => ?_, insS_srt x r h2⟩
      rcases List.mem_cons.mp ((insS_perm x r).mem_iff.mp hz) with e | hz
      · rw [e]; exact swo_str.asym _ _ q
      · exact h1 z hz
    · rw [if_neg q]
      have q : ltS y x = false := by simpa using q
      refine List.pairwise_cons.mpr ⟨fun z hz => ?_, h⟩
      rcases List.mem_cons.mp hz with e | hz
      · rw [e]; exact q
      · exact swo_str.tr _ _ _ q (h1 z hz)
theorem sortS_srt : ∀ l, Srtd ltS (sortS l)
  | [] => List.Pairwise.nil
  | x :: r => insS_srt x _ (sortS_srt r)
theorem srt_uniq : ∀ {l m : List Str}, Srtd ltS l → Srtd ltS m → l.Perm m → l = m
  | [], m, _, _, h => (List.Perm.eq_nil h.symm).symm
  | x :: l, [], _, _, h => absurd h.length_eq (by simp)
  | x :: l, y :: m, hl, hm, h => by
    have h1 : ltS x y = false := by
      rcases List.mem_cons.mp (h.mem_iff.mp (List.mem_cons_self (a := x) (l := l))) with e | hx
      · rw [e]
        exact swo_str.refl y
      · exact (List.pairwise_cons.mp hm).1 x hx
    have h2 : ltS y x = false := by
      rcases List.mem_cons.mp (h.mem_iff.mpr (List.mem_cons_self (a := y) (l := m))) with e | hy
      · rw [e]
        exact swo_str.refl x
      · exact (List.pairwise_cons.mp hl).1 y hy
    have e := ltS_eq h1 h2
    subst e
    rw [srt_uniq (List.pairwise_cons.mp hl).2 (List.pairwise_cons.mp hm).2 h.cons_inv]
section
variable {prog : Program} {w : World} {A : Around} {E : Value → Shared → Prop} {s : Shared}
def ltSv (v u : Value) : Bool := ltS (strOf v) (strOf u)
theorem swo_strv : Swo ltSv := ⟨fun x y h => swo_str.asym _ _ h, fun x y z h1 h2 => swo_str.tr _ _ _ h1 h2⟩
theorem str_cmp {vs : List Value} {ss : List Str} (hI : StrsAre vs ss) : Cmp prog w A s oneType' (fun p => p.1 ∈ vs) (lt2 ltSv) := by
  intro p q hm hm'
  obtain ⟨a, t, e⟩ := hI.all _ hm
  obtain ⟨b, u, e'⟩ := hI.all _ hm'
  show wpAny (model prog w) A (keyLt' oneType' p.1 q.1) (fun r s' => s' = s ∧ r = ltSv p.1 q.1) (fun _ _ => False) s
  rw [e, e', keyLt'_oneType]
  exact oneLt_str ⟨rfl, rfl⟩
theorem strs_sortable {a : Addr} {vs : List Value} {ss : List Str} (hI : StrsAre vs ss) (h2 : 2 ≤ vs.length) : SortableO prog w A s a vs ltSv := by
  intro h' _
  refine ⟨oneType', fun Q E hq => ?_, str_cmp hI⟩
  match vs, hI, h2 with
  | v1 :: v2 :: rest, hI, _ =>
    rw [keyKind_strs hI]
    exact wpAny_pure hq
  | [], _, h => exact absurd h (by decide)
  | [v], _, h => exact absurd h (by simp)
theorem strs_out {vs out : List Value} {ss : List Str} (hI : StrsAre vs ss) (hs : Srtd ltSv out) (hb : Stb ltSv out vs) : StrsAre out (sortS ss) := by
  have h1 : StrsAre out (out.map strOf) := strsAre_map out fun v hv => hI.all v (hb.perm.mem_iff.mp hv)
  have h2 : (out.map strOf).Perm ss := by
    have q := hb.perm.map strOf
    rw [hI.strs] at q
    exact q
  have h3 : Srtd ltS (out.map strOf) := List.pairwise_map.mpr hs
  rw [srt_uniq h3 (sortS_srt ss) (h2.trans (sortS_perm ss).symm)] at h1
  exact h1
/-- a list or a tuple, as items -/
def SqAt (h : Heap) (a : Addr) (vs : List Value) : Prop := ∃ o n, h.get? a = some o ∧ (o.cls = .type "list" ∨ o.cls = .type "tuple") ∧ o.data = .seq vs.toArray n
theorem collect_sq {l : Addr} {vs : List Value} {Q : List Value → Shared → Prop} (hl : SqAt s.heap l vs)
    (h : Q vs { s with heap := (s.heap.push (seqObj "list" #[] 0)).update s.heap.objs.size (Obj.mapSeq (· ++ vs.toArray)) }) (hsz : vs.length ≤ sizeLine) :
    wpAny (model prog w) A (collect (.ref l)) Q E s := by
  obtain ⟨o, n, ho, hc, hd⟩ := id hl
  unfold collect
  refine wpAny_bind (wpAny_runValue (codeAny_builtin entry_proto_collect' ?_))
  show wpAny _ _ (do again (.builtin "list.__iadd__" ⟨[← newList [], .ref l], []⟩)) _ _ s
  refine wpAny_bind (wpAny_newList (wpAny_pure ⟨Code.quiet_builtin _ (by decide +kernel), codeAny_builtin entry_list_iadd' ?_⟩))
  show wpAny _ _ (Builtin.List.listExtendWith (.ref s.heap.objs.size) (.ref l) (.ref s.heap.objs.size)) _ _ { s with heap := s.heap.push (seqObj "list" #[] 0) }
  unfold Builtin.List.listExtendWith
  have ho' : (s.heap.push (seqObj "list" #[] 0)).get? l = some o := Heap.get?_push_of_some _ ho
  rcases hc with hc | hc
  · refine wpAny_bind (wpAny_typeOf (T := "list") ⟨o, ho', hc⟩ ?_)
    have ht : (Value.type "list" == Value.type "list") = true := by rfl
    rw [if_pos (by rw [ht]; simp)]
    refine wpAny_bind (listItems_at ho' hd ?_)
    refine wpAny_bind (listItems_at (xs := #[]) (n := 0) (Heap.get?_push_size _ rfl) rfl ?_)
    rw [if_neg (by simp)]
    refine wpAny_bind (listUpdate_at (xs := #[]) (n := 0) (Heap.get?_push_size _ rfl) rfl ?_ (Nat.zero_le _) (by show (#[] ++ vs.toArray).size ≤ sizeLine + 1; simp only [Array.size_append, List.size_toArray, List.length_nil]; omega))
    refine wpAny_pure ?_
    show wpAny (model prog w) A (do
        let o ← load s.heap.objs.size
        match o.data with
        | .seq xs _ => pure xs.toList
        | _ => unsupported "internal:collect") Q E { s with heap := (s.heap.push (seqObj "list" #[] 0)).update s.heap.objs.size (Obj.mapSeq (· ++ vs.toArray)) }
    refine wpAny_bind (wpAny_load (get?_update_seq (Heap.get?_push_size _ rfl) _) ?_)
    show wpAny _ _ (pure ((#[] : Array Value) ++ vs.toArray).toList) Q E _
    rw [show ((#[] : Array Value) ++ vs.toArray).toList = vs by simp]
    exact wpAny_pure h
  · refine wpAny_bind (wpAny_typeOf (T := "tuple") ⟨o, ho', hc⟩ ?_)
    have ht : (Value.type "tuple" == Value.type "tuple") = true := by rfl
    rw [if_pos (by rw [ht]; simp)]
    refine wpAny_bind (listItems_at ho' hd ?_)
    refine wpAny_bind (listItems_at (xs := #[]) (n := 0) (Heap.get?_push_size _ rfl) rfl ?_)
    rw [if_neg (by simp)]
    refine wpAny_bind (listUpdate_at (xs := #[]) (n := 0) (Heap.get?_push_size _ rfl) rfl ?_ (Nat.zero_le _) (by show (#[] ++ vs.toArray).size ≤ sizeLine + 1; simp only [Array.size_append, List.size_toArray, List.length_nil]; omega))
    refine wpAny_pure ?_
    show wpAny (model prog w) A (do
        let o ← load s.heap.objs.size
        match o.data with
        | .seq xs _ => pure xs.toList
        | _ => unsupported "internal:collect") Q E { s with heap := (s.heap.push (seqObj "list" #[] 0)).update s.heap.objs.size (Obj.mapSeq (· ++ vs.toArray)) }
    refine wpAny_bind (wpAny_load (get?_update_seq (Heap.get?_push_size _ rfl) _) ?_)
    show wpAny _ _ (pure ((#[] : Array Value) ++ vs.toArray).toList) Q E _
    rw [show ((#[] : Array Value) ++ vs.toArray).toList = vs by simp]
    exact wpAny_pure h
theorem sorted_sq {l : Addr} {vs : List Value} {ltv : Value → Value → Bool} {Q : Value → Shared → Prop} (O : Swo ltv) (hl : SqAt s.heap l vs) (hz : vs.length ≤ sizeLine)
    (hS : 2 ≤ vs.length → ∀ (h₁ : Heap) (a : Addr), h₁.get? a = some (seqObj "list" vs.toArray 0) → (∀ b o, s.heap.get? b = some o → b ≠ a ∧ h₁.get? b = some o) → SortableO prog w A.in1.in1 { s with heap := h₁ } a vs ltv)
    (h : ∀ out : List Value, Srtd ltv out → Stb ltv out vs → Q (.ref (s.heap.objs.size + 1)) { s with heap := sortedAll s.heap vs out.toArray }) :
    wpAny (model prog w) A (call (.builtin "sorted") [.ref l]) Q E s := by
  refine Calls.call_function_entry kind_sorted plain_sorted entry_sorted (args_sorted1 _) ?_
  unfold Builtin.«sorted»
  refine wpAny_bind (m := checkCount "sorted" 1 1 _) (wpAny_pure ?_)
  refine wpAny_bind (collect_sq hl ?_ hz)
  refine wpAny_bind (wpAny_newList ?_ hz)
  have hsz : ((s.heap.push (seqObj "list" #[] 0)).update s.heap.objs.size (Obj.mapSeq (· ++ vs.toArray))).objs.size = s.heap.objs.size + 1 := by
    rw [Heap.size_update, size_push']
  have hoL : (((s.heap.push (seqObj "list" #[] 0)).update s.heap.objs.size (Obj.mapSeq (· ++ vs.toArray))).push (seqObj "list" vs.toArray 0)).get? (s.heap.objs.size + 1) = some (seqObj "list" vs.toArray 0) := by
    rw [← hsz]; exact Heap.get?_push_size _ rfl
  have keep : ∀ b o, s.heap.get? b = some o → b ≠ s.heap.objs.size + 1 ∧ (((s.heap.push (seqObj "list" #[] 0)).update s.heap.objs.size (Obj.mapSeq (· ++ vs.toArray))).push (seqObj "list" vs.toArray 0)).get? b = some o := fun b o q => by
    have hlt : b < s.heap.objs.size := Heap.lt_size q
    refine ⟨Nat.ne_of_lt (Nat.lt_succ_of_lt hlt), Heap.get?_push_of_some _ ?_⟩
    rw [Heap.get?_update_ne _ _ _ _ (Nat.ne_of_lt hlt)]
    exact Heap.get?_push_of_some _ q
  show wpAny _ _ _ _ _ { s with heap := ((s.heap.push (seqObj "list" #[] 0)).update s.heap.objs.size (Obj.mapSeq (· ++ vs.toArray))).push (seqObj "list" vs.toArray 0) }
  rw [hsz]
  refine wpAny_bind (wpAny_holding (wpAny_call_entry slot_list_sort ⟨_, hoL, rfl⟩ entry_list_sort (list_sort_ord O hoL hz (fun h2 => hS h2 _ _ hoL keep) fun out hs hb => ⟨_, rfl, ?_⟩) (args_list_sort _)))
  exact wpAny_pure ⟨_, rfl, h out hs hb⟩
end
/-- sorted(xs), texts, a list or a tuple of any length -/
def rSortG (K : PySem.W.Frag) : List V → Hp → VK → Prop := fun vs H Q => ∃ (a : Addr) (xs : List Str), vs = [V.ref a] ∧ (SqL K H a (xs.map V.str) ∨ SqT K H a (xs.map V.str)) ∧ ∀ p : Addr, H p = none → Q (.ref p) (upd H p (.lst ((sortS xs).map V.str)))
theorem cr_sortG {X : Cx} : CallR X (.builtin "sorted") (rSortG X.K) := by
  intro pins s σ H vs us Q I r h
  obtain ⟨a, xs, rfl, hs, q⟩ := h
  have hh : ∃ its : List Value, Vals (xs.map V.str) its ∧ SqAt s.heap a its ∧ (xs.map V.str).length ≤ sizeLine := by
    rcases hs with hs | hs
    · obtain ⟨its, rv, ⟨o, n, ho, hc, _, hd⟩, hz⟩ := I.list hs
      exact ⟨its, rv, ⟨o, n, ho, .inl hc, hd⟩, hz⟩
    · obtain ⟨its, rv, ⟨o, ho, hc, n, hd⟩, hz⟩ := I.tuple hs
      exact ⟨its, rv, ⟨o, n, ho, .inr hc, hd⟩, hz⟩
  obtain ⟨its, rv, hl, hz⟩ := hh
  rw [Vals.ref1 r]
  have hi := rv.strs
  refine sorted_sq swo_strv hl (by rw [← rv.length]; exact hz) (fun h2 h₁ a' _ _ => strs_sortable hi h2) fun out h1 h2 => ?_
  have k1 := strs_out hi h1 h2
  obtain ⟨ep, he'⟩ := PyProof.Rows.sortedAll_at s.heap its out.toArray
  have hlen : ((sortS xs).map V.str).length ≤ sizeLine := by
    rw [List.length_map, (sortS_perm xs).length_eq]
    rw [List.length_map] at hz
    exact hz
  exact ⟨.ref _, upd H (s.heap.objs.size + 1) (.lst ((sortS xs).map V.str)), I.laid (t' := s.toks) (fun _ _ => PyProof.Rows.sortedAll_old) (Nat.le_succ _) ⟨hlen, out, ep, vals_of_strs k1, he'⟩, rfl, q _ (I.hok.fresh (Nat.le_succ _))⟩
/-- the texts of some data -/
def strsO : List FL.D → Option (List Str)
  | [] => some []
  | .str x :: r => match strsO r with
    | some xs => some (x :: xs)
    | none => none
  | _ :: _ => none
theorem strsO_rep {F : FX} {s : Option Addr} {G : Hp} : ∀ {ds : List FL.D} {xs : List Str} {vs : List V}, strsO ds = some xs → RepL F s G ds vs → vs = xs.map V.str ∧ ds = xs.map FL.D.str
  | [], _, _, e, r => by cases e; exact ⟨r, rfl⟩
  | .str x :: r, xs, vs, e, ⟨v, us, h1, h2, h3⟩ => by
    unfold strsO at e
    cases e1 : strsO r with
    | none => rw [e1] at e; cases e
    | some ys =>
      rw [e1] at e
      cases e
      obtain ⟨q1, q2⟩ := strsO_rep e1 h3
      rw [h1, q1, q2, show v = V.str x from h2]
      exact ⟨rfl, rfl⟩
def sortX (d : FL.D) : Option FL.D := match d with
  | .lst ds => (strsO ds).map fun xs => .lst ((sortS xs).map FL.D.str)
  | .tup ds => (strsO ds).map fun xs => .lst ((sortS xs).map FL.D.str)
  | _ => none
def sortD := on1 sortX
section
variable {F : FX}
theorem rep_strs {s : Option Addr} {G : Hp} : ∀ xs : List Str, RepL F s G (xs.map FL.D.str) (xs.map V.str)
  | [] => rfl
  | x :: r => ⟨.str x, _, rfl, rfl, rep_strs r⟩
theorem cd_sort : CaD F (rSortG F.K) sortD := cd1 fun s G H c d v res Q e vo r1 eo w => by
  unfold sortX at eo
  cases d with
  | lst ds =>
    obtain ⟨xs, e1, rfl⟩ := Option.map_eq_some_iff.mp eo
    obtain ⟨a, vs, rfl, h2, h3⟩ := r1.list e
    obtain ⟨rfl, _⟩ := strsO_rep e1 h3
    exact ⟨a, xs, rfl, .inl (.inl (.inl h2)), w.lst e vo (rep_strs _)⟩
  | tup ds =>
    obtain ⟨xs, e1, rfl⟩ := Option.map_eq_some_iff.mp eo
    obtain ⟨a, vs, rfl, h2, h3⟩ := r1.tup e
    obtain ⟨rfl, _⟩ := strsO_rep e1 h3
    exact ⟨a, xs, rfl, .inr h2, w.lst e vo (rep_strs _)⟩
  | _ => cases eo
/-- all, any of a list of True and False -/
def blsD : List FL.D → Option (List Bool)
  | [] => some []
  | .bl x :: r => match blsD r with
    | some xs => some (x :: xs)
    | none => none
  | _ :: _ => none
theorem blsD_rep {s : Option Addr} {G : Hp} : ∀ {ds : List FL.D} {xs : List Bool} {vs : List V}, blsD ds = some xs → RepL F s G ds vs → vs = xs.map V.bl
  | [], _, _, e, r => by cases e; exact r
  | .bl x :: r, xs, vs, e, ⟨v, us, h1, h2, h3⟩ => by
    unfold blsD at e
    cases e1 : blsD r with
    | none => rw [e1] at e; cases e
    | some ys =>
      rw [e1] at e
      cases e
      rw [h1, blsD_rep e1 h3, show v = V.bl x from h2]
      rfl
def allX (d : FL.D) : Option FL.D := match d with
  | .lst ds => (blsD ds).map fun xs => .bl (xs.all id)
  | _ => none
def anyX (d : FL.D) : Option FL.D := match d with
  | .lst ds => (blsD ds).map fun xs => .bl (xs.any id)
  | _ => none
def allD := on1 allX
def anyD := on1 anyX
theorem cd_all : CaD F (rAll F.K) allD := cd1 fun s G H c d v res Q e vo r1 eo w => by
  unfold allX at eo
  cases d with
  | lst ds =>
    obtain ⟨xs, e1, rfl⟩ := Option.map_eq_some_iff.mp eo
    obtain ⟨a, vs, rfl, h2, h3⟩ := r1.list e
    cases blsD_rep e1 h3
    exact ⟨a, xs, rfl, .inl (.inl h2), w.now e vo rfl⟩
  | _ => cases eo
theorem cd_any : CaD F (rAny F.K) anyD := cd1 fun s G H c d v res Q e vo r1 eo w => by
  unfold anyX at eo
  cases d with
  | lst ds =>
    obtain ⟨xs, e1, rfl⟩ := Option.map_eq_some_iff.mp eo
    obtain ⟨a, vs, rfl, h2, h3⟩ := r1.list e
    cases blsD_rep e1 h3
    exact ⟨a, xs, rfl, .inl (.inl h2), w.now e vo rfl⟩
  | _ => cases eo
/-- pairs -/
def zipD (xs ys : List FL.D) : List FL.D := xs.zipWith (fun x y => .tup [x, y]) ys
theorem zipD_get {xs ys : List FL.D} {i : Nat} {d : FL.D} (h : (zipD xs ys)[i]? = some d) : ∃ x y, xs[i]? = some x ∧ ys[i]? = some y ∧ d = .tup [x, y] := by
  unfold zipD at h
  rw [List.getElem?_zipWith] at h
  cases h1 : xs[i]? with
  | none => rw [h1] at h; cases h
  | some x =>
    cases h2 : ys[i]? with
    | none => rw [h1, h2] at h; cases h
    | some y =>
      rw [h1, h2] at h
      cases h
      exact ⟨x, y, rfl, rfl, rfl⟩
variable {s : Option Addr} {G : Hp}
theorem itd_zip {a b : Addr} {ds es : List FL.D} {vs us : List V} (h : SqL F.K G a vs) (r : RepL F s G ds vs) (h' : SqL F.K G b us) (r' : RepL F s G es us) : ∃ ok, ItD F (Itz F.K a b) ok (zipD ds es) ∧ ok s G := by
  refine ⟨fun s G => (SqL F.K G a vs ∧ RepL F s G ds vs) ∧ SqL F.K G b us ∧ RepL F s G es us, ⟨fun i s G H c ok e vo hi => ?_, fun s G H c ok e vo => ?_, fun i s G H c x H' d ok e vo y hd => ?_, fun s s' G G' ok hs e => ⟨⟨Evl.ex_l e ok.1.1, RepL.mono e hs _ _ ok.1.2⟩, Evl.ex_l e ok.2.1, RepL.mono e hs _ _ ok.2.2⟩⟩, ⟨h, r⟩, h', r'⟩
  · have hl := ok.1.2.length
    have hl' := ok.2.2.length
    have hi : i < (zipD ds es).length := hi
    unfold zipD at hi
    rw [List.length_zipWith] at hi
    exact ⟨vs, us, vs[i]'(by omega), us[i]'(by omega), Evl.ex_l e ok.1.1, Evl.ex_l e ok.2.1, by simp, by simp⟩
  · have hl := ok.1.2.length
    have hl' := ok.2.2.length
    refine ⟨vs, us, Evl.ex_l e ok.1.1, Evl.ex_l e ok.2.1, ?_⟩
    unfold zipD
    rw [List.length_zipWith]
    omega
  · obtain ⟨T, x1, x2, rfl, nT, rfl, f1, f2⟩ := y
    obtain ⟨d1, d2, e1, e2, rfl⟩ := zipD_get hd
    obtain ⟨v1, hv1, rv1⟩ := ok.1.2.get e1
    obtain ⟨v2, hv2, rv2⟩ := ok.2.2.get e2
    have q1 := f1 vs (Evl.ex_l e ok.1.1)
    have q2 := f2 us (Evl.ex_l e ok.2.1)
    rw [hv1] at q1
    rw [hv2] at q2
    cases q1
    cases q2
    have n := (Nxt.refl e vo).new (o := .tup [x1, x2]) nT
    exact ⟨_, n, T, [x1, x2], rfl, .inl upd_same, x1, [x2], rfl, Rep.mono n.g (fun _ x => x) _ _ rv1, x2, [], rfl, Rep.mono n.g (fun _ x => x) _ _ rv2, rfl⟩
theorem itd_zipT {a b : Addr} {ds es : List FL.D} {vs us : List V} (h : SqT F.K G a vs) (r : RepL F s G ds vs) (h' : SqT F.K G b us) (r' : RepL F s G es us) : ∃ ok, ItD F (RZ.ItzT F.K a b) ok (zipD ds es) ∧ ok s G := by
  refine ⟨fun s G => (SqT F.K G a vs ∧ RepL F s G ds vs) ∧ SqT F.K G b us ∧ RepL F s G es us, ⟨fun i s G H c ok e vo hi => ?_, fun s G H c ok e vo => ?_, fun i s G H c x H' d ok e vo y hd => ?_, fun s s' G G' ok hs e => ⟨⟨Evl.ex_t e ok.1.1, RepL.mono e hs _ _ ok.1.2⟩, Evl.ex_t e ok.2.1, RepL.mono e hs _ _ ok.2.2⟩⟩, ⟨h, r⟩, h', r'⟩
  · have hl := ok.1.2.length
    have hl' := ok.2.2.length
    have hi : i < (zipD ds es).length := hi
    unfold zipD at hi
    rw [List.length_zipWith] at hi
    exact ⟨vs, us, vs[i]'(by omega), us[i]'(by omega), Evl.ex_t e ok.1.1, Evl.ex_t e ok.2.1, by simp, by simp⟩
  · have hl := ok.1.2.length
    have hl' := ok.2.2.length
    refine ⟨vs, us, Evl.ex_t e ok.1.1, Evl.ex_t e ok.2.1, ?_⟩
    unfold zipD
    rw [List.length_zipWith]
    omega
  · obtain ⟨T, x1, x2, rfl, nT, rfl, f1, f2⟩ := y
    obtain ⟨d1, d2, e1, e2, rfl⟩ := zipD_get hd
    obtain ⟨v1, hv1, rv1⟩ := ok.1.2.get e1
    obtain ⟨v2, hv2, rv2⟩ := ok.2.2.get e2
    have q1 := f1 vs (Evl.ex_t e ok.1.1)
    have q2 := f2 us (Evl.ex_t e ok.2.1)
    rw [hv1] at q1
    rw [hv2] at q2
    cases q1
    cases q2
    have n := (Nxt.refl e vo).new (o := .tup [x1, x2]) nT
    exact ⟨_, n, T, [x1, x2], rfl, .inl upd_same, x1, [x2], rfl, Rep.mono n.g (fun _ x => x) _ _ rv1, x2, [], rfl, Rep.mono n.g (fun _ x => x) _ _ rv2, rfl⟩
/-- zip(a, b): both lists or both tuples -/
def zipE (f : AS) : AS := fun env => bnd (f env) fun ds => match ds with
  | [.lst xs, .lst ys] => ret (zipD xs ys)
  | [.tup xs, .tup ys] => ret (zipD xs ys)
  | _ => bad
variable {X : Cx} {W : WX} {p pos tpos : Pos}
theorem si_zip {a b : Expr} {f : AS} {elts : List Expr} {kk : Nat} (hK : X.K = F.K) (hg : Gl X "zip") (hm : X.mg "zip" = none) (ha : SA F X W false [a, b] f) (hs : starEach [a, b] X.env = (false, eval a X.env) :: starEach [b] X.env := by rfl) (hpl : (backTo pos (starEach [b] X.env)).any (·.1) = false := by rfl) :
    SI F X W (.Tuple elts kk tpos) (.Call (.Name "zip" p) [a, b] [] pos) (zipE f) := by
  refine ⟨pi_imp (RZ.pi_zipA hg hm ha.pa hs hpl) fun σ H R ⟨B, s, env, G, c, co, q⟩ => ⟨B, s, env, G, c, co, wpR_mono (wpR_bnd q) (fun ds c1 h1 vs G1 H1 n1 r1 => ?_) fun _ _ x => x⟩⟩
  rw [hK]
  match ds, h1, r1 with
  | [.lst xs, .lst ys], h1, ⟨v, r, ev, h2, v2, r2, ev2, h22, er⟩ =>
    cases (show r2 = [] from er)
    obtain ⟨a1, vs1, rfl, k1, k2⟩ := h2.strict
    obtain ⟨a2, vs2, rfl, m1, m2⟩ := h22.strict
    obtain ⟨ok, i1, i2⟩ := itd_zip (SqL.of k1) k2 (SqL.of m1) m2
    exact ⟨a1, a2, vs1, vs2, by rw [ev, ev2], .inl ⟨Evl.ex_l n1.gh (SqL.of k1), Evl.ex_l n1.gh (SqL.of m1), h1 _ ok G1 H1 n1 i1 i2⟩⟩
  | [.tup xs, .tup ys], h1, ⟨v, r, ev, h2, v2, r2, ev2, h22, er⟩ =>
    cases (show r2 = [] from er)
    obtain ⟨a1, vs1, rfl, k1, k2⟩ := h2.strict
    obtain ⟨a2, vs2, rfl, m1, m2⟩ := h22.strict
    obtain ⟨ok, i1, i2⟩ := itd_zipT k1.sq k2 m1.sq m2
    exact ⟨a1, a2, vs1, vs2, by rw [ev, ev2], .inr ⟨Evl.ex_t n1.gh k1.sq, Evl.ex_t n1.gh m1.sq, h1 _ ok G1 H1 n1 i1 i2⟩⟩
end
end FL

set_option Elab.async false
set_option linter.all false
set_option maxRecDepth 100000
set_option maxHeartbeats 2000000
/-! G5: chained comparisons, names of the module, list(x) as a list of one's own, a def with its code object. -/
namespace FL
open PySem PySem.Spec L2 PyProof.Rows
open Evl (Ex)
section
variable {F : FX} {X : Cx} {W : WX} {b : Bool} {σ : L2.St} {H : Hp} {Q : VK}
def chE (op op' : CT → FL.D → FL.D → Option FL.D) (f g h : ES) : ES := fun env => bnd (f env) fun x => bnd (g env) fun y => fun c => match op c x y with
  | some (.bl true) => bnd (h env) (fun w => fun c => lft (op' c y w) c) c
  | some (.bl false) => .ok (.bl false) c
  | _ => .bad
theorem tX_ch {r r' : R2} {op op' : CT → FL.D → FL.D → Option FL.D} {f g h : ES} (o : OpD F r op) (o' : OpD F r' op') (q : tX F W b (chE op op' f g h) σ H Q) : tChain r r' (tX F W true f) (tX F W true g) (tX F W true h) σ H Q := by
  obtain ⟨B, s, env, G, c, co, q⟩ := q
  refine ⟨B, s, env, G, c, co, wpR_mono (wpR_bnd q) (fun x c1 h1 v1 G1 H1 n1 r1 => ?_) fun _ _ x => x⟩
  refine ⟨B, s, env, G1, c1, co.nxt n1, wpR_mono (wpR_bnd h1) (fun y c2 h2 v2 G2 H2 n2 r2 => ?_) fun _ _ w => w.nxt n1⟩
  have n12 := n1.trans n2
  cases e : op c2 x y with
  | none => simp only [e] at h2; exact h2.elim
  | some res =>
    simp only [e] at h2
    cases res with
    | bl k =>
      cases k with
      | true =>
        refine o.run s G2 H2 c2 x y v1 v2 _ _ n2.gh n2.vo (r1.nxt n1.vo n2) r2 e fun v G3 H3 n3 r3 => ⟨true, r3, iteT ?_⟩
        refine ⟨B, s, env, G3, c2, co.nxt (n12.trans n3), wpR_mono (wpR_bnd h2) (fun w c4 h4 v4 G4 H4 n4 r4 => ?_) fun _ _ w => w.nxt (n12.trans n3)⟩
        obtain ⟨res, e4, hq⟩ := wpR_lft h4
        exact o'.run s G4 H4 c4 y w v2 v4 res Q n4.gh n4.vo ((r2.nxt n2.vo n3).nxt n3.vo n4) r4 e4 fun v G' H' n r => hq v G' H' (((n12.trans n3).trans n4).trans n) (.inl r)
      | false =>
        exact o.run s G2 H2 c2 x y v1 v2 _ _ n2.gh n2.vo (r1.nxt n1.vo n2) r2 e fun v G3 H3 n3 r3 => ⟨false, r3, iteF (h2 _ G3 H3 (n12.trans n3) (.inl rfl))⟩
    | _ => exact h2.elim
variable {a c' d' : Expr} {o o' : CmpOp} {pos : Pos} {r r' : R2} {op op' : CT → FL.D → FL.D → Option FL.D} {f g h : ES}
theorem se_ch (hr : OpR X (compareOp o) r) (hr' : OpR X (compareOp o') r') (hd : OpD F r op) (hd' : OpD F r' op') (ha : SE F X W true a f) (hb : SE F X W true c' g) (hc : SE F X W true d' h)
    (hp : ∀ {ta tb tc : TE}, PE X a ta → PE X c' tb → PE X d' tc → PE X (.Compare a [o, o'] [c', d'] pos) (tChain r r' ta tb tc)) : SE F X W b (.Compare a [o, o'] [c', d'] pos) (chE op op' f g h) := ⟨pe_imp (hp ha.pe hb.pe hc.pe) fun _ _ _ q => tX_ch hd hd' q⟩
/-! ### names of the module -/
theorem se_gint {x : Str} {i : Int} (hg : Gl X x) (hm : ∃ t, X.mg x = some (.int i t)) (hd : (x == ("__debug__" : Str)) = false := by decide) : SE F X W b (.Name x pos) (kE (.int i)) := by
  obtain ⟨t, hm⟩ := hm
  exact se_k (v := V.int i) (pe_glob hg hm ⟨t, rfl⟩ hd) fun _ _ => rfl
theorem se_gstr {x z : Str} (hg : Gl X x) (hm : ∃ t, X.mg x = some (.str z t)) (hd : (x == ("__debug__" : Str)) = false := by decide) : SE F X W b (.Name x pos) (kE (.str z)) := by
  obtain ⟨t, hm⟩ := hm
  exact se_k (v := V.str z) (pe_glob hg hm ⟨t, rfl⟩ hd) fun _ _ => rfl
theorem se_gref2 {x : Str} {d : FL.D} (hg : Gl X x) (hm : ∃ p, X.mg x = some (.ref p) ∧ ∀ s G, Rep F s G d (.ref p)) (hd : (x == ("__debug__" : Str)) = false := by decide) : SE F X W b (.Name x pos) (kE d) := by
  obtain ⟨p, hm, hr⟩ := hm
  exact se_k (v := V.ref p) (pe_glob hg hm rfl hd) hr
/-! ### list(x), new -/
def listO (f : AS) : AS := fun env => bnd (f env) fun ds => match ds with
  | [.lst xs] => ret xs
  | [.tup xs] => ret xs
  | _ => bad
theorem tO_list {f : AS} (h : tO F W (listO f) σ H Q) : tCB (fun xs H Q => ∃ p ys, xs = [V.ref p] ∧ (SqL F.K H p ys ∨ SqT F.K H p ys) ∧ ∀ l, H l = none → Q (.ref l) (upd H l (.lst ys))) (tA F W true f) σ H Q := by
  obtain ⟨B, s, env, G, c, co, q⟩ := h
  refine ⟨B, s, env, G, c, co, wpR_mono (wpR_bnd q) (fun ds c1 h1 vs G1 H1 n1 r1 => ?_) fun _ _ x => x⟩
  match ds, h1, r1 with
  | [.lst xs], h1, ⟨v, r, ev, h2, er⟩ =>
    cases (show r = [] from er)
    obtain ⟨a, us, rfl, k1, k2⟩ := h2.list n1.gh
    exact ⟨a, us, ev, .inl (.inl (.inl k1)), own_new n1 k2 h1⟩
  | [.tup xs], h1, ⟨v, r, ev, h2, er⟩ =>
    cases (show r = [] from er)
    obtain ⟨a, us, rfl, k1, k2⟩ := h2.tup n1.gh
    exact ⟨a, us, ev, .inr k1, own_new n1 k2 h1⟩
variable {e : Expr} {es : List Expr} {p : Pos} {av : AS}
theorem so_list (hK : X.K = F.K) (hg : Gl X "list") (hm : X.mg "list" = none) (hv : bootBuiltins "list" = some (.type "list")) (ha : SA F X W true (e :: es) av)
    (he : starEach (e :: es) X.env = (false, eval e X.env) :: starEach es X.env := by rfl) (hpl : (backTo pos (starEach es X.env)).any (·.1) = false := by rfl) : SO F X W (.Call (.Name "list" p) (e :: es) [] pos) (listO av) :=
  ⟨pe_imp (pe_callTy call_list_of hg hm hv ha.pa (by decide) (by decide) he hpl) fun _ _ _ h => by rw [hK]; exact tO_list h⟩
end

/-! ### a def whose code object is known -/
structure FunC (K : PySem.W.Frag) (x qual : Str) (st : Stmt) (f : Addr) (fd : FuncData) (c : Addr) : Prop where
  ex : ∃ (oc : Value) (od : Option Addr) (kV doc pm : Value) (an : Option Addr) (ct : Value) (osl : Array (Option Value)),
    fd = PySem.W.fnOf x qual (defArgs st) (defBody st) (defScope st) .none kV doc pm an (.ref c) ct ∧ K.lookup f = some ⟨oc, od, .func fd, osl⟩ ∧ PySem.W.codeIn K (.ref c) qual = true
  kp : PySem.W.keepIn K (.ref f) = true
theorem FunC.fn {K : PySem.W.Frag} {x qual : Str} {st : Stmt} {f : Addr} {fd : FuncData} {c : Addr} (h : FunC K x qual st f fd c) : Fun K x qual st f fd := by
  obtain ⟨oc, od, kV, doc, pm, an, ct, osl, h1, h2, h3⟩ := h.ex
  exact ⟨⟨oc, od, kV, doc, pm, an, .ref c, ct, osl, h1, h2, h3⟩, h.kp⟩
section
variable {P : Program} {w : World} {F : FX} {mg : Str → Option Value} {base : Heap}
/-- THE RULE for a def, its code object c -/
theorem def_okC {x qual : Str} {st : Stmt} {f c : Addr} {fd : FuncData} {N ps : List Str} {k : Nat} {z : Bool} {body : SS} (Fn : FunC F.K x qual st f fd c) (S : FnScope N ps (defScope st)) (hl : ps.length ≤ N.length)
    (hb : ∀ (A : Around) (outer : List Env) (s : Shared) (H : Hp) (E : XK), Room k (A.deeper (envOfC qual (defScope st) s.heap.objs.size f (.ref c))) →
      Takes (cxOf (L2.CX P w) P w F.K mg base N qual (defScope st) f (.ref c) A outer s H E) (fun cls d _ H' => E cls d H') →
      SB F (cxOf (L2.CX P w) P w F.K mg base N qual (defScope st) f (.ref c) A outer s H E) (fun cls d _ H' => E cls d H') z (defBody st) body) :
    FnOk P w F.K mg base (L2.CX P w) (k + 1) f fd ps (spF F z ps.length (defF N.length body)) := by
  obtain ⟨oc, od, kV, doc, pm, an, ct, osl, rfl, lk, hcd⟩ := Fn.ex
  refine fn_of lk hcd S (fun vs H Q E h => h.1) fun A outer s H vs Q E hr h => ?_
  obtain ⟨hlen, s', G, c', ds, e, vo, r, q⟩ := h
  refine ⟨_, (hb A outer s H E hr (takes_of rfl rfl rfl rfl)).pss, ⟨s', G, H⟩, s', _, G, c', co_start e vo r (by rw [hlen]; exact hl), ?_⟩
  unfold defF at q
  cases e2 : body (ds.map Sl.va ++ List.replicate (N.length - ds.length) Sl.no) c' with
  | nx en c1 => rw [e2] at q; exact fun s1 σ' G' H' a _ b => q s1 .non G' H' a b.bs rfl
  | rt d c1 => rw [e2] at q; exact q
  | ro xs c1 => rw [e2] at q; exact fun s1 p vs' G' H' a b c1 c2 c3 c4 c5 => q s1 p vs' G' H' a b c1 c2 c3 c4 c5
  | ex x en c1 => rw [e2] at q; exact fun s1 C dx fs σ' G' H' a _ b d' f' g' => q s1 C dx fs G' H' a b d'.bs f' g'
  | bk en c1 => rw [e2] at q; exact q.elim
  | ct en c1 => rw [e2] at q; exact q.elim
  | bad => rw [e2] at q; exact q.elim
end
end FL

set_option Elab.async false
set_option linter.all false
set_option maxRecDepth 100000
set_option maxHeartbeats 2000000
/-! G6: short words for the printed terms. -/
namespace FL
open PySem PySem.Spec L2 PyProof.Rows
open Evl (Ex)
section
variable {F : FX} {X : Cx} {W : WX} {b z : Bool} {pos p : Pos}
theorem takes0 : Takes X W0 := fun u s' ⟨a, B, sI, pins, σ, H, cls, d, e, I, nb, up, sky, na, os, ag, w⟩ => w.elim
/-- the name in slot i -/
theorem v_ (i : Nat) {x : Str} (hN : X.N[i]? = some x := by rfl) (hv : Vis X.env.scope x := by first | exact Or.inl rfl | exact Or.inr (Or.inl rfl) | exact Or.inr (Or.inr rfl)) (hd : (x == ("__debug__" : Str)) = false := by decide) (hcd : (x == ("__classdict__" : Str)) = false := by decide) :
    SE F X W b (.Name x pos) (varE i) := se_var (pv i hN hv hd hcd)
theorem w_ (i : Nat) {x : Str} (hN : X.N[i]? = some x := by rfl) (hv : Vis X.env.scope x := by first | exact Or.inl rfl | exact Or.inr (Or.inl rfl) | exact Or.inr (Or.inr rfl)) (hd : (x == ("__debug__" : Str)) = false := by decide) (hcd : (x == ("__classdict__" : Str)) = false := by decide) :
    SE F X W true (.Name x pos) (varB i) := se_varB (pv i hN hv hd hcd)
variable {e : Expr} {f : ES} {fa : AS}
theorem a_ {x : Str} {p' : Pos} (hN : X.N.Nodup) (i : Nat) (h : SE F X W false e f) (hi : X.N[i]? = some x := by rfl) (hx : Loc X.env.scope x := by first | exact Or.inl rfl | exact Or.inr rfl) (hs : swapsWith e (some (.Name x p')) pos.line X.env = pure false := by rfl) (hf : X.fn x = true ∨ X.env.scope.names.lookup x = some .local := by first | exact .inl rfl | exact .inr rfl) :
    SSt F X W z (.Assign [.Name x p'] e pos) (asgS i f) := ss_asg h fun h => ps_set hN hi hx h hs hf
theorem o_ {x : Str} {p' : Pos} (hN : X.N.Nodup) (i : Nat) (h : SO F X W e fa) (hi : X.N[i]? = some x := by rfl) (hx : Loc X.env.scope x := by first | exact Or.inl rfl | exact Or.inr rfl) (hs : swapsWith e (some (.Name x p')) pos.line X.env = pure false := by rfl) (hf : X.fn x = true ∨ X.env.scope.names.lookup x = some .local := by first | exact .inl rfl | exact .inr rfl) :
    SSt F X W z (.Assign [.Name x p'] e pos) (asgO i fa) := ss_asgO h fun h => ps_set hN hi hx h hs hf
theorem n_ {x : Str} (hN : X.N.Nodup) (i : Nat) (hi : X.N[i]? = some x := by rfl) (hx : Loc X.env.scope x := by first | exact Or.inl rfl | exact Or.inr rfl) (hf : X.fn x = true ∨ X.env.scope.names.lookup x = some .local := by first | exact .inl rfl | exact .inr rfl) : PG X (.Name x p) (gName i) := pg_name hN hi hx hf
section
variable {o k : Expr} {fk : ES} {apos cpos : Pos}
theorem app_ {i : Nat} (hK : X.K = F.K) (ho : PE X o (tVar i)) (h : SE F X W false e f) (hr : ∀ {te : TE}, PE X o (tVar i) → PE X e te → PE X (.Call (.Attribute o "append" apos) [e] [] cpos) (tBM X.K "list" rAppend (tVar i) (tCons te tNil)))
    (hs : swapsWith (.Call (.Attribute o "append" apos) [e] [] cpos) none pos.line X.env = pure false := by rfl) : SSt F X W z (.Expr (.Call (.Attribute o "append" apos) [e] [] cpos) pos) (appS i f) := ss_app hK ho h (hr ho h.pe) hs
theorem pop_ {i : Nat} (hK : X.K = F.K) (ho : PE X o (tVar i)) (hr : PE X o (tVar i) → PE X (.Call (.Attribute o "pop" apos) [] [] cpos) (tBM0 X.K "list" rPop (tVar i)))
    (hs : swapsWith (.Call (.Attribute o "pop" apos) [] [] cpos) none pos.line X.env = pure false := by rfl) : SSt F X W z (.Expr (.Call (.Attribute o "pop" apos) [] [] cpos) pos) (popS i) := ss_pop hK ho (hr ho) hs
theorem set_ {i : Nat} (ho : PE X o (tVar i)) (hk : SE F X W true k fk) (h : SE F X W false e f) (hg : ∀ {tk : TE}, PE X o (tVar i) → PE X k tk → PG X (.Subscript o k apos) (gSub (tVar i) tk rSetL))
    (hs : swapsWithSole [(.Subscript o k apos)] e pos.line X.env = pure false := by rfl) (hw : swappedStores [(.Subscript o k apos)] e X.env = pure none := by rfl)
    (h1 : (assignEach [(.Subscript o k apos)] X.env).map (·.2) = [assign (.Subscript o k apos) X.env] := by rfl) : SSt F X W z (.Assign [.Subscript o k apos] e pos) (setS i fk f) := ss_set ho hk h (hg ho hk.pe) hs hw h1
theorem spot_ {i : Nat} {j : Nat} {kp : Pos} (ho : PE X o (tVar i)) (h : SE F X W false e f) (hg : PE X o (tVar i) → PG X (.Subscript o (.Constant (.int 0) j kp) apos) (gSub (tVar i) (tC (.int 0)) rSetL))
    (hs : swapsWithSole [(.Subscript o (.Constant (.int 0) j kp) apos)] e pos.line X.env = pure false := by rfl) (hw : swappedStores [(.Subscript o (.Constant (.int 0) j kp) apos)] e X.env = pure none := by rfl)
    (h1 : (assignEach [(.Subscript o (.Constant (.int 0) j kp) apos)] X.env).map (·.2) = [assign (.Subscript o (.Constant (.int 0) j kp) apos) X.env] := by rfl) : SSt F X W z (.Assign [.Subscript o (.Constant (.int 0) j kp) apos] e pos) (spotS i f) := ss_spot ho h (hg ho) hs hw h1
end
variable {a c' d' : Expr} {o o' : CmpOp} {r r' : R2} {op op' : CT → FL.D → FL.D → Option FL.D} {g h : ES}
theorem st_ch (hr : OpR X (compareOp o) r) (hr' : OpR X (compareOp o') r') (hd : OpD F r op) (hd' : OpD F r' op') (ha : SE F X W true a f) (hb : SE F X W true c' g) (hc : SE F X W true d' h)
    (hp : ∀ {ta tb tc : TE}, PE X a ta → PE X c' tb → PE X d' tc → PT X (.Compare a [o, o'] [c', d'] pos) (tTest (tChain r r' ta tb tc))) : ST F X W (.Compare a [o, o'] [c', d'] pos) (asB (chE op op' f g h)) :=
  ⟨pt_imp (hp ha.pe hb.pe hc.pe) fun σ H Q q => by
    obtain ⟨B, s, env, G, c, co, q⟩ := tT_B q
    exact tX_ch (b := true) hd hd' ⟨B, s, env, G, c, co, q⟩⟩
end
section
variable {F : FX} {X : Cx} {W : WX} {b : Bool} {pos p : Pos} {c' a d : Expr} {f : BS} {u v : ES}
theorem if_ (hc : ST F X W c' f) (ha : SE F X W b a u) (hb : SE F X W b d v) : SE F X W b (.IfExp c' a d pos) (ifE f u v) := se_if hc ha hb
variable {k np : Nat} {g : Addr} {fd : FuncData} {ps : List Str} {x : Str} {h : DS}
/-- f() -/
theorem se_call0 (Fo : FnOk X.prog X.w X.K X.mg X.base (L2.CX X.prog X.w) k g fd ps (spF F false 0 h)) (hr : Room k X.A) (hg : Gl X x) (hm : X.mg x = some (.ref g)) (hk : PySem.W.keepIn X.K (.ref g) = true) (hb : Binds X.K fd ps []) (tk : Takes X W) (hdb : (x == ("__debug__" : Str)) = false := by decide) :
    SE F X W b (.Call (.Name x p) [] [] pos) (callE h aNil) := by
  refine ⟨pe_imp (t := tCallS (spF F false 0 h) (WE W) (tA F W false aNil)) ⟨fun pins s σ H Q I hq => ?_⟩ fun _ _ _ q => tX_call (np := 0) al_nil q⟩
  refine wpAny_Call_Name_kw (ld_glob I hg hm ?_ hdb)
  obtain ⟨B, s', env, G, c, co, q⟩ := hq
  have q2 := q [] G H co.rfl rfl
  exact PySem.W.callWith_K0 I.kIn hk (run_fnS Fo hr hb (passAt tk σ) I .nil q2)
end
theorem owns_cx {P : Program} {w : World} {K : PySem.W.Frag} {mg : Str → Option Value} {base : Heap} {N : List Str} {qual : Str} {scope : Scope} {f : Addr} {cd : Value} {A : Around} {outer : List Env} {s : Shared} {H : Hp} {E : XK} :
    PassesOwn (model P w) (cxOf (L2.CX P w) P w K mg base N qual scope f cd A outer s H E).A (cxOf (L2.CX P w) P w K mg base N qual scope f cd A outer s H E).env (cxOf (L2.CX P w) P w K mg base N qual scope f cd A outer s H E).xe :=
  passes_of (X := cxOf (L2.CX P w) P w K mg base N qual scope f cd A outer s H E) (K := fun e s'' => L2.CX P w outer H s E e s'') (E₁ := fun e s'' => L2.CX P w outer H s E e s'') rfl
def negD : CT → FL.D → Option FL.D := fun _ d => match d with
  | .int i => some (.int (-i))
  | _ => none
theorem od_neg {F : FX} : UnD F (rU fun i => .int (-i)) negD := ⟨fun s G H c d v res Q e vo r eo w => by
  cases d with
  | int i => cases eo; exact ⟨i, r.int, w.now e vo rfl⟩
  | _ => cases eo⟩
/-- a def's promise that is never asked -/
theorem fn_bad {P : Program} {w : World} {F : FX} {mg : Str → Option Value} {base : Heap} {k np : Nat} {f : Addr} {fd : FuncData} {ps : List Str} (hn : ps.length = np) : FnOk P w F.K mg base (L2.CX P w) k f fd ps (spF F false np fun _ _ => .bad) :=
  ⟨fun vs H Q E h => by rw [hn]; exact h.1, fun A outer s H args us vs Q E hr e0 hb r h => by
    obtain ⟨_, _, _, _, _, _, _, _, h⟩ := h
    exact h.elim⟩
end FL

set_option Elab.async false
set_option linter.all false
set_option maxRecDepth 100000
set_option maxHeartbeats 4000000
/-! set(xs) of a tuple. -/
namespace FL
open PySem PySem.Spec L2 PyProof.Rows
section
variable {P : Program} {w : World} {A : Around} {E : Value → Shared → Prop} {s : Shared} {a : Addr}
theorem call_setX_tuple {l : Addr} {items : Array Value} (xs : List Str) {Q : Value → Shared → Prop} (hh : A.handled = none) (hl : s.heap.IsTuple l items) (hi : StrsAre items.toList xs) (hb : xs.length + 1 < scanBound)
    (h : ∀ (h' : Heap) (tk : Nat), SetX w h' s.heap.objs.size xs → (∀ b o, s.heap.get? b = some o → h'.get? b = some o) → Q (.ref s.heap.objs.size) { s with heap := h', toks := tk }) :
    wpAny (model P w) A (call (.type "set") [.ref l]) Q E s := by
  have hz : items.size = xs.length := by
    have q := hi.length
    rw [Array.length_toList] at q
    exact q
  obtain ⟨c, tl, hmro⟩ := F.called_set.mro
  have k1 := F.called_set.made
  have k2 := F.called_set.sub
  refine wpAny_call (codeAny_of_tree ?_)
  show wpAny _ _ (callAny (.type "set") _) _ _ _
  refine wpAny_pure ⟨Code.quiet_builtin _ (by decide +kernel), codeAny_builtin F.entry_type_call ?_⟩
  rw [Around.under_plain (weight_type_call_type "set" [.ref l] []) rfl]
  have k3 := F.called_set.notType
  have k4 := F.called_set.canCreate
  have k5 := F.typeCall_set_1 (.ref l)
  repeat (any_goals (first | assumption | wp_step))
  refine codeAny_mono (code_set_led1 (.ref l) (E := E) (Q₁ := fun ob z => ob = .ref s.heap.objs.size ∧ z = { s with heap := s.heap.push (freshX w) }) ⟨rfl, rfl⟩) fun r z hr => ?_
  cases r with
  | error e => exact hr
  | ok fl =>
    cases fl with
    | ret ob =>
      obtain ⟨rfl, rfl⟩ := hr
      have hS : (s.heap.push (freshX w)).get? s.heap.objs.size = some (freshX w) := Heap.get?_push_size _ rfl
      have hT : Shared.TypeIs { s with heap := s.heap.push (freshX w) } (.ref s.heap.objs.size) "set" := ⟨_, hS, rfl⟩
      have j1 := F.called_set.init.lookup
      have j2 := F.called_set.init.bind (.ref s.heap.objs.size)
      repeat (any_goals (first | assumption | wp_step))
      refine codeAny_mono (codeAny_call_builtin (R := wants (fun r z => r = .none ∧ ∃ h' tk, z = { s with heap := h', toks := tk } ∧ SetX w h' s.heap.objs.size xs ∧ ∀ b o, s.heap.get? b = some o → h'.get? b = some o) E) F.called_set.init.plain F.entry_set_init (check_set_init_1 hT ?_)) fun r2 z2 hr2 => ?_
      · obtain ⟨ol, hol, hcl, nl, hdl⟩ := hl
        obtain ⟨oc, od, oda, osl⟩ := ol
        simp only at hcl hdl
        subst hcl; subst hdl
        have hol' : (s.heap.push (freshX w)).get? l = some { cls := .type "tuple", dict := od, data := .seq items nl, slots := osl } := Heap.get?_push_of_some _ hol
        have i1 := F.sub_tuple_set
        have i2 := F.sub_tuple_frozenset
        have i3 : (Value.type "tuple" == Value.type "dict") = false := by decide
        have hl1 : (s.heap.push (freshX w)).IsTuple l items := ⟨_, hol', rfl, nl, rfl⟩
        unfold Builtin.«set.__init__» noKeywords Builtin.Frozenset.updateFrom
        generalize hPI : pyIter = PI
        wp_walk
        subst hPI
        refine wpAny_pyIter_tuple hl1 (wpAny_bind (wpAny_runValue ?_))
        have hlS : l < s.heap.objs.size := Heap.lt_size hol
        have h3 : A.in1.in1.in1.handled = none := by simp [hh]
        have ez : (s.heap.push (freshX w)).objs.size = s.heap.objs.size + 1 := Heap.size_push ..
        have hne : l ≠ (s.heap.push (freshX w)).objs.size := by rw [ez]; exact Nat.ne_of_lt (Nat.lt_succ_of_lt hlS)
        have hSf : s.heap.objs.size ∉ [(s.heap.push (freshX w)).objs.size, l] := by
          rw [ez]
          simp only [List.mem_cons, List.mem_singleton, List.not_mem_nil, or_false, not_or]
          exact ⟨Nat.ne_of_lt (Nat.lt_succ_self _), Nat.ne_of_gt hlS⟩
        have hv : ∀ (i : Nat) (v : Value), items[i]? = some v → ∃ x t, xs[i]? = some x ∧ v = .str x t := fun i v e => by
          have hlt : i < xs.length := by rw [← hz]; exact (Array.getElem?_eq_some_iff.mp e).1
          obtain ⟨t, q⟩ := hi.get i _ (List.getElem?_eq_getElem hlt)
          rw [Array.getElem?_toList, e] at q
          exact ⟨_, t, List.getElem?_eq_getElem hlt, Option.some.inj q⟩
        refine tx_loop ((Walks.tuple h3 _ l hne items).toS) s.heap.objs.size hSf xs hz hb hv (items.size - 0) 0 _ (by omega) (Nat.zero_le _) ⟨⟨_, Heap.get?_push_size _ rfl, rfl, rfl⟩, (hl1.push _)⟩ ?hS0 ?hR
        case hS0 =>
          rw [List.take_zero]
          exact setX_new (Heap.get?_push_of_some _ hS)
        case hR =>
          intro s' hm hS'
          obtain ⟨h', g2, d', tk', os'⟩ := s'
          have eg : g2 = s.gens := hm.gens
          have ed : d' = s.drawn := hm.drawn
          have eo : os' = s.os := hm.os
          subst eg; subst ed; subst eo
          show wpAny _ _ _ _ _ _
          refine wpAny_pure ?_
          show wpAny _ _ (PySem.ret Value.none) _ _ _
          refine wpAny_pure ⟨rfl, h', tk', rfl, hS', fun b o e => ?_⟩
          have hb0 : b < s.heap.objs.size := Heap.lt_size e
          refine hm.heap b o ?_ (Heap.get?_push_of_some _ (Heap.get?_push_of_some _ e))
          simp only [List.mem_cons, List.mem_singleton, List.not_mem_nil, or_false, not_or]
          exact ⟨Nat.ne_of_lt hb0, by rw [ez]; exact Nat.ne_of_lt (Nat.lt_succ_of_lt hb0)⟩
      · cases r2 with
        | error e => exact hr2
        | ok fl2 =>
          cases fl2 with
          | ret r =>
            obtain ⟨rfl, h', tk, rfl, hS', hk'⟩ := hr2
            repeat (any_goals (first | assumption | wp_step))
            exact h _ _ hS' hk'
          | _ => exact hr2.elim
    | _ => exact hr.elim
end
end FL

set_option Elab.async false
set_option linter.all false
set_option maxRecDepth 100000
set_option maxHeartbeats 4000000
/-! set(xs) of a list. -/
namespace FL
open PySem PySem.Spec L2 PyProof.Rows
section
variable {P : Program} {w : World} {A : Around} {E : Value → Shared → Prop} {s : Shared} {a : Addr}
theorem call_setX_list {l : Addr} {items : Array Value} (xs : List Str) {Q : Value → Shared → Prop} (hh : A.handled = none) (hl : s.heap.IsList l items) (hi : StrsAre items.toList xs) (hb : xs.length + 1 < scanBound)
    (h : ∀ (h' : Heap) (tk : Nat), SetX w h' s.heap.objs.size xs → (∀ b o, s.heap.get? b = some o → h'.get? b = some o) → Q (.ref s.heap.objs.size) { s with heap := h', toks := tk }) :
    wpAny (model P w) A (call (.type "set") [.ref l]) Q E s := by
  have hz : items.size = xs.length := by
    have q := hi.length
    rw [Array.length_toList] at q
    exact q
  obtain ⟨c, tl, hmro⟩ := F.called_set.mro
  have k1 := F.called_set.made
  have k2 := F.called_set.sub
  refine wpAny_call (codeAny_of_tree ?_)
  show wpAny _ _ (callAny (.type "set") _) _ _ _
  refine wpAny_pure ⟨Code.quiet_builtin _ (by decide +kernel), codeAny_builtin F.entry_type_call ?_⟩
  rw [Around.under_plain (weight_type_call_type "set" [.ref l] []) rfl]
  have k3 := F.called_set.notType
  have k4 := F.called_set.canCreate
  have k5 := F.typeCall_set_1 (.ref l)
  repeat (any_goals (first | assumption | wp_step))
  refine codeAny_mono (code_set_led1 (.ref l) (E := E) (Q₁ := fun ob z => ob = .ref s.heap.objs.size ∧ z = { s with heap := s.heap.push (freshX w) }) ⟨rfl, rfl⟩) fun r z hr => ?_
  cases r with
  | error e => exact hr
  | ok fl =>
    cases fl with
    | ret ob =>
      obtain ⟨rfl, rfl⟩ := hr
      have hS : (s.heap.push (freshX w)).get? s.heap.objs.size = some (freshX w) := Heap.get?_push_size _ rfl
      have hT : Shared.TypeIs { s with heap := s.heap.push (freshX w) } (.ref s.heap.objs.size) "set" := ⟨_, hS, rfl⟩
      have j1 := F.called_set.init.lookup
      have j2 := F.called_set.init.bind (.ref s.heap.objs.size)
      repeat (any_goals (first | assumption | wp_step))
      refine codeAny_mono (codeAny_call_builtin (R := wants (fun r z => r = .none ∧ ∃ h' tk, z = { s with heap := h', toks := tk } ∧ SetX w h' s.heap.objs.size xs ∧ ∀ b o, s.heap.get? b = some o → h'.get? b = some o) E) F.called_set.init.plain F.entry_set_init (check_set_init_1 hT ?_)) fun r2 z2 hr2 => ?_
      · obtain ⟨ol, hol, hcl, nl, hdl⟩ := hl
        obtain ⟨oc, od, oda, osl⟩ := ol
        simp only at hcl hdl
        subst hcl; subst hdl
        have hol' : (s.heap.push (freshX w)).get? l = some { cls := .type "list", dict := od, data := .seq items nl, slots := osl } := Heap.get?_push_of_some _ hol
        have i1 := F.sub_list_set
        have i2 := F.sub_list_frozenset
        have i3 : (Value.type "list" == Value.type "dict") = false := by decide
        have hl1 : (s.heap.push (freshX w)).IsList l items := ⟨_, hol', rfl, nl, rfl⟩
        unfold Builtin.«set.__init__» noKeywords Builtin.Frozenset.updateFrom
        generalize hPI : pyIter = PI
        wp_walk
        subst hPI
        refine wpAny_pyIter_list hl1 (wpAny_bind (wpAny_runValue ?_))
        have hlS : l < s.heap.objs.size := Heap.lt_size hol
        have h3 : A.in1.in1.in1.handled = none := by simp [hh]
        have ez : (s.heap.push (freshX w)).objs.size = s.heap.objs.size + 1 := Heap.size_push ..
        have hne : l ≠ (s.heap.push (freshX w)).objs.size := by rw [ez]; exact Nat.ne_of_lt (Nat.lt_succ_of_lt hlS)
        have hSf : s.heap.objs.size ∉ [(s.heap.push (freshX w)).objs.size, l] := by
          rw [ez]
          simp only [List.mem_cons, List.mem_singleton, List.not_mem_nil, or_false, not_or]
          exact ⟨Nat.ne_of_lt (Nat.lt_succ_self _), Nat.ne_of_gt hlS⟩
        have hv : ∀ (i : Nat) (v : Value), items[i]? = some v → ∃ x t, xs[i]? = some x ∧ v = .str x t := fun i v e => by
          have hlt : i < xs.length := by rw [← hz]; exact (Array.getElem?_eq_some_iff.mp e).1
          obtain ⟨t, q⟩ := hi.get i _ (List.getElem?_eq_getElem hlt)
          rw [Array.getElem?_toList, e] at q
          exact ⟨_, t, List.getElem?_eq_getElem hlt, Option.some.inj q⟩
        refine tx_loop ((Walks.list h3 _ l hne items).toS) s.heap.objs.size hSf xs hz hb hv (items.size - 0) 0 _ (by omega) (Nat.zero_le _) ⟨⟨_, Heap.get?_push_size _ rfl, rfl, rfl⟩, (hl1.push _)⟩ ?hS0 ?hR
        case hS0 =>
          rw [List.take_zero]
          exact setX_new (Heap.get?_push_of_some _ hS)
        case hR =>
          intro s' hm hS'
          obtain ⟨h', g2, d', tk', os'⟩ := s'
          have eg : g2 = s.gens := hm.gens
          have ed : d' = s.drawn := hm.drawn
          have eo : os' = s.os := hm.os
          subst eg; subst ed; subst eo
          show wpAny _ _ _ _ _ _
          refine wpAny_pure ?_
          show wpAny _ _ (PySem.ret Value.none) _ _ _
          refine wpAny_pure ⟨rfl, h', tk', rfl, hS', fun b o e => ?_⟩
          have hb0 : b < s.heap.objs.size := Heap.lt_size e
          refine hm.heap b o ?_ (Heap.get?_push_of_some _ (Heap.get?_push_of_some _ e))
          simp only [List.mem_cons, List.mem_singleton, List.not_mem_nil, or_false, not_or]
          exact ⟨Nat.ne_of_lt hb0, by rw [ez]; exact Nat.ne_of_lt (Nat.lt_succ_of_lt hb0)⟩
      · cases r2 with
        | error e => exact hr2
        | ok fl2 =>
          cases fl2 with
          | ret r =>
            obtain ⟨rfl, h', tk, rfl, hS', hk'⟩ := hr2
            repeat (any_goals (first | assumption | wp_step))
            exact h _ _ hS' hk'
          | _ => exact hr2.elim
    | _ => exact hr.elim
end
end FL

set_option Elab.async false
set_option linter.all false
set_option maxRecDepth 100000
set_option maxHeartbeats 4000000
/-! E3: sorted(set of texts), in, not in, len. -/
namespace FL
open PySem PySem.Spec L2 PyProof.Rows SrtO
/-- the members, in their order -/
def memS (xs : List Str) : List Str := (sortS xs).eraseDups
section
variable {P : Program} {w : World} {A : Around} {E : Value → Shared → Prop} {s : Shared} {a : Addr} {xs : List Str}
theorem setH_new {H : Hp} {h : Heap} (R : SetX w h a xs) : ObjOk P w H h a (setH w a xs) := by
  have ⟨o, _, _, _, ho, _⟩ := R
  exact ⟨R, ⟨o, ho⟩, fun h1 h2 p k => SetX.at p k⟩
theorem srt_nodup_uniq : ∀ {l m : List Str}, Srtd ltS l → Srtd ltS m → l.Nodup → m.Nodup → (∀ x, x ∈ l ↔ x ∈ m) → l = m
  | [], [], _, _, _, _, _ => rfl
  | [], y :: m, _, _, _, _, h => absurd ((h y).mpr List.mem_cons_self) (by simp)
  | x :: l, [], _, _, _, _, h => absurd ((h x).mp List.mem_cons_self) (by simp)
  | x :: l, y :: m, hl, hm, dl, dm, h => by
    obtain ⟨l1, l2⟩ := List.pairwise_cons.mp hl
    obtain ⟨m1, m2⟩ := List.pairwise_cons.mp hm
    obtain ⟨d1, d2⟩ := List.nodup_cons.mp dl
    obtain ⟨e1, e2⟩ := List.nodup_cons.mp dm
    have q1 : ltS x y = false := by
      rcases List.mem_cons.mp ((h x).mp List.mem_cons_self) with e | z
      · rw [e]; exact swo_str.refl y
      · exact m1 x z
    have q2 : ltS y x = false := by
      rcases List.mem_cons.mp ((h y).mpr List.mem_cons_self) with e | z
      · rw [e]; exact swo_str.refl x
      · exact l1 y z
    obtain rfl := ltS_eq q1 q2
    rw [srt_nodup_uniq l2 m2 d2 e2 fun z => ⟨fun hz => ?_, fun hz => ?_⟩]
    · rcases List.mem_cons.mp ((h z).mp (List.mem_cons_of_mem _ hz)) with e | q
      · rw [e] at hz; exact absurd hz d1
      · exact q
    · rcases List.mem_cons.mp ((h z).mpr (List.mem_cons_of_mem _ hz)) with e | q
      · rw [e] at hz; exact absurd hz e1
      · exact q
theorem txs_of : ∀ (l : List Value), (∀ v ∈ l, ∃ x t, v = Value.str x t) → StrsAre l (l.map strOf)
  | [], _ => .nil
  | v :: l, h => by
    obtain ⟨x, t, rfl⟩ := h v List.mem_cons_self
    exact .cons x t (txs_of l fun u hu => h u (List.mem_cons_of_mem _ hu))
theorem sorted_setX {Q : Value → Shared → Prop} (R : SetX w s.heap a xs) (hh : A.handled = none)
    (hQ : ∀ s' p (out : List Value) (c : Nat) (ys : List Str), (∀ b o, s.heap.get? b = some o → s'.heap.get? b = some o) → s'.gens = s.gens → s'.os = s.os → s.heap.objs.size ≤ p →
      s'.heap.get? p = some (seqObj "list" out.toArray c) → StrsAre out ys → Srtd ltS ys → ys.Nodup → (∀ x, x ∈ ys ↔ x ∈ xs) → ys.length < scanBound → Q (.ref p) s') :
    wpAny (model P w) A (call (.builtin "sorted") [.ref a]) Q E s := by
  obtain ⟨o, es, ep, t, ho, hex, hd, g, nd, hm, hb, hf, hr, hl⟩ := R
  refine Calls.call_function_entry kind_sorted plain_sorted entry_sorted (args_sorted1 _) ?_
  unfold Builtin.«sorted»
  refine wpAny_bind (m := checkCount "sorted" 1 1 _) (wpAny_pure ?_)
  refine wpAny_bind (collect_set (A := A.in1) hh ⟨o, ho, hex.1, hd⟩ hf hb hr hl fun s1 vs k1 hz g1 o1 pm => ?_)
  have hvl : vs.length = es.size := by rw [pm.length_eq, List.length_map, Array.length_toList]
  have hI : StrsAre vs (vs.map strOf) := txs_of vs fun v hv => by
    obtain ⟨e, he, q⟩ := List.mem_map.mp (pm.mem_iff.mp hv)
    obtain ⟨x, t, h1, _⟩ := g e he
    exact ⟨x, t, by rw [← q]; exact h1⟩
  have pk : (vs.map strOf).Perm (es.toList.map stx) := by
    have q := pm.map strOf
    rw [List.map_map] at q
    refine q.trans (List.Perm.of_eq (List.map_congr_left fun e he => ?_))
    obtain ⟨x, t, h1, _⟩ := g e he
    show strOf e.2 = stx e
    unfold stx
    rw [h1]
    rfl
  have hsl : vs.length ≤ sizeLine := by rw [hvl]; exact fits_of_scanBound hb
  refine wpAny_bind (wpAny_newList ?_ hsl)
  have hoL : (s1.heap.push (seqObj "list" vs.toArray 0)).get? s1.heap.objs.size = some (seqObj "list" vs.toArray 0) := Heap.get?_push_size _ rfl
  refine wpAny_bind (wpAny_holding (wpAny_call_entry slot_list_sort ⟨_, hoL, rfl⟩ entry_list_sort (list_sort_ord swo_strv hoL hsl (fun h2 => strs_sortable hI h2) fun out hs hst => ⟨_, rfl, ?_⟩) (args_list_sort _)))
  have k2 := strs_out hI hs hst
  obtain ⟨c, hc⟩ := sortedHeap_at (vs := vs) (out := out.toArray) hoL
  have pn : (sortS (vs.map strOf)).Perm (es.toList.map stx) := (sortS_perm _).trans pk
  refine wpAny_pure ⟨_, rfl, hQ _ s1.heap.objs.size out c _ (fun b u e => ?_) g1 o1 hz hc k2 (sortS_srt _) (pn.nodup_iff.mpr nd) (fun x => by rw [pn.mem_iff, ← hm x]) ?_⟩
  · have q := k1 b u e
    have hlt := Heap.lt_size q
    show (sortedHeap (s1.heap.push (seqObj "list" vs.toArray 0)) s1.heap.objs.size vs out.toArray).get? b = some u
    rw [sortedHeap_old (Nat.ne_of_lt hlt) (by rw [size_push']; exact Nat.lt_succ_of_lt hlt)]
    exact Heap.get?_push_of_some _ q
  · rw [pn.length_eq, List.length_map, Array.length_toList]
    exact hb
end
end FL

set_option Elab.async false
set_option linter.all false
set_option maxRecDepth 100000
set_option maxHeartbeats 2000000
/-! S1: set(xs), sorted(set(xs)) as data. -/
namespace FL
open PySem PySem.Spec L2 PyProof.Rows SrtO
open Evl (Ex)
/-! ### rising -/
def dd : List Str → List Str → List Str
  | made, [] => made
  | made, x :: r => if x ∈ made then dd made r else dd (made ++ [x]) r
def ris (xs : List Str) : List Str := dd [] (sortS xs)
theorem dd_mem : ∀ (r made : List Str) (y : Str), y ∈ dd made r ↔ y ∈ made ∨ y ∈ r
  | [], made, y => by simp [dd]
  | x :: r, made, y => by
    unfold dd
    by_cases h : x ∈ made
    · rw [if_pos h, dd_mem r made y, List.mem_cons]
      constructor
      · rintro (q | q)
        · exact .inl q
        · exact .inr (.inr q)
      · rintro (q | q | q)
        · exact .inl q
        · rw [q]; exact .inl h
        · exact .inr q
    · rw [if_neg h, dd_mem r (made ++ [x]) y, List.mem_append, List.mem_singleton, List.mem_cons]
      constructor
      · rintro ((q | q) | q)
        · exact .inl q
        · exact .inr (.inl q)
        · exact .inr (.inr q)
      · rintro (q | q | q)
        · exact .inl (.inl q)
        · exact .inl (.inr q)
        · exact .inr q
theorem ris_mem (xs : List Str) (y : Str) : y ∈ ris xs ↔ y ∈ xs := by
  unfold ris
  rw [dd_mem, (sortS_perm xs).mem_iff]
  simp
theorem dd_len : ∀ (r made : List Str), (dd made r).length ≤ made.length + r.length
  | [], made => Nat.le_refl _
  | x :: r, made => by
    unfold dd
    split
    · have := dd_len r made
      rw [List.length_cons]; omega
    · have := dd_len r (made ++ [x])
      rw [List.length_append] at this
      rw [List.length_cons]
      have h1 : [x].length = 1 := rfl
      omega
theorem ris_len (xs : List Str) : (ris xs).length ≤ xs.length := by
  have := dd_len (sortS xs) []
  rw [(sortS_perm xs).length_eq] at this
  unfold ris
  simpa using this
/-- strictly rising -/
abbrev Up (l : List Str) : Prop := l.Pairwise fun x y => ltS x y = true
theorem ltS_of {x y : Str} (h : ltS y x = false) (n : x ≠ y) : ltS x y = true := by
  cases e : ltS x y with
  | true => rfl
  | false => exact absurd (ltS_eq e h) n
theorem dd_up : ∀ (r made : List Str), Up made → SrtO.Srtd ltS r → (∀ x ∈ made, ∀ y ∈ r, ltS y x = false) → Up (dd made r)
  | [], made, h, _, _ => h
  | x :: r, made, h, hs, hm => by
    obtain ⟨h1, h2⟩ := List.pairwise_cons.mp hs
    unfold dd
    by_cases q : x ∈ made
    · rw [if_pos q]
      exact dd_up r made h h2 fun a ha b hb => hm a ha b (List.mem_cons_of_mem _ hb)
    · rw [if_neg q]
      refine dd_up r (made ++ [x]) (List.pairwise_append.mpr ⟨h, List.pairwise_singleton _ _, fun a ha b hb => ?_⟩) h2 fun a ha b hb => ?_
      · rw [List.mem_singleton.mp hb]
        exact ltS_of (hm a ha x List.mem_cons_self) fun z => q (z ▸ ha)
      · rcases List.mem_append.mp ha with ha | ha
        · exact hm a ha b (List.mem_cons_of_mem _ hb)
        · rw [List.mem_singleton.mp ha]
          exact h1 b hb
theorem ris_up (xs : List Str) : Up (ris xs) := dd_up _ _ List.Pairwise.nil (sortS_srt xs) fun _ h => absurd h (by simp)
theorem up_srt {l : List Str} (h : Up l) : SrtO.Srtd ltS l := h.imp fun h => swo_str.asym _ _ h
theorem dd_self : ∀ (r made : List Str), Up (made ++ r) → dd made r = made ++ r
  | [], made, _ => by simp [dd]
  | x :: r, made, h => by
    have hn : x ∉ made := fun q => by
      have := (List.pairwise_append.mp h).2.2 x q x List.mem_cons_self
      rw [swo_str.refl] at this
      cases this
    unfold dd
    rw [if_neg hn, dd_self r (made ++ [x]) (by rw [List.append_assoc]; exact h), List.append_assoc]
    rfl
theorem ris_self {l : List Str} (h : Up l) : ris l = l := by
  unfold ris
  rw [srt_uniq (sortS_srt l) (up_srt h) (sortS_perm l)]
  exact dd_self l [] h
theorem ris_iff (l : List Str) : ris l = l ↔ Up l := ⟨fun h => h ▸ ris_up l, ris_self⟩

theorem up_nodup {l : List Str} (h : Up l) : l.Nodup := h.imp fun {x y} q z => by
  subst z
  rw [swo_str.refl] at q
  cases q
theorem ris_is {l xs : List Str} (h1 : Srtd ltS l) (h2 : l.Nodup) (h3 : ∀ x, x ∈ l ↔ x ∈ xs) : l = ris xs :=
  srt_nodup_uniq h1 (up_srt (ris_up xs)) h2 (up_nodup (ris_up xs)) fun x => (h3 x).trans (ris_mem xs x).symm
/-! ### the calls -/
def rSetX (K : PySem.W.Frag) (w : World) : List V → Hp → VK → Prop := fun vs H Q => ∃ (a : Addr) (xs : List Str), vs = [V.ref a] ∧ (SqL K H a (xs.map V.str) ∨ SqT K H a (xs.map V.str)) ∧ xs.length < 4000 ∧ ∀ p : Addr, H p = none → Q (.ref p) (upd H p (setH w p xs))
theorem cr_setX {X : Cx} (hc : X.calm = true) : CallR X (.type "set") (rSetX X.K X.w) := by
  intro pins s σ H vs us Q I r h
  obtain ⟨a, xs, rfl, hs, hl, q⟩ := h
  rw [Vals.ref1 r]
  have hb : xs.length + 1 < scanBound := by unfold scanBound; omega
  have fin : ∀ (h' : Heap) (tk : Nat), SetX X.w h' s.heap.objs.size xs → (∀ b o, s.heap.get? b = some o → h'.get? b = some o) → EP X pins σ Q (.ref s.heap.objs.size) { s with heap := h', toks := tk } := fun h' tk R k =>
    ⟨.ref _, upd H s.heap.objs.size (setH X.w s.heap.objs.size xs), I.laid (t' := tk) k (Nat.le_refl _) (setH_new R), rfl, q _ (I.hok.fresh (Nat.le_refl _))⟩
  rcases hs with hs | hs
  · obtain ⟨its, rv, pl, hz⟩ := I.list hs
    exact call_setX_list xs (I.ok.hd hc) pl.isList (by simpa using rv.strs) hb fun h' tk R k => fin h' tk R k
  · obtain ⟨its, rv, pl, hz⟩ := I.tuple hs
    exact call_setX_tuple xs (I.ok.hd hc) pl (by simpa using rv.strs) hb fun h' tk R k => fin h' tk R k
def rSortX (w : World) : List V → Hp → VK → Prop := fun vs H Q => ∃ (a : Addr) (xs : List Str), vs = [V.ref a] ∧ H a = some (setH w a xs) ∧ ∀ p : Addr, H p = none → Q (.ref p) (upd H p (.lst ((ris xs).map V.str)))
theorem cr_sortX {X : Cx} (hc : X.calm = true) : CallR X (.builtin "sorted") (rSortX X.w) := by
  intro pins s σ H vs us Q I r h
  obtain ⟨a, xs, rfl, ha, q⟩ := h
  have R : SetX X.w s.heap a xs := (I.hok a _ ha).1
  rw [Vals.ref1 r]
  refine sorted_setX R (I.ok.hd hc) fun s' p out c ys k g o hp hg hi h1 h2 h3 hl => ?_
  obtain rfl := ris_is h1 h2 h3
  have hlen : ((ris xs).map V.str).length ≤ sizeLine := by
    rw [List.length_map]
    exact fits_of_scanBound hl
  have hn : H p = none := I.hok.fresh hp
  have J : Inv X pins σ (upd H p (.lst ((ris xs).map V.str))) { s with heap := s'.heap, gens := s'.gens, drawn := s'.drawn, toks := s'.toks } :=
    I.call (ch := []) (Un.laid k hp hn) (I.hok.laid k hp ⟨hlen, out, c, vals_of_strs hi, hg⟩) (by rw [g]; exact I.bare) (fun _ z => nomatch z)
  have e : s' = { s with heap := s'.heap, gens := s'.gens, drawn := s'.drawn, toks := s'.toks } := by
    cases s'
    cases s
    cases o
    rfl
  rw [e]
  exact ⟨.ref p, _, J, rfl, q p hn⟩
/-! ### as data -/
section
variable {F : FX}
theorem Want.set {s : Option Addr} {G H : Hp} {c : CT} {xs : List Str} {Q : VK} (e : Ex G H) (vo : Vol F s c G H) (w : Want F s G H c (.set xs) Q) : ∀ p, H p = none → Q (.ref p) (upd H p (setH F.w p xs)) := fun p hp =>
  w (.ref p) _ _ ((Nxt.refl e vo).new (o := setH F.w p xs) hp) ⟨p, rfl, upd_same⟩
def mkSet (xs : List Str) : Option FL.D := if xs.length < 4000 then some (.set xs) else none
def setX (d : FL.D) : Option FL.D := match d with
  | .lst ds => (strsO ds).bind mkSet
  | .tup ds => (strsO ds).bind mkSet
  | _ => none
def setD := on1 setX
theorem mkSet_of {o : Option (List Str)} {res : FL.D} (h : o.bind mkSet = some res) : ∃ xs, o = some xs ∧ xs.length < 4000 ∧ res = .set xs := by
  cases o with
  | none => cases h
  | some xs =>
    have h : (if xs.length < 4000 then some (FL.D.set xs) else none) = some res := h
    by_cases hl : xs.length < 4000
    · rw [if_pos hl] at h
      cases h
      exact ⟨xs, rfl, hl, rfl⟩
    · rw [if_neg hl] at h
      cases h
theorem cd_setX : CaD F (rSetX F.K F.w) setD := cd1 fun s G H c d v res Q e vo r1 eo w => by
  cases d with
  | lst ds =>
    obtain ⟨xs, h1, h2, rfl⟩ := mkSet_of (show (strsO ds).bind mkSet = some res from eo)
    obtain ⟨a, vs, rfl, k1, k2⟩ := r1.list e
    obtain ⟨rfl, _⟩ := strsO_rep h1 k2
    exact ⟨a, xs, rfl, .inl (.inl (.inl k1)), h2, w.set e vo⟩
  | tup ds =>
    obtain ⟨xs, h1, h2, rfl⟩ := mkSet_of (show (strsO ds).bind mkSet = some res from eo)
    obtain ⟨a, vs, rfl, k1, k2⟩ := r1.tup e
    obtain ⟨rfl, _⟩ := strsO_rep h1 k2
    exact ⟨a, xs, rfl, .inr k1, h2, w.set e vo⟩
  | _ => cases eo
def sortY (d : FL.D) : Option FL.D := match d with
  | .set xs => some (.lst ((ris xs).map FL.D.str))
  | d => sortX d
def sortH := on1 sortY
def rSortH (K : PySem.W.Frag) (w : World) : List V → Hp → VK → Prop := fun vs H Q => rSortG K vs H Q ∨ rSortX w vs H Q
theorem cr_sortH {X : Cx} (hc : X.calm = true) : CallR X (.builtin "sorted") (rSortH X.K X.w) := fun pins s σ H vs us Q I r h => h.elim (fun h => cr_sortG pins s σ H vs us Q I r h) fun h => cr_sortX hc pins s σ H vs us Q I r h
theorem cd_sortH : CaD F (rSortH F.K F.w) sortH := ⟨fun s G H c ds vs res Q e vo r eo w => by
  match ds, r with
  | [.set xs], ⟨v, r', h1, h2, h3⟩ =>
    cases (show some (FL.D.lst ((ris xs).map FL.D.str)) = some res from eo)
    subst h1
    cases (show r' = [] from h3)
    rcases h2 with ⟨a, rfl, k⟩ | ⟨_, p, vs, ds, q, _⟩
    · exact .inr ⟨a, xs, rfl, e a _ k, w.lst e vo (rep_strs _)⟩
    · cases q
  | [.non], r => exact .inl (cd_sort.run s G H c _ vs res Q e vo r eo w)
  | [.bl _], r => exact .inl (cd_sort.run s G H c _ vs res Q e vo r eo w)
  | [.int _], r => exact .inl (cd_sort.run s G H c _ vs res Q e vo r eo w)
  | [.str _], r => exact .inl (cd_sort.run s G H c _ vs res Q e vo r eo w)
  | [.tup _], r => exact .inl (cd_sort.run s G H c _ vs res Q e vo r eo w)
  | [.lst _], r => exact .inl (cd_sort.run s G H c _ vs res Q e vo r eo w)
  | [.spt], r => exact .inl (cd_sort.run s G H c _ vs res Q e vo r eo w)
  | [.scr _], r => exact .inl (cd_sort.run s G H c _ vs res Q e vo r eo w)
  | [.ty _], r => exact .inl (cd_sort.run s G H c _ vs res Q e vo r eo w)
  | [.exn _ _ _ _ _], r => exact .inl (cd_sort.run s G H c _ vs res Q e vo r eo w)
  | [.sti _], r => exact .inl (cd_sort.run s G H c _ vs res Q e vo r eo w)
  | [.dct _ _], r => exact .inl (cd_sort.run s G H c _ vs res Q e vo r eo w)
  | [], r => cases eo
  | _ :: _ :: _, r => cases eo⟩
end
end FL

set_option Elab.async false
set_option linter.all false
set_option maxRecDepth 100000
set_option maxHeartbeats 4000000
/-! X1: an exception of one's own over Exception, made by its own __init__. -/
namespace FL
open PySem PySem.Spec PySem.W PySem.Calls L2 PyProof.Rows Builtin Builtin.ObjectAttr
abbrev exB : List Value := [.type "Exception", .type "BaseException", .type "object"]
/-- what the written part says of such a class -/
structure OexE (K : PySem.W.Frag) (C : Addr) : Prop where
  ini : excInitIn K C exB "Exception.__new__" = true
  ovr : excOver K C exB = true
  hd : hasDictIn K C = true
  sa : findIn K (.ref C) "__setattr__" = some (some (.builtin "object.__setattr__"))
  exC : subIn K (.ref C) (.type "BaseException") = some true
  tyC : typeIn K (.ref C) = some (.type "type")
  kC : keepIn K (.ref C) = true
def oexB (K : PySem.W.Frag) (C : Addr) : Bool := excInitIn K C exB "Exception.__new__" && (excOver K C exB && (hasDictIn K C && (decide (findIn K (.ref C) "__setattr__" = some (some (.builtin "object.__setattr__"))) && (decide (subIn K (.ref C) (.type "BaseException") = some true) && (decide (typeIn K (.ref C) = some (.type "type")) && keepIn K (.ref C))))))
theorem oexB_ok {K : PySem.W.Frag} {C : Addr} (h : oexB K C = true) : OexE K C := by
  unfold oexB at h
  simp only [Bool.and_eq_true, decide_eq_true_eq] at h
  obtain ⟨h1, h2, h3, h4, h5, h6, h7⟩ := h
  exact ⟨h1, h2, h3, h4, h5, h6, h7⟩
section
variable {prog : Program} {w : World} {A : Around} {R : Result → Shared → Prop} {hp : Heap} {g : Array GenState} {d : Drawn} {t : Nat} {os : OsState} {K : PySem.W.Frag} {C : Addr}
abbrev xob (C t1 : Addr) (dd : Option Addr) : Obj := { cls := .ref C, dict := dd, data := .fields #[.ref t1, .none, .none, .none, .bool false, .none] }
/-- the first field -/
theorem osa_first {name : Str} {tk : Tok} {v : Value} {x t1 : Addr} (X : K.In hp) (hx : hp.get? x = some (xob C t1 none)) (T : OexE K C) (ht : takerIn K C name = some none)
    (hq : ∀ h' tk' dx, (∀ b o, b ≠ x → hp.get? b = some o → h'.get? b = some o) → hp.objs.size ≤ dx → dx ≠ x → h'.get? x = some (xob C t1 (some dx)) → h'.Ns1 dx (fun y => if y = name then some v else none) → R (.ok (.ret .none)) ⟨h', g, d, tk', os⟩) :
    codeAny (model prog w) A (.call (.builtin "object.__setattr__") ⟨[.ref x, .str name tk, v], []⟩) R ⟨hp, g, d, t, os⟩ := by
  obtain ⟨cd, hc, hd'⟩ := any_some T.hd
  have hxs : x ≠ hp.objs.size := Nat.ne_of_lt (Heap.lt_size hx)
  refine osa_openX (od := none) PySem.F.store_Exception X ⟨hx, rfl, rfl, trivial⟩ T.ovr ht fun b => ?_
  refine wpAny_bind (wpAny_pure (wpAny_bind (instanceDict_exc hx (looks_clsIn X hc) hd' ?_)))
  show wpAny _ _ (storeInDict hp.objs.size (.str name tk) name v) _ _ _
  have hx1 : (hp.push (dictOf [] 0)).get? x = some (xob C t1 none) := Heap.get?_push_of_some _ hx
  refine PySem.HandSPX.store_in_new ?_ fun h' tk' hn hs => ?_
  · exact ⟨_, #[], _, (Heap.get?_update_ne _ _ _ _ hxs.symm).trans (Heap.get?_push_at rfl rfl), rfl, fun e he => absurd he (by simp), fun _ => rfl⟩
  · refine hq h' tk' hp.objs.size (fun b o hb ho => ?_) (Nat.le_refl _) hxs.symm ?_ hn
    · exact (hs.2 b (Nat.ne_of_lt (Heap.lt_size ho))).trans ((Heap.get?_update_ne _ _ _ _ hb).trans (Heap.get?_push_of_some _ ho))
    · exact (hs.2 x hxs).trans (Heap.get?_update_self _ hx1 rfl)
/-- a further field -/
theorem osa_more {name : Str} {tk : Tok} {v : Value} {x t1 dx : Addr} {m0 : Str → Option Value} {nl : List Str} (X : K.In hp) (hx : hp.get? x = some (xob C t1 (some dx))) (hns : hp.Ns1 dx m0) (hw : Within m0 nl) (hz : nl.length ≤ 1000) (T : OexE K C) (ht : takerIn K C name = some none)
    (hq : ∀ h' tk', (∀ b o, b ≠ dx → hp.get? b = some o → h'.get? b = some o) → h'.Ns1 dx (fun y => if y = name then some v else m0 y) → R (.ok (.ret .none)) ⟨h', g, d, tk', os⟩) :
    codeAny (model prog w) A (.call (.builtin "object.__setattr__") ⟨[.ref x, .str name tk, v], []⟩) R ⟨hp, g, d, t, os⟩ := by
  obtain ⟨cd, hc, hd'⟩ := any_some T.hd
  obtain ⟨oD, esD, epD, hoD, hdD, _⟩ := hns.count hw
  refine osa_openX (od := some oD) PySem.F.store_Exception X ⟨hx, rfl, rfl, hoD⟩ T.ovr ht fun b => ?_
  refine wpAny_bind (wpAny_pure (wpAny_bind (wpAny_bind (wpAny_loadPart hx (wpAny_bind ((looks_clsIn X hc).here ?_))))))
  rw [hd']
  refine wpAny_pure (a := some dx) ?_
  show wpAny _ _ (storeInDict dx (.str name tk) name v) _ _ _
  exact PySem.OEX.store_in_old hns hw hz fun h' tk' hn hs => hq h' tk' (fun b o hb ho => (hs.2 b hb).trans ho) hn
end
section
variable {X : Cx} {pins : List (Addr × Obj)} {σ : L2.St} {H : Hp} {s : Shared} {a C dx : Addr} {f : Str} {y : V} {u : Value} {fs : List (Str × V)} {Q : Unit → Shared → Prop} {E : Value → Shared → Prop} {A : Around}
theorem oxe_new (T : OexE X.K C) (I : Inv X pins σ H s) (e : H a = some (exo a C none)) (ht : takerIn X.K C f = some none) (ry : RelV y u)
    (h : ∀ dx s', H dx = none → dx ≠ a → Inv X pins σ (upd (upd H dx (exd dx [(f, y)])) a (exo a C (some dx))) s' → Q () s') : wpAny (model X.prog X.w) A (setAttr (.ref a) f u) Q E s := by
  obtain ⟨t1, ho⟩ := exo_at I.hok e
  obtain ⟨hp, g, d, t, os⟩ := s
  refine set_plain I.kIn (ox := xob C t1 none) (od := none) ⟨ho, rfl, rfl, trivial⟩ T.sa (osa_first I.kIn ho T ht fun h' tk' dx k dn dne hx hn => ?_)
  have hnd : H dx = none := I.hok.fresh dn
  have nd : ∀ {b : Addr} {o : Obj}, hp.get? b = some o → b ≠ dx := fun q => Nat.ne_of_lt (Nat.lt_of_lt_of_le (Heap.lt_size q) dn)
  have na : ∀ {b : Addr}, H b = none → b ≠ a := fun n z => by rw [z, e] at n; cases n
  refine h dx _ hnd dne (I.un (t' := tk') (H' := upd (upd H dx (exd dx [(f, y)])) a (exo a C (some dx))) (h' := h') ⟨fun b o q n _ _ => k b o (na n) q, fun b o q n _ _ => ⟨o.slots, k b o (na n) q⟩, fun b o q n _ => by rw [upd_ne (na n), upd_ne (nd q)]; exact n, fun b o q _ => ?_,
    fun b xs q => by rw [upd_ne (at_ne e q exo_tup), upd_ne (ne_of_none q hnd)]; exact q, fun b o v q => by rw [upd_ne (at_ne e q exo_frz), upd_ne (ne_of_none q hnd)]; exact q, fun b ps q => ⟨#[], by rw [upd_ne (at_ne e q exo_tbl), upd_ne (ne_of_none q hnd), q]; simp⟩⟩ fun b o q => ?_)
  · by_cases hb : b = a
    · exact ⟨_, by rw [hb]; exact hx⟩
    · exact ⟨o, k b o hb q⟩
  by_cases hb : b = a
  · subst hb
    rw [upd_same] at q
    cases q
    exact exo_ok hx
  rw [upd_ne hb] at q
  by_cases hd : b = dx
  · subst hd
    rw [upd_same] at q
    cases q
    exact exd_ok hn (relO_put (fs := []) ry fun _ => True.intro)
  rw [upd_ne hd] at q
  refine (I.hok b o q).stay (fun c v hc z => k c v ?_ z) (fun c hc => by rw [upd_ne (at_ne e hc exo_own), upd_ne (ne_of_none hc hnd)]; exact hc) fun c xs hc => by rw [upd_ne (at_ne e hc exo_tup), upd_ne (ne_of_none hc hnd)]; exact hc
  rcases hc with hc | hc
  · rw [hc]; exact hb
  · exact at_ne e hc exo_own
theorem oxe_old (T : OexE X.K C) (I : Inv X pins σ H s) (e : H a = some (exo a C (some dx))) (ed : H dx = some (exd dx fs)) (hl : fs.length ≤ 900) (ht : takerIn X.K C f = some none) (ry : RelV y u)
    (h : ∀ s', Inv X pins σ (upd H dx (exd dx ((f, y) :: fs))) s' → Q () s') : wpAny (model X.prog X.w) A (setAttr (.ref a) f u) Q E s := by
  obtain ⟨t1, ho⟩ := exo_at I.hok e
  obtain ⟨mA, hns, rel⟩ := exd_at I.hok ed
  have hw := within_of rel
  obtain ⟨hp, g, d, t, os⟩ := s
  obtain ⟨oD, _, _, hoD, _, _⟩ := hns.count hw
  refine set_plain I.kIn (ox := xob C t1 (some dx)) (od := some oD) ⟨ho, rfl, rfl, hoD⟩ T.sa (osa_more I.kIn ho hns hw (by rw [List.length_map]; omega) T ht fun h' tk' k hn => ?_)
  exact h _ (I.write (t' := tk') (x := dx) (e := dx) (o := exd dx ((f, y) :: fs)) (by rw [ed]; exact True.intro) (.inl rfl) k (let ⟨o, _, _, e', _⟩ := hn; ⟨o, e'⟩) (exd_ok hn (relO_put ry rel)))
end
/-- self.f = e -/
def tOxe (K : PySem.W.Frag) (f : Str) (to te : TE) : TS := fun D σ H => te σ H fun y H1 => to σ H1 fun x H2 => ∃ a C : Addr, x = .ref a ∧ OexE K C ∧ takerIn K C f = some none ∧
  ((H2 a = some (exo a C none) ∧ ∀ dx, H2 dx = none → dx ≠ a → D.nx σ (upd (upd H2 dx (exd dx [(f, y)])) a (exo a C (some dx)))) ∨
    ∃ (dx : Addr) (fs : List (Str × V)), H2 a = some (exo a C (some dx)) ∧ H2 dx = some (exd dx fs) ∧ fs.length ≤ 900 ∧ D.nx σ (upd H2 dx (exd dx ((f, y) :: fs))))
section
variable {X : Cx} {o e : Expr} {es : List Expr} {to te : TE} {ta : TA} {f : Str} {p p' pos : Pos}
theorem ps_oxe (ho : PE X o to) (he : PE X e te) (hs : swapsWith e (some (.Attribute o f p')) pos.line X.env = pure false := by rfl) : PS X (.Assign [.Attribute o f p'] e pos) (tOxe X.K f to te) := by
  refine ⟨fun pins s σ H D I h => plainObj_wpAny_Assign_Attribute (thn (he.run pins s σ H _ I h) fun v s1 ⟨y, H1, I1, r1, q1⟩ => thn (ho.run pins s1 σ H1 _ I1 q1) fun u s2 ⟨x, H2, I2, r2, a, C, ex, T, ht, q⟩ => ?_) hs⟩
  subst ex
  obtain rfl : u = Value.ref a := r2
  rcases q with ⟨ea, q⟩ | ⟨dx, fs, ea, ed, hl, q⟩
  · exact oxe_new T I2 ea ht r1 fun dx s' n ne J => ⟨σ, _, J, q dx n ne⟩
  · exact oxe_old T I2 ea ed hl ht r1 fun s' J => ⟨σ, _, J, q⟩
/-- C(e, ..), C's own __init__ keeping sp -/
def tMkE (C : Addr) (sp : Sp) (ta : TA) : L2.St → Hp → XK → Prop := fun σ H Q => ta σ H fun vs H1 => vs.length ≤ 1000 ∧ ∀ a, H1 a = none → sp (.ref a :: vs) (upd H1 a (exo a C none))
  (fun v H2 => v = .non ∧ ∃ (d : Addr) (fs : List (Str × V)), H2 a = some (exo a C (some d)) ∧ H2 d = some (exd d fs) ∧ H1 d = none ∧ Q (.ref C) (some d) (upd (del H2 a) d (.xd fs))) (fun _ _ _ => False)
theorem pmk_oxe {CX : CXT} {x : Str} {C fI : Addr} {k : Nat} {fd : FuncData} {ps : List Str} {sp : Sp} (T : OexE X.K C) (iC : findIn X.K (.ref C) "__init__" = some (some (.ref fI))) (tI : typeIn X.K (.ref fI) = some (.type "function"))
    (F1 : FnOk X.prog X.w X.K X.mg X.base CX k fI fd ps sp) (hr : Room (k + 1) X.A) (hb : Binds X.K fd ps []) (hx : Passes CX X (fun _ _ _ => False)) (hg : Gl X x) (hm : X.mg x = some (.ref C)) (ha : PA X (e :: es) ta)
    (hdb : (x == ("__debug__" : Str)) = false := by decide) (he : starEach (e :: es) X.env = (false, eval e X.env) :: starEach es X.env := by rfl) (hpl : (backTo pos (starEach es X.env)).any (·.1) = false := by rfl) :
    PMk X (.Call (.Name x p) (e :: es) [] pos) (tMkE C sp ta) := by
  intro pins s σ H Q I h
  refine wpAny_Call_Name_kw (ld_glob I hg hm ?_ hdb)
  refine callWith_K (h₀ := X.base) I.ok.mod.kin T.kC (thn (ha.run pos pins s σ H _ I h) fun us s1 ⟨vs, H1, I1, r1, hz, q1⟩ => ⟨I1.kIn, ?_⟩) he hpl
  show wpAny _ _ (call (.ref C) us) _ _ _
  obtain ⟨nm, N, qn, bs, bm, hdct, sn, sub, ab, col, dd, k0, k1, k2, k3, k5, hC, hT⟩ := excInit_of I1.kIn T.ini
  obtain ⟨hp, g, dr, tk, os⟩ := s1
  have hsz : hp.objs.size ≤ hp.objs.size + 1 := Nat.le_succ _
  have hq := q1 (hp.objs.size + 1) (I1.hok.fresh hsz)
  have kk : ∀ b o, hp.get? b = some o → ((hp.push (kdv_tup us)).push (PySem.HandSPX.excO C hp.objs.size)).get? b = some o := fun b o e => Heap.get?_push_of_some _ (Heap.get?_push_of_some _ e)
  have hget : ((hp.push (kdv_tup us)).push (PySem.HandSPX.excO C hp.objs.size)).get? (hp.objs.size + 1) = some (PySem.HandSPX.excO C hp.objs.size) := by heap_get
  have I2 : Inv X pins σ (upd H1 (hp.objs.size + 1) (exo (hp.objs.size + 1) C none)) ⟨(hp.push (kdv_tup us)).push (PySem.HandSPX.excO C hp.objs.size), g, dr, tk, os⟩ :=
    I1.laid (t' := tk) (a := hp.objs.size + 1) (o := exo (hp.objs.size + 1) C none) (h' := (hp.push (kdv_tup us)).push (PySem.HandSPX.excO C hp.objs.size)) kk hsz (exo_ok hget)
  have r2 : Vals (V.ref (hp.objs.size + 1) :: vs) (Value.ref (hp.objs.size + 1) :: us) := .cons rfl r1
  have hl : (Value.ref (hp.objs.size + 1) :: us).length = ps.length := by
    have e := r2.length
    rw [F1.len _ _ _ _ hq] at e
    exact e.symm
  have hus : us.length ≤ sizeLine := by
    rw [← Paired.length r1, sizeLine_eq]
    omega
  have hb2 := hb _ (Value.ref (hp.objs.size + 1) :: us) I2.kIn (by rw [List.append_nil]; exact hl)
  rw [List.append_nil] at hb2
  refine wpAny_call (PySem.HandSPX.call_own PySem.F.excBase_Exception hT hC (looks_findIn I1.kIn iC) (fun self => bind_fn I1.kIn self tI) hus
    (codeAny_mono (F1.run _ X.stack _ _ ⟨Value.ref (hp.objs.size + 1) :: us, []⟩ (Value.ref (hp.objs.size + 1) :: us) _ _ (fun _ _ _ => False) (hr.make C us []) (I2.env0.make C us []) hb2 r2 hq) fun r s' hq' => ?_))
  cases r with
  | error er => exact hx pins σ _ _ er s' I2 hq'
  | ok fl =>
    cases fl with
    | ret u =>
      obtain ⟨v, H2, os2, bare2, un2, hok2, rv, ev, d, fs, ea, ed, hd1, q2⟩ := hq'
      subst ev
      obtain ⟨h2, g2, d2, t2, os'⟩ := s'
      exact ⟨rv, mk_end (raises_own T.exC T.tyC) I1 hsz kk un2 hok2 os2 bare2 ea ed hd1 q2⟩
    | next => exact False.elim hq'
    | brk => exact False.elim hq'
    | cont => exact False.elim hq'
end
end FL

set_option Elab.async false
set_option linter.all false
set_option maxRecDepth 100000
set_option maxHeartbeats 2000000
/-! X2: raise of an exception of one's own. -/
namespace FL
open PySem L2 PyProof.Rows
open PySem.W (takerIn findIn typeIn)
/-- what __init__ keeps that stores its arguments in the fields fs -/
def spI (K : PySem.W.Frag) (fs : List Str) : Sp := fun vs H Q _ => ∃ (a C : Addr) (ws : List V), vs = .ref a :: ws ∧ ws.length = fs.length ∧ OexE K C ∧ (∀ f ∈ fs, takerIn K C f = some none) ∧ H a = some (exo a C none) ∧
  ∀ dx, H dx = none → dx ≠ a → Q .non (upd (upd H dx (exd dx (fs.zip ws).reverse)) a (exo a C (some dx)))
section
variable {P : Program} {w : World} {K : PySem.W.Frag} {mg : Str → Option Value} {base : Heap}
theorem ini_one {x qual : Str} {st : Stmt} {f : Addr} {fd : FuncData} {s0 s1 f1 : Str} {p1 p2 p3 p4 : Pos} (Fn : Fun K x qual st f fd) (S : FnScope [s0, s1] [s0, s1] (defScope st)) (hb : defBody st = [.Assign [.Attribute (.Name s0 p1) f1 p2] (.Name s1 p3) p4])
    (hv : ∀ cdv A outer s H E, let X := cxOf (L2.CX P w) P w K mg base [s0, s1] qual (defScope st) f cdv A outer s H E; PE X (.Name s0 p1) (tVar 0) ∧ PE X (.Name s1 p3) (tVar 1))
    (hs : ∀ env, swapsWith (.Name s1 p3) (some (.Attribute (.Name s0 p1) f1 p2)) p4.line env = pure false) :
    FnOk P w K mg base (L2.CX P w) (0 + 1) f fd [s0, s1] (spI K [f1]) := by
  refine Fn.okX S (fun vs H Q E h => ?_) (fun cdv A outer s H vs Q E hr h => ?_)
  · obtain ⟨a, C, ws, rfl, hl, _⟩ := h
    show ws.length + 1 = 2
    rw [hl]
    rfl
  · obtain ⟨a, C, ws, rfl, hl, T, ht, ha, q⟩ := h
    obtain ⟨h0, h1⟩ := hv cdv A outer s H E
    match ws, hl with
    | [y], _ =>
      rw [hb]
      refine ⟨_, pss_one (ps_oxe h0 h1 (hs _)), y, rfl, .ref a, rfl, a, C, rfl, T, ht f1 List.mem_cons_self, .inl ⟨ha, fun dx n ne => q dx n ne⟩⟩
theorem ini_two {x qual : Str} {st : Stmt} {f : Addr} {fd : FuncData} {s0 s1 s2 f1 f2 : Str} {p1 p2 p3 p4 q1 q2 q3 q4 : Pos} (Fn : Fun K x qual st f fd) (S : FnScope [s0, s1, s2] [s0, s1, s2] (defScope st))
    (hb : defBody st = [.Assign [.Attribute (.Name s0 p1) f1 p2] (.Name s1 p3) p4, .Assign [.Attribute (.Name s0 q1) f2 q2] (.Name s2 q3) q4])
    (hv : ∀ cdv A outer s H E, let X := cxOf (L2.CX P w) P w K mg base [s0, s1, s2] qual (defScope st) f cdv A outer s H E; (PE X (.Name s0 p1) (tVar 0) ∧ PE X (.Name s1 p3) (tVar 1)) ∧ PE X (.Name s0 q1) (tVar 0) ∧ PE X (.Name s2 q3) (tVar 2))
    (hs : ∀ env, swapsWith (.Name s1 p3) (some (.Attribute (.Name s0 p1) f1 p2)) p4.line env = pure false ∧ swapsWith (.Name s2 q3) (some (.Attribute (.Name s0 q1) f2 q2)) q4.line env = pure false) :
    FnOk P w K mg base (L2.CX P w) (0 + 1) f fd [s0, s1, s2] (spI K [f1, f2]) := by
  refine Fn.okX S (fun vs H Q E h => ?_) (fun cdv A outer s H vs Q E hr h => ?_)
  · obtain ⟨a, C, ws, rfl, hl, _⟩ := h
    show ws.length + 1 = 3
    rw [hl]
    rfl
  · obtain ⟨a, C, ws, rfl, hl, T, ht, ha, q⟩ := h
    obtain ⟨⟨h0, h1⟩, h2, h3⟩ := hv cdv A outer s H E
    match ws, hl with
    | [y, z], _ =>
      rw [hb]
      refine ⟨_, pss_cons (ps_oxe h0 h1 (hs _).1) (pss_one (ps_oxe h2 h3 (hs _).2)), y, rfl, .ref a, rfl, a, C, rfl, T, ht f1 List.mem_cons_self, .inl ⟨ha, fun dx n ne => ?_⟩⟩
      refine ⟨z, rfl, .ref a, rfl, a, C, rfl, T, ht f2 (List.mem_cons_of_mem _ List.mem_cons_self), .inr ⟨dx, [(f1, y)], upd_same, by rw [upd_ne ne, upd_same], by show 1 ≤ 900; decide, ?_⟩⟩
      have e : upd (upd (upd H dx (exd dx [(f1, y)])) a (exo a C (some dx))) dx (exd dx [(f2, z), (f1, y)]) = upd (upd H dx (exd dx [(f2, z), (f1, y)])) a (exo a C (some dx)) := by
        funext b
        by_cases hb : b = dx
        · subst hb
          rw [upd_same, upd_ne ne, upd_same]
        · rw [upd_ne hb]
          by_cases hc : b = a
          · rw [hc, upd_same, upd_same]
          · rw [upd_ne hc, upd_ne hc, upd_ne hb, upd_ne hb]
      rw [e]
      exact q dx n ne
end
theorem RepL.reverse {F : FX} {s : Option Addr} {G : Hp} : ∀ {ds : List D} {vs : List V}, RepL F s G ds vs → RepL F s G ds.reverse vs.reverse
  | [], _, h => by cases (show _ = _ from h); rfl
  | d :: ds, _, ⟨v, r, h1, h2, h3⟩ => by
    rw [h1, List.reverse_cons, List.reverse_cons]
    exact RepL.append (RepL.reverse h3) ⟨v, [], rfl, h2, rfl⟩
/-- raise C(e, ..) -/
def raiseS (cls : Str) (fs : List Str) (f : AS) : SS := exS f fun ds env c => if ds.length = fs.length then .ex ⟨cls, (fs.zip ds).reverse⟩ env c else .bad
section
variable {F : FX} {X : Cx} {W : WX} {z : Bool} {x : Str} {C fI : Addr} {k : Nat} {fd : FuncData} {ps fs : List Str} {e : Expr} {es : List Expr} {f : AS} {p pos pos' : Pos} {cls : Str}
theorem ss_raise (hc : X.calm = true) (tk : Takes X W) (hK : X.K = F.K) (T : OexE X.K C) (ht : ∀ f ∈ fs, takerIn X.K C f = some none) (iC : findIn X.K (.ref C) "__init__" = some (some (.ref fI))) (tI : typeIn X.K (.ref fI) = some (.type "function"))
    (F1 : FnOk X.prog X.w X.K X.mg X.base (L2.CX X.prog X.w) k fI fd ps (spI X.K fs)) (hr : Room (k + 1) X.A) (hb : Binds X.K fd ps []) (hg : Gl X x) (hm : X.mg x = some (.ref C)) (hcl : F.CL cls = some C) (hfs : fs.length ≤ 1000) (ha : SA F X W false (e :: es) f)
    (hdb : (x == ("__debug__" : Str)) = false := by decide) (he : starEach (e :: es) X.env = (false, eval e X.env) :: starEach es X.env := by rfl) (hpl : (backTo pos (starEach es X.env)).any (·.1) = false := by rfl) :
    SSt F X W z (.Raise (some (.Call (.Name x p) (e :: es) [] pos)) none pos') (raiseS cls fs f) := by
  have hx : Passes (L2.CX X.prog X.w) X (fun _ _ _ => False) := fun _ _ _ _ _ _ _ ⟨_, _, _, _, _, _, _, _, _, _, _, _, h⟩ => h.elim
  refine ⟨ps_imp (ps_raise hc tk (pmk_oxe (CX := L2.CX X.prog X.w) T iC tI F1 hr hb hx hg hm ha.pa hdb he hpl)) fun D σ H ⟨B, s, env, G, c, co, q⟩ => ⟨B, s, env, G, c, co, exS_wp co q fun ds c' h vs G' H' n r => ?_⟩⟩
  have rs := r.strict
  by_cases hl : ds.length = fs.length
  · rw [if_pos hl] at h
    have hvl : vs.length = fs.length := by rw [rs.length]; exact hl
    refine ⟨by rw [hvl]; exact hfs, fun a na => ⟨a, C, vs, rfl, hvl, T, ht, upd_same, fun dx hdx ne => ⟨rfl, dx, _, upd_same, by rw [upd_ne ne, upd_same], ?_, ?_⟩⟩⟩
    · rw [upd_ne ne] at hdx
      exact hdx
    · rw [upd_ne ne] at hdx
      have ee : upd (del (upd (upd (upd H' a (exo a C none)) dx (exd dx (fs.zip vs).reverse)) a (exo a C (some dx))) a) dx (.xd (fs.zip vs).reverse) = upd H' dx (.xd (fs.zip vs).reverse) := by
        funext b
        by_cases hb : b = dx
        · rw [hb, upd_same, upd_same]
        · rw [upd_ne hb, upd_ne hb]
          by_cases hc : b = a
          · rw [hc, del_same, na]
          · rw [del_ne hc, upd_ne hc, upd_ne hb, upd_ne hc]
      rw [ee]
      have n2 := n.new (o := .xd (fs.zip vs).reverse) hdx
      refine h s C dx (fs.zip vs).reverse σ _ _ .rfl' n2.g hcl (co.nxt n2) upd_same ⟨?_, ?_⟩
      · rw [List.map_reverse, List.map_reverse, List.map_fst_zip (by omega), List.map_fst_zip (by omega)]
      · rw [List.map_reverse, List.map_reverse, List.map_snd_zip (by omega), List.map_snd_zip (by omega)]
        exact RepL.reverse (RepL.mono ((Nxt.refl n.gh n.vo).new (o := .xd (fs.zip vs).reverse) hdx).g (fun _ x => x) _ _ rs)
  · rw [if_neg hl] at h
    exact h.elim
end
end FL

set_option Elab.async false
set_option linter.all false
set_option maxRecDepth 100000
set_option maxHeartbeats 2000000
/-! X3: try: .. except C as n: return e. -/
namespace FL
open PySem L2 PyProof.Rows
open PySem.W (takerIn findIn typeIn exmOne)
open Evl (Ex)
/-- an expression over the exception x that the suite holds at a, in slot i -/
def tH (F : FX) (i : Nat) (a : Addr) (cls : Value) (d : Option Addr) (h : Exn → Option D) : TE := fun σ H Q => σ[i]? = some (some (.ref a)) ∧ ∃ (x : Exn) (C dx : Addr) (fs : List (Str × V)) (s : Option Addr) (G : Hp) (c : CT) (res : D),
  cls = .ref C ∧ d = some dx ∧ F.CL x.cls = some C ∧ Ex G H ∧ Vol F s c G H ∧ G dx = some (.xd fs) ∧ RepF F s G x.fs fs ∧ h x = some res ∧ ∀ v G' H', Nxt F s G H s G' H' c → Rep F s G' res v → Q v H'
/-- for every exception that the suite may hold -/
structure SX (F : FX) (X : Cx) (i : Nat) (e : Expr) (h : Exn → Option D) : Prop where
  pe : ∀ (a : Addr) (oe : Obj) (cls : Value) (d : Option Addr) (pn : List (Addr × Obj)), Zc cls d oe → (∃ vs, oe.data = .fields vs) → PE (X.suite a ((a, oe) :: pn)) e (tH F i a cls d h)
theorem repF_get {F : FX} {s : Option Addr} {G : Hp} {n : Str} {r : D} : ∀ {ds : List (Str × D)} {fs : List (Str × V)}, RepF F s G ds fs → ds.lookup n = some r → ∃ v, fs.lookup n = some v ∧ Rep F s G r v
  | [], _, _, h => by cases h
  | (m, d) :: ds, fs, ⟨h1, h2⟩, h => by
    cases fs with
    | nil => cases h1
    | cons q fs =>
      obtain ⟨m', v⟩ := q
      have h1 : m' :: fs.map (·.1) = m :: ds.map (·.1) := h1
      obtain ⟨rfl, h1'⟩ := List.cons.inj h1
      obtain ⟨u, r', e1, e2, e3⟩ := h2
      have e1 : v :: fs.map (·.2) = u :: r' := e1
      obtain ⟨rfl, rfl⟩ := List.cons.inj e1
      rw [lookup_put]
      have h : (if n = m' then some d else ds.lookup n) = some r := by
        have := h
        simp only [List.lookup] at this
        by_cases hn : n = m'
        · subst hn
          rw [if_pos rfl]
          simpa using this
        · have hb : (n == m') = false := by simpa using hn
          rw [if_neg hn]
          simpa [hb] using this
      by_cases hn : n = m'
      · rw [if_pos hn] at h ⊢
        cases h
        exact ⟨v, rfl, e2⟩
      · rw [if_neg hn] at h ⊢
        exact repF_get (ds := ds) (fs := fs) ⟨h1', e3⟩ h
section
variable {F : FX} {X : Cx} {i : Nat} {e : Expr} {es : List Expr} {pos p : Pos} {n : Str}
/-- a constant -/
theorem sx_k {d : D} {v : V} (h : ∀ a pn, PE (X.suite a pn) e (tC v)) (r : ∀ s G, Rep F s G d v) : SX F X i e fun _ => some d :=
  ⟨fun a oe cls dd pn _ _ => pe_imp (h a _) fun σ H Q ⟨_, x, C, dx, fs, s, G, c, res, _, _, _, g, vo, _, _, er, q⟩ => by
    cases er
    exact q v G H (Nxt.refl g vo) (r s G)⟩
/-- x.n, x of the class at C -/
theorem sx_at {C : Addr} {cn : Str} (T : XfC X.K C) (hno : findIn X.K (.ref C) n = some none) (hcl : F.CL cn = some C) (hv : ∀ a pn, PE (X.suite a pn) e (tVar i)) (hb : attributeBase e n X.env (eval e X.env) = eval e X.env := by rfl) :
    SX F X i (.Attribute e n pos) fun x => if x.cls = cn then x.fs.lookup n else none :=
  ⟨fun a oe cls dd pn hz hf => pe_imp (pe_xf T hno hz hf (hv a _) hb) fun σ H Q ⟨hs, x, C', dx, fs, s, G, c, res, e1, e2, e3, g, vo, e4, e5, er, q⟩ => by
    have er : (if x.cls = cn then x.fs.lookup n else none) = some res := er
    by_cases hc : x.cls = cn
    · rw [if_pos hc] at er
      rw [hc, hcl] at e3
      cases e3
      obtain ⟨v, l, r⟩ := repF_get e5 er
      exact ⟨.ref a, hs, rfl, e1, dx, fs, v, e2, g dx _ e4, l, q v G H (Nxt.refl g vo) r⟩
    · rw [if_neg hc] at er
      cases er⟩
end
/-- try: f, except cl as slot i: return h -/
def trySR (f : SS) (i : Nat) (cl : Str → Option Bool) (h : Exn → Option D) : SS := fun env c => match f env c with
  | .ex x e c' => (match cl x.cls with
    | some true => if i < e.length then (match h x with
      | some d => .rt d c'
      | none => .bad) else .bad
    | some false => .ex x e c'
    | none => .bad)
  | r => r
section
variable {F : FX} {X : Cx} {W : WX} {z : Bool} {x n : Str} {c : Value} {i : Nat} {body : List Stmt} {e : Expr} {np pos pos' pos2 : Pos} {f : SS} {cl : Str → Option Bool} {h : Exn → Option D}
theorem ss_try (hs : X.stack = X.env :: X.outer) (hf : X.env.frame = some X.env.locals) (hN : X.N.Nodup) (hi : X.N[i]? = some n) (hln : X.env.kindOf n = some .local) (hc : Names X x c) (tk : Takes X W)
    (hcl : ∀ cn b C, cl cn = some b → F.CL cn = some C → exmOne X.K (.ref C) c = some b)
    (hb : ∀ (W' : WX) (pn : List (Addr × Obj)) (xe : Value → Shared → Prop), Takes (X.tr pn xe) W' → PassesOwn (model X.prog X.w) X.A X.env xe → SB F (X.tr pn xe) W' z body f) (he : SX F X i e h) :
    SSt F X W z (.Try body [.ExceptHandler (some (.Name x np)) (some n) [.Return (some e) pos2] pos'] [] [] pos) (trySR f i cl h) := by
  refine ⟨ps_imp (ps_try_as (ts := fun a cls d => fun D σ H => tH F i a cls d h σ H D.rt) hs hf hN hi hln hc tk (fun W' pn xe tk' po => (hb W' pn xe tk' po).pss) fun a oe cls d pn hz hf' => pss_one (ps_ret (he.pe a oe cls d pn hz hf'))) fun D σ H ⟨B, s, env, G, c0, co, q⟩ => ⟨B, s, env, G, c0, co, ?_⟩⟩
  unfold trySR at q
  cases ef : f env c0 with
  | nx en c' => rw [ef] at q; exact q
  | bk en c' => rw [ef] at q; exact q
  | ct en c' => rw [ef] at q; exact q
  | rt d c' => rw [ef] at q; exact q
  | ro ds c' => rw [ef] at q; exact q
  | bad => rw [ef] at q; exact q
  | ex xx en c' =>
    rw [ef] at q
    intro s' C dx fs σ' G' H' hso hg hC co' hdx hrf
    show ∃ b, exmOne X.K (.ref C) c = some b ∧ _
    cases ec : cl xx.cls with
    | none => simp only [ec] at q; exact q.elim
    | some b =>
      refine ⟨b, hcl _ _ _ ec hC, fun hb1 a na => ?_, fun hb1 => ?_⟩
      · subst hb1
        simp only [ec] at q
        by_cases hlt : i < en.length
        · rw [if_pos hlt] at q
          cases eh : h xx with
          | none => simp only [eh] at q; exact q.elim
          | some res =>
            simp only [eh] at q
            refine ⟨List.getElem?_set_self (by rw [co'.len]; exact hlt), xx, C, dx, fs, s', G', c', res, rfl, rfl, hC, co'.bs.gh, co'.bs.vo, hdx, hrf, eh, fun v G2 H2 n2 r2 => ?_⟩
            exact q s' v G2 H2 hso (co'.bs.trans n2) r2
        · rw [if_neg hlt] at q
          exact q.elim
      · subst hb1
        simp only [ec] at q
        exact q s' C dx fs σ' G' H' hso hg hC co' hdx hrf
end
end FL

set_option Elab.async false
set_option linter.all false
set_option maxRecDepth 100000
set_option maxHeartbeats 2000000
/-! X4: a module's dict of texts, which nothing changes. -/
namespace FL
open PySem PySem.Spec L2 PyProof.Rows
open Evl (Ex)
/-- what stands in a dict of texts, by a text -/
def lookS : List (Str × Str) → Str → Option Str
  | [], _ => none
  | p :: r, z => if p.1 = z then some p.2 else lookS r z
theorem lookS_mem : ∀ {kvs : List (Str × Str)} {z y : Str}, lookS kvs z = some y → (z, y) ∈ kvs
  | [], _, _, h => by cases h
  | p :: r, z, y, h => by
    unfold lookS at h
    by_cases q : p.1 = z
    · rw [if_pos q] at h
      cases h
      exact List.mem_cons.mpr (.inl (by rw [← q]))
    · rw [if_neg q] at h
      exact List.mem_cons_of_mem _ (lookS_mem h)
theorem lookS_none : ∀ {kvs : List (Str × Str)} {z : Str}, lookS kvs z = none → z ∉ kvs.map (·.1)
  | [], _, _ => by simp
  | p :: r, z, h => by
    unfold lookS at h
    by_cases q : p.1 = z
    · rw [if_pos q] at h; cases h
    · rw [if_neg q] at h
      have := lookS_none h
      simp only [List.map_cons, List.mem_cons, not_or]
      exact ⟨fun e => q e.symm, this⟩
structure DicOk (K : PySem.W.Frag) (w : World) (a : Addr) (kvs : List (Str × Str)) : Prop where
  kd : ∃ es n, KDict K w a es n
  has : ∀ z y, lookS kvs z = some y → ∃ t, PySem.W.nsIn K a z = some (some (.str y t))
  no : ∀ z, lookS kvs z = none → PySem.W.nsIn K a z = some none
theorem keys_no : ∀ {es : List DictEntry} {ks : List Str} {P : Params}, es.map He.keyOf = He.keysIn P ks → ∀ {z : Str}, z ∉ ks → es.find? (·.key.isStr z) = none ∧ es.any (·.refKey) = false
  | [], _, _, _, _, _ => ⟨rfl, rfl⟩
  | e :: r, [], _, h, _, _ => by cases h
  | e :: r, k :: ks, P, h, z, hz => by
    have h1 : He.keyOf e :: r.map He.keyOf = some (k, PyData.keyHash P k) :: He.keysIn P ks := h
    injection h1 with h2 h3
    obtain ⟨i1, i2⟩ := keys_no h3 (z := z) fun m => hz (List.mem_cons_of_mem _ m)
    obtain ⟨hs, key, val⟩ := e
    cases key with
    | str x t =>
      have h4 : some (x, hs) = some (k, PyData.keyHash P k) := h2
      have ex : x = k := congrArg Prod.fst (Option.some.inj h4)
      subst ex
      have ne : ¬ x = z := fun e => hz (by rw [e]; exact List.mem_cons_self)
      have e1 : (Value.str x t).isStr z = false := by
        show decide _ = false
        exact decide_eq_false (by first | exact ne | exact fun e => ne e.symm)
      rw [List.find?_cons, List.any_cons]
      exact ⟨by simp only [e1]; exact i1, by rw [i2]; rfl⟩
    | _ => cases h2
theorem dic_ok {K : PySem.W.Frag} {w : World} {a : Addr} {kvs : List (Str × Str)} (h : He.dicW K a = some (He.keysIn w.params (kvs.map (·.1)))) (hv : He.valsB K a (kvs.map fun q => (q.1, He.Dv.str q.2)) = true) : DicOk K w a kvs := by
  obtain ⟨es, n, D⟩ := He.dicW_ok h
  refine ⟨⟨es, n, D⟩, fun z y e => ?_, fun z e => ?_⟩
  · obtain ⟨u, h1, h2⟩ := He.valsB_ok hv (q := (z, He.Dv.str y)) (List.mem_map.mpr ⟨(z, y), lookS_mem e, rfl⟩)
    obtain ⟨t, rfl⟩ : ∃ t, u = Value.str y t := h2
    exact ⟨t, h1⟩
  · have e1 : es.toList.map He.keyOf = He.keysIn w.params (kvs.map (·.1)) := by
      unfold He.dicW at h
      rw [D.at_] at h
      simp only [D.low] at h
      exact Option.some.inj h
    obtain ⟨q1, q2⟩ := keys_no e1 (lookS_none e)
    unfold PySem.W.nsIn
    rw [D.at_]
    simp only [q1, q2]
    rfl
section
variable {F : FX} {X : Cx} {W : WX} {b : Bool}
/-- NAME.get(e) -/
def cgetE (kvs : List (Str × Str)) (f : ES) : ES := fun env => bnd (f env) fun d => match d with
  | .str y => ret (match lookS kvs y with
    | some r => .str r
    | none => .non)
  | _ => bad
/-- NAME[e] -/
def cixE (kvs : List (Str × Str)) (f : ES) : ES := fun env => bnd (f env) fun d => match d with
  | .str y => (match lookS kvs y with
    | some r => ret (.str r)
    | none => bad)
  | _ => bad
/-- e in NAME (j: True), e not in NAME -/
def cinE (j : Bool) (kvs : List (Str × Str)) (f : ES) : ES := fun env => bnd (f env) fun d => match d with
  | .str y => ret (.bl ((lookS kvs y).isSome == j))
  | _ => bad
theorem pe_kget {x : Str} {p apos cpos : Pos} {a : Addr} {es : Array DictEntry} {n : Nat} {e : Expr} {ty : TE} (hg : Gl X x) (hm : X.mg x = some (.ref a)) (D : KDict X.K X.w a es n) (he : PE X e ty) (hd : (x == ("__debug__" : Str)) = false) (m : M1 X (.Name x p) "get" apos e cpos) :
    PE X (.Call (.Attribute (.Name x p) "get" apos) [e] [] cpos) (fun σ H Q => ty σ H fun y H2 => ∃ z r v, y = .str z ∧ PySem.W.nsIn X.K a z = some r ∧ RelV v (r.getD .none) ∧ Q v H2) := by
  refine ⟨fun pins s σ H Q I h => ?_⟩
  refine wpAny_Call_method m.base m.few m.line PySem.F.plainAttrs_dict PySem.F.slot_dict_get PySem.F.type_dict_get (thn ((pe_glob (v := .ref a) hg hm rfl hd).run pins s σ H (fun v H' => v = .ref a ∧ H' = H) I ⟨rfl, rfl⟩) fun u s1 ⟨x', H1, I1, rx, q1⟩ => ?_)
  obtain ⟨rfl, rfl⟩ := q1
  obtain rfl : u = Value.ref a := rx
  refine ⟨kd_type D I1, fun b q => ?_, ?_⟩
  · cases q
    exact ⟨_, I1.kIn _ _ D.at_, rfl⟩
  rw [m.trees]
  refine Calls.callWith_builtin rfl (Calls.evalArgs_plain (Calls.spliced_cons (thn (he.run pins s1 σ _ _ I1 h) fun iv s2 ⟨y, H2, I2, ry, z, r, v, ey, en, rv, q2⟩ => Calls.spliced_nil ?_)))
  subst ey
  obtain ⟨t, rfl⟩ := ry
  refine call_meetsIn PySem.F.slot_dict_get (kd_type D I2) PySem.F.entry_dict_get (PySem.F.args_dict_get_2 _ _) (meets_dict_get (PySem.strKind X.prog X.w) a (PySem.strKind_is X.prog X.w z t) D.low) ⟨_, PySem.W.mapOf_K (prog := X.prog) I2.kIn D.at_ D.lit, ?_⟩
  rw [PySem.W.find_K D.at_ en]
  exact ⟨v, H2, I2.tok _, rv, q2⟩
theorem pe_kix {x : Str} {p pos : Pos} {a : Addr} {es : Array DictEntry} {n : Nat} {i : Expr} {ty : TE} (hg : Gl X x) (hm : X.mg x = some (.ref a)) (D : KDict X.K X.w a es n) (hi : PE X i ty) (hd : (x == ("__debug__" : Str)) = false) (hs : NoSl i) :
    PE X (.Subscript (.Name x p) i pos) (fun σ H Q => ty σ H fun y H2 => ∃ z u v, y = .str z ∧ PySem.W.nsIn X.K a z = some (some u) ∧ RelV v u ∧ Q v H2) := by
  refine ⟨fun pins s σ H Q I h => ?_⟩
  refine subD_of PySem.F.slot_dict_getitem.lookup hs (thn ((pe_glob (v := .ref a) hg hm rfl hd).run pins s σ H (fun v H' => v = .ref a ∧ H' = H) I ⟨rfl, rfl⟩) fun u s1 ⟨x', H1, I1, rx, q1⟩ => ?_)
  obtain ⟨rfl, rfl⟩ := q1
  obtain rfl : u = Value.ref a := rx
  refine thn (hi.run pins s1 σ _ _ I1 h) fun iv s2 ⟨y, H2, I2, ry, z, u, v, ey, en, rv, q2⟩ => ?_
  subst ey
  obtain ⟨t, rfl⟩ := ry
  exact ⟨kd_type D I2, wpAny_getItem_of (PySem.strKind_is X.prog X.w z t) (PySem.W.mapOf_K (prog := X.prog) I2.kIn D.at_ D.lit) (PySem.W.find_K D.at_ en) ⟨v, H2, I2.tok _, rv, q2⟩⟩
theorem se_cget {x : Str} {p apos cpos : Pos} {kvs : List (Str × Str)} {e : Expr} {f : ES} (hg : Gl X x) (hm : ∃ a, X.mg x = some (.ref a) ∧ DicOk X.K X.w a kvs) (he : SE F X W true e f) (hd : (x == ("__debug__" : Str)) = false := by decide)
    (hbase : attributeBase (.Name x p) "get" X.env (eval (.Name x p) X.env) = eval (.Name x p) X.env := by rfl) (hline : (apos.endLine == cpos.line) = true := by rfl) (hs : starEach [e] X.env = [(false, eval e X.env)] := by rfl) :
    SE F X W b (.Call (.Attribute (.Name x p) "get" apos) [e] [] cpos) (cgetE kvs f) := by
  obtain ⟨a, hm, D⟩ := hm
  obtain ⟨es, n, KD⟩ := D.kd
  refine ⟨pe_imp (pe_kget hg hm KD he.pe hd ⟨hbase, by rw [hs]; rfl, hline, by rw [hs]; rfl⟩) fun σ H Q ⟨B, s, env, G, c, co, q⟩ => ⟨B, s, env, G, c, co, wpR_mono (wpR_bnd q) (fun d c1 h1 v1 G1 H1 n1 r1 => ?_) fun _ _ x => x⟩⟩
  cases d with
  | str y =>
    rw [r1.str]
    have h1 : wpR (ret (match lookS kvs y with
      | some r => FL.D.str r
      | none => .non) c1) _ _ := h1
    cases el : lookS kvs y with
    | some r =>
      rw [el] at h1
      obtain ⟨t, e2⟩ := D.has y r el
      exact ⟨y, _, .str r, rfl, e2, ⟨t, rfl⟩, h1 (.str r) G1 H1 n1 (.inl rfl)⟩
    | none =>
      rw [el] at h1
      exact ⟨y, _, .non, rfl, D.no y el, rfl, h1 .non G1 H1 n1 (.inl rfl)⟩
  | _ => exact h1.elim
theorem se_cix {x : Str} {p pos : Pos} {kvs : List (Str × Str)} {e : Expr} {f : ES} (hg : Gl X x) (hm : ∃ a, X.mg x = some (.ref a) ∧ DicOk X.K X.w a kvs) (he : SE F X W true e f) (hs : NoSl e) (hd : (x == ("__debug__" : Str)) = false := by decide) :
    SE F X W b (.Subscript (.Name x p) e pos) (cixE kvs f) := by
  obtain ⟨a, hm, D⟩ := hm
  obtain ⟨es, n, KD⟩ := D.kd
  refine ⟨pe_imp (pe_kix hg hm KD he.pe hd hs) fun σ H Q ⟨B, s, env, G, c, co, q⟩ => ⟨B, s, env, G, c, co, wpR_mono (wpR_bnd q) (fun d c1 h1 v1 G1 H1 n1 r1 => ?_) fun _ _ x => x⟩⟩
  cases d with
  | str y =>
    rw [r1.str]
    have h1 : wpR ((match lookS kvs y with
      | some r => ret (FL.D.str r)
      | none => bad) c1) _ _ := h1
    cases el : lookS kvs y with
    | some r =>
      rw [el] at h1
      obtain ⟨t, e2⟩ := D.has y r el
      exact ⟨y, _, .str r, rfl, e2, ⟨t, rfl⟩, h1 (.str r) G1 H1 n1 (.inl rfl)⟩
    | none => rw [el] at h1; exact h1.elim
  | _ => exact h1.elim
/-- a comparison with the dict, whatever its right side is evaluated to -/
theorem pe_kcmp {x : Str} {p pos : Pos} {a : Addr} {i : Expr} {ty : TE} {o : CmpOp} {r : R2} (hr : OpR X (compareOp o) r) (hg : Gl X x) (hm : X.mg x = some (.ref a)) (hi : PE X i ty) (hd : (x == ("__debug__" : Str)) = false) (hb : behindInMarks o (.Name x p) = false) :
    PE X (.Compare i [o] [.Name x p] pos) (tOp r ty (tC (.ref a))) := pe_cmpR hr hi (pe_glob (v := .ref a) hg hm rfl hd) hb
theorem se_cin {x : Str} {p pos : Pos} {kvs : List (Str × Str)} {e : Expr} {f : ES} (hg : Gl X x) (hm : ∃ a, X.mg x = some (.ref a) ∧ DicOk X.K X.w a kvs) (he : SE F X W true e f) (hd : (x == ("__debug__" : Str)) = false := by decide) (hb : behindInMarks .In (.Name x p) = false := by rfl) :
    SE F X W b (.Compare e [.In] [.Name x p] pos) (cinE true kvs f) := by
  obtain ⟨a, hm, D⟩ := hm
  obtain ⟨es, n, KD⟩ := D.kd
  refine ⟨pe_imp (pe_kcmp (op_in_kd KD) hg hm he.pe hd hb) fun σ H Q ⟨B, s, env, G, c, co, q⟩ => ⟨B, s, env, G, c, co, wpR_mono (wpR_bnd q) (fun d c1 h1 v1 G1 H1 n1 r1 => ?_) fun _ _ x => x⟩⟩
  cases d with
  | str y =>
    rw [r1.str]
    have h1 : wpR (ret (FL.D.bl ((lookS kvs y).isSome == true)) c1) _ _ := h1
    cases el : lookS kvs y with
    | some r =>
      rw [el] at h1
      obtain ⟨t, e2⟩ := D.has y r el
      exact ⟨y, _, rfl, rfl, e2, h1 _ G1 H1 n1 (.inl rfl)⟩
    | none =>
      rw [el] at h1
      exact ⟨y, _, rfl, rfl, D.no y el, h1 _ G1 H1 n1 (.inl rfl)⟩
  | _ => exact h1.elim
theorem se_cnin {x : Str} {p pos : Pos} {kvs : List (Str × Str)} {e : Expr} {f : ES} (hg : Gl X x) (hm : ∃ a, X.mg x = some (.ref a) ∧ DicOk X.K X.w a kvs) (he : SE F X W true e f) (hd : (x == ("__debug__" : Str)) = false := by decide) (hb : behindInMarks .NotIn (.Name x p) = false := by rfl) :
    SE F X W b (.Compare e [.NotIn] [.Name x p] pos) (cinE false kvs f) := by
  obtain ⟨a, hm, D⟩ := hm
  obtain ⟨es, n, KD⟩ := D.kd
  refine ⟨pe_imp (pe_kcmp (op_notIn_kd KD) hg hm he.pe hd hb) fun σ H Q ⟨B, s, env, G, c, co, q⟩ => ⟨B, s, env, G, c, co, wpR_mono (wpR_bnd q) (fun d c1 h1 v1 G1 H1 n1 r1 => ?_) fun _ _ x => x⟩⟩
  cases d with
  | str y =>
    rw [r1.str]
    have h1 : wpR (ret (FL.D.bl ((lookS kvs y).isSome == false)) c1) _ _ := h1
    cases el : lookS kvs y with
    | some r =>
      rw [el] at h1
      obtain ⟨t, e2⟩ := D.has y r el
      exact ⟨y, _, rfl, rfl, e2, h1 _ G1 H1 n1 (.inl rfl)⟩
    | none =>
      rw [el] at h1
      exact ⟨y, _, rfl, rfl, D.no y el, h1 _ G1 H1 n1 (.inl rfl)⟩
  | _ => exact h1.elim
end
end FL

set_option Elab.async false
set_option linter.all false
set_option maxRecDepth 100000
set_option maxHeartbeats 2000000
/-! G7: a module's facts, its head. -/
namespace FL
open PySem PySem.Spec L2 PyProof.Rows
open Evl (Ex)
/-- a module: its statements, the places, names, parameters of its defs, the names that it leaves free, the defs that hold generator expressions, its constants -/
structure Md where
  top : Nat → Stmt
  ids : List Nat
  name : Nat → Str
  pars : Nat → List Str
  frees : List Str
  tabs : List Nat
  consts : List (Str × FL.D)
  ecs : List (Str × List Str × Nat) := []
  cats : List Str := []
  dics : List (Str × List (Str × Str)) := []
/-- the __init__ in a class's body -/
def initOf : Stmt → Stmt
  | .ClassDef (body := b) .. => (b.find? fun s => match s with | .FunctionDef .. => true | _ => false).getD (.Pass ⟨0, 0, 0, 0⟩)
  | s => s
/-- an except clause of n2 takes an exception of the class n1 -/
def catB (n1 n2 : Str) : Bool := decide (n1 = n2) || decide (n2 = ("LayerError" : Str))
/-- what is known of an exception class -/
structure ExcOk (P : Program) (F : FX) (mg : Str → Option Value) (base : Heap) (cls : Str) (fs : List Str) (st : Stmt) (C fI : Addr) (fd : FuncData) : Prop where
  mg : mg cls = some (.ref C)
  oe : OexE F.K C
  tk : ∀ f ∈ fs, PySem.W.takerIn F.K C f = some none
  no : ∀ f ∈ fs, PySem.W.findIn F.K (.ref C) f = some none
  xf : XfC F.K C
  ini : PySem.W.findIn F.K (.ref C) "__init__" = some (some (.ref fI))
  ty : PySem.W.typeIn F.K (.ref fI) = some (.type "function")
  fn : L2.Fun F.K "__init__" (cls ++ ".__init__") st fI fd
  bi : Binds F.K fd (("self" : Str) :: fs) []
  cl : F.CL cls = some C
structure Mo (m : Md) (F : FX) (mg : Str → Option Value) (base : Heap) (ad : Nat → Addr) (fdt : Nat → FuncData) (co ta : Nat → Addr) : Prop where
  free : ∀ x ∈ m.frees, mg x = none
  glo : ∀ i, m.ids.contains i = true → mg (m.name i) = some (.ref (ad i))
  fn : ∀ i, m.ids.contains i = true → L2.Fun F.K (m.name i) (m.name i) (m.top i) (ad i) (fdt i)
  fnC : ∀ i ∈ m.tabs, FunC F.K (m.name i) (m.name i) (m.top i) (ad i) (fdt i) (co i)
  bi : ∀ i, m.ids.contains i = true → Binds F.K (fdt i) (m.pars i) []
  tab : ∀ i ∈ m.tabs, GxR.TabB base mg (co i) (ta i) ∧ ta i ∈ F.TL
  cst : ∀ p ∈ m.consts, ∃ u v, mg p.1 = some u ∧ RelV v u ∧ ∀ s G, Rep F s G p.2 v
  exc : ∀ (P : Program), ∀ p ∈ m.ecs, ∃ C fI fd, ExcOk P F mg base p.1 p.2.1 (initOf (m.top p.2.2)) C fI fd
  cat : ∀ n2 ∈ m.cats, ∃ C2, mg n2 = some (.ref C2) ∧ ∀ p ∈ m.ecs, ∀ C, F.CL p.1 = some C → PySem.W.exmOne F.K (.ref C) (.ref C2) = some (catB p.1 n2)
  dic : ∀ p ∈ m.dics, ∃ a, mg p.1 = some (.ref a) ∧ DicOk F.K F.w a p.2
theorem Mo.kp {m : Md} {F : FX} {mg : Str → Option Value} {base : Heap} {ad : Nat → Addr} {fdt : Nat → FuncData} {co ta : Nat → Addr} (M : Mo m F mg base ad fdt co ta) (i : Nat) (h : m.ids.contains i = true) : PySem.W.keepIn F.K (.ref (ad i)) = true := (M.fn i h).kp
/-- a constant of the module -/
theorem se_gc {F : FX} {X : Cx} {W : WX} {b : Bool} {x : Str} {pos : Pos} {d : FL.D} (hg : Gl X x) (hm : ∃ u v, X.mg x = some u ∧ RelV v u ∧ ∀ s G, Rep F s G d v) (hd : (x == ("__debug__" : Str)) = false := by decide) : SE F X W b (.Name x pos) (kE d) := by
  obtain ⟨u, v, hm, r, h⟩ := hm
  exact se_k (pe_glob hg hm r hd) h
/-! ### the head -/
/-- constants as the head reads them -/
def dvD : FL.D → Option He.Dv
  | .non => some .non
  | .bl b => some (.bl b)
  | .int i => some (.int i)
  | .str x => some (.str x)
  | _ => none
def dvsD : List FL.D → Option (List He.Dv)
  | [] => some []
  | d :: ds => match dvD d, dvsD ds with
    | some v, some vs => some (v :: vs)
    | _, _ => none
theorem dv_rep {F : FX} {s : Option Addr} {G : Hp} {K : PySem.W.Frag} {d : FL.D} {v : He.Dv} (h : dvD d = some v) : Rep F s G d (v.v K) := by
  cases d <;> cases h <;> rfl
theorem dvs_rep {F : FX} {s : Option Addr} {G : Hp} {K : PySem.W.Frag} : ∀ {ds : List FL.D} {vs : List He.Dv}, dvsD ds = some vs → RepL F s G ds (vs.map (He.Dv.v K))
  | [], _, h => by cases h; rfl
  | d :: ds, vs, h => by
    unfold dvsD at h
    cases e1 : dvD d with
    | none => simp only [e1] at h; cases h
    | some v =>
      cases e2 : dvsD ds with
      | none => simp only [e1, e2] at h; cases h
      | some us =>
        simp only [e1, e2] at h
        cases h
        exact ⟨_, _, rfl, dv_rep e1, dvs_rep e2⟩
def cfa (p : Str × FL.D) : He.Fa := match p.2 with
  | .int i => .int p.1 i
  | .str z => .str p.1 z
  | _ => .glo p.1
def cex (K : PySem.W.Frag) (p : Str × FL.D) : Bool := match p.2 with
  | .int _ => true
  | .str _ => true
  | .tup ds => (match dvsD ds with
    | some vs => He.tupB K p.1 vs
    | none => false)
  | _ => false
theorem cst_ok {K : PySem.W.Frag} {h : Heap} {mg : Str → Option Value} (X : K.In h) (G : h.Ns mainGlobals mg) {p : Str × FL.D} (h1 : (cfa p).ok K = true) (h2 : cex K p = true) {F : FX} (hF : F.K = K) : ∃ u v, mg p.1 = some u ∧ RelV v u ∧ ∀ s G, Rep F s G p.2 v := by
  obtain ⟨x, d⟩ := p
  cases d with
  | int i =>
    obtain ⟨t, e⟩ := He.int_ok X G (x := x) (i := i) h1
    exact ⟨_, .int i, e, ⟨t, rfl⟩, fun _ _ => rfl⟩
  | str z =>
    obtain ⟨t, e⟩ := He.str_ok X G (x := x) (z := z) h1
    exact ⟨_, .str z, e, ⟨t, rfl⟩, fun _ _ => rfl⟩
  | tup ds =>
    have e := He.glo_ok X G (x := x) h1
    have h2 : (match dvsD ds with
      | some vs => He.tupB K x vs
      | none => false) = true := h2
    cases e2 : dvsD ds with
    | none => rw [e2] at h2; cases h2
    | some vs =>
      rw [e2] at h2
      refine ⟨_, .ref (He.ga K x), e, rfl, fun s G => ⟨_, _, rfl, .inr ?_, dvs_rep (K := K) e2⟩⟩
      rcases He.tupB_ok h2 (fun _ => none) with q | q
      · rcases q with q | ⟨o, q⟩ <;> cases q
      · rw [hF]
        exact q
  | _ => cases h2
def Md.dd (m : Md) (i : Nat) : He.DefD := ⟨(m.name i, none), m.name i, m.name i, defArgs (m.top i), defBody (m.top i), defScope (m.top i), [], []⟩
def Md.di (m : Md) (p : Str × List Str × Nat) : He.DefD := ⟨(p.1, some "__init__"), "__init__", p.1 ++ ".__init__", defArgs (initOf (m.top p.2.2)), defBody (initOf (m.top p.2.2)), defScope (initOf (m.top p.2.2)), [], []⟩
def Md.fn (m : Md) : List He.DefD := m.ids.map m.dd ++ m.ecs.map m.di
def Md.fa (m : Md) : List He.Fa := m.ids.map (fun i => He.Fa.glo (m.name i)) ++ (m.frees.map He.Fa.free ++ (m.consts.map cfa ++ (m.ecs.map (fun p => He.Fa.glo p.1) ++ (m.cats.map He.Fa.glo ++ m.dics.map fun p => He.Fa.glo p.1))))
def Md.ts (m : Md) : List He.Tab := m.dics.map fun p => ((fun K => He.ga K p.1), p.2.map (·.1))
def Md.tf (m : Md) : List He.Defn := m.tabs.map fun i => (m.name i, none)
def Md.eB (m : Md) (K : PySem.W.Frag) (p : Str × List Str × Nat) : Bool := oexB K (He.ga K p.1) && (p.2.1.all (fun f => decide (PySem.W.takerIn K (He.ga K p.1) f = some none) && decide (PySem.W.findIn K (.ref (He.ga K p.1)) f = some none)) && (xfB K (He.ga K p.1) &&
  (decide (PySem.W.findIn K (.ref (He.ga K p.1)) "__init__" = some (some (.ref (He.ma K (He.ga K p.1) "__init__")))) && (decide (PySem.W.typeIn K (.ref (He.ma K (He.ga K p.1) "__init__")) = some (.type "function")) && m.cats.all fun n2 => decide (PySem.W.exmOne K (.ref (He.ga K p.1)) (.ref (He.ga K n2)) = some (catB p.1 n2))))))
def Md.ex (m : Md) (K : PySem.W.Frag) : Bool := (m.consts.all (cex K) && m.ecs.all (m.eB K)) && m.dics.all fun p => He.valsB K (He.ga K p.1) (p.2.map fun q => (q.1, He.Dv.str q.2))
def Md.cl (m : Md) (K : PySem.W.Frag) : Str → Option Addr := fun x => if (m.ecs.map (·.1)).contains x = true then some (He.ga K x) else none
/-- how a def's arguments bind -/
def Md.binds (m : Md) : Prop := ∀ i ∈ m.ids, ∀ (kV doc pm : Value) (an : Option Addr) (cdv ct : Value) (us : List Value), us.length = (m.pars i).length →
  bindArgs (PySem.W.fnOf (m.name i) (m.name i) (defArgs (m.top i)) (defBody (m.top i)) (defScope (m.top i)) .none kV doc pm an cdv ct) ⟨us, []⟩ = pure ((m.pars i).zip us)
def Md.bindsI (m : Md) : Prop := ∀ p ∈ m.ecs, ∀ (kV doc pm : Value) (an : Option Addr) (cdv ct : Value) (us : List Value), us.length = ((("self" : Str) :: p.2.1)).length →
  bindArgs (PySem.W.fnOf "__init__" (p.1 ++ ".__init__") (defArgs (initOf (m.top p.2.2))) (defBody (initOf (m.top p.2.2))) (defScope (initOf (m.top p.2.2))) .none kV doc pm an cdv ct) ⟨us, []⟩ = pure ((("self" : Str) :: p.2.1).zip us)
theorem mem_ids {m : Md} {i : Nat} (h : m.ids.contains i = true) : i ∈ m.ids := by simpa using h
theorem mo_of {m : Md} {K : PySem.W.Frag} {h : Heap} {mg : Str → Option Value} {w : World} (X : K.In h) (G : h.Ns mainGlobals mg) (c : He.SaysX m.fa m.fn m.ts m.tf m.ex w h K) (hb : m.binds) (hbI : m.bindsI) (ht : ∀ i ∈ m.tabs, i ∈ m.ids) :
    ∃ (fdt : Nat → FuncData) (co ta : Nat → Addr), (∀ i ∈ m.tabs, h.get? (ta i) = some { cls := .none, data := .fields #[] }) ∧ (∀ i ∈ m.tabs, K.lookup (ta i) = none) ∧ (∀ i ∈ m.tabs, PySem.W.CodeHd h (co i) (ta i)) ∧
      (∀ i ∈ m.ids, ∀ (s : Shared) (us : List Value), us.length = (m.pars i).length → BindsTo s (fdt i) ⟨us, []⟩ ((m.pars i).zip us)) ∧
      ∀ (base : Heap), (∀ i ∈ m.tabs, GxR.TabB base mg (co i) (ta i)) → Mo m ⟨K, m.tabs.map ta, m.cl K, w⟩ mg base (fun i => He.ga K (m.name i)) fdt co ta := by
  have hF : ∀ i ∈ m.ids, ∃ fd, FunD K (m.name i) (m.name i) (defArgs (m.top i)) (defBody (m.top i)) (defScope (m.top i)) [] [] (He.ga K (m.name i)) fd := fun i hi => c.t.d.defs (d := m.dd i) (List.mem_append_left _ (List.mem_map.mpr ⟨i, hi, rfl⟩))
  have hF' : ∀ i, ∃ fd, i ∈ m.ids → FunD K (m.name i) (m.name i) (defArgs (m.top i)) (defBody (m.top i)) (defScope (m.top i)) [] [] (He.ga K (m.name i)) fd := fun i => by
    by_cases hi : i ∈ m.ids
    · obtain ⟨fd, q⟩ := hF i hi
      exact ⟨fd, fun _ => q⟩
    · exact ⟨PySem.W.fnOf "" "" (defArgs (m.top i)) [] (defScope (m.top i)) .none .none .none .none none .none .none, fun z => absurd z hi⟩
  have facts : ∀ {f : He.Fa}, f ∈ m.fa → f.ok K = true := fun hf => c.t.d.facts hf
  have glo : ∀ i, i ∈ m.ids → mg (m.name i) = some (.ref (He.ga K (m.name i))) := fun i hi => He.glo_ok X G (facts (List.mem_append_left _ (List.mem_map.mpr ⟨i, hi, rfl⟩)))
  have fun_ : ∀ {i fd}, FunD K (m.name i) (m.name i) (defArgs (m.top i)) (defBody (m.top i)) (defScope (m.top i)) [] [] (He.ga K (m.name i)) fd → L2.Fun K (m.name i) (m.name i) (m.top i) (He.ga K (m.name i)) fd := fun {i fd} q => by
    obtain ⟨oc, od, dV, kV, doc, pm, an, cdv, ct, osl, e, lk, hcd, hD, hK⟩ := q.ex
    rcases hD with ⟨_, rfl⟩ | ⟨z, _⟩
    · exact ⟨⟨oc, od, kV, doc, pm, an, cdv, ct, osl, e, lk, hcd⟩, q.kp⟩
    · exact absurd rfl z
  refine ⟨fun i => Classical.choose (hF' i), fun i => (He.cT K (m.name i, none)).1, fun i => (He.cT K (m.name i, none)).2, fun i hi => c.empty _ (List.mem_map.mpr ⟨i, hi, rfl⟩), fun i hi => c.out _ (List.mem_map.mpr ⟨i, hi, rfl⟩),
    fun i hi => PySem.W.codeHd_of_K X (c.hd _ (List.mem_map.mpr ⟨i, hi, rfl⟩)), fun i hi s us hl => FunD.bindsA (Classical.choose_spec (hF' i) hi) (hb i hi) s us hl, fun base hT => ?_⟩
  refine ⟨fun x hx => He.free_ok X G (facts (List.mem_append_right _ (List.mem_append_left _ (List.mem_map.mpr ⟨x, hx, rfl⟩)))), fun i hi => glo i (mem_ids hi), fun i hi => fun_ (Classical.choose_spec (hF' i) (mem_ids hi)), fun i hi => ?_,
    fun i hi => FunD.bindsN (Classical.choose_spec (hF' i) (mem_ids hi)) (hb i (mem_ids hi)), fun i hi => ⟨hT i hi, List.mem_map.mpr ⟨i, hi, rfl⟩⟩, fun p hp => cst_ok X G (facts (List.mem_append_right _ (List.mem_append_right _ (List.mem_append_left _ (List.mem_map.mpr ⟨p, hp, rfl⟩))))) (List.all_eq_true.mp (Bool.and_eq_true_iff.mp (Bool.and_eq_true_iff.mp c.more).1).1 p hp) rfl, fun P p hp => ?_, fun n2 h2 => ⟨_, He.glo_ok X G (facts (List.mem_append_right _ (List.mem_append_right _ (List.mem_append_right _ (List.mem_append_right _ (List.mem_append_left _ (List.mem_map.mpr ⟨n2, h2, rfl⟩))))))), fun p hp C hC => ?_⟩, fun p hp => ⟨He.ga K p.1, He.glo_ok X G (facts (List.mem_append_right _ (List.mem_append_right _ (List.mem_append_right _ (List.mem_append_right _ (List.mem_append_right _ (List.mem_map.mpr ⟨p, hp, rfl⟩))))))), ?_⟩⟩
  · have q := Classical.choose_spec (hF' i) (ht i hi)
    obtain ⟨oc, od, dV, kV, doc, pm, an, cdv, ct, osl, e, lk, hcd, hD, hK⟩ := q.ex
    rcases hD with ⟨_, rfl⟩ | ⟨z, _⟩
    · obtain ⟨cc, rfl⟩ := He.codeIn_ref hcd
      have ec : He.codeOf K (m.name i, none) = cc := He.codeOf_eq (p := (m.name i, none)) lk (by rw [e] <;> rfl)
      refine ⟨⟨oc, od, kV, doc, pm, an, ct, osl, ?_, lk, ?_⟩, q.kp⟩
      · show Classical.choose (hF' i) = PySem.W.fnOf _ _ _ _ _ _ _ _ _ _ (.ref (He.codeOf K (m.name i, none))) _
        rw [ec]
        exact e
      · show PySem.W.codeIn K (.ref (He.codeOf K (m.name i, none))) _ = true
        rw [ec]
        exact hcd
    · exact absurd rfl z
  · have eb := List.all_eq_true.mp (Bool.and_eq_true_iff.mp (Bool.and_eq_true_iff.mp c.more).1).2 p hp
    unfold Md.eB at eb
    simp only [Bool.and_eq_true, decide_eq_true_eq, List.all_eq_true] at eb
    obtain ⟨e1, e2, e3, e4, e5, e6⟩ := eb
    obtain ⟨fd, q⟩ := c.t.d.defs (d := m.di p) (List.mem_append_right _ (List.mem_map.mpr ⟨p, hp, rfl⟩))
    refine ⟨He.ga K p.1, He.ma K (He.ga K p.1) "__init__", fd, He.glo_ok X G (facts (List.mem_append_right _ (List.mem_append_right _ (List.mem_append_right _ (List.mem_append_left _ (List.mem_map.mpr ⟨p, hp, rfl⟩)))))), oexB_ok e1, fun f hf => (e2 f hf).1, fun f hf => (e2 f hf).2, xfB_ok e3, e4, e5, ?_, FunD.bindsN q (hbI p hp), ?_⟩
    · obtain ⟨oc, od, dV, kV, doc, pm, an, cdv, ct, osl, e, lk, hcd, hD, hK⟩ := q.ex
      rcases hD with ⟨_, rfl⟩ | ⟨z, _⟩
      · exact ⟨⟨oc, od, kV, doc, pm, an, cdv, ct, osl, e, lk, hcd⟩, q.kp⟩
      · exact absurd rfl z
    · show (if (m.ecs.map (·.1)).contains p.1 = true then some (He.ga K p.1) else none) = _
      rw [if_pos (by simpa using ⟨_, _, hp⟩)]
  · have eb := List.all_eq_true.mp (Bool.and_eq_true_iff.mp (Bool.and_eq_true_iff.mp c.more).1).2 p hp
    unfold Md.eB at eb
    simp only [Bool.and_eq_true, decide_eq_true_eq, List.all_eq_true] at eb
    obtain ⟨e1, e2, e3, e4, e5, e6⟩ := eb
    have hC : (if (m.ecs.map (·.1)).contains p.1 = true then some (He.ga K p.1) else none) = some C := hC
    rw [if_pos (by simpa using ⟨_, _, hp⟩)] at hC
    cases hC
    exact e6 n2 h2
  · have ev := List.all_eq_true.mp (Bool.and_eq_true_iff.mp c.more).2 p hp
    have e : m.ts.map (fun t => He.dicW K (t.1 K)) = m.ts.map fun t => some (He.keysIn w.params t.2) := congrArg (fun z : He.AlT => z.2) c.t
    have e2 : ∀ q ∈ m.dics, He.dicW K (He.ga K q.1) = some (He.keysIn w.params (q.2.map (·.1))) := fun q hq => by
      obtain ⟨i, hi, eq⟩ := List.mem_iff_getElem.mp hq
      have e3 : (m.ts.map fun t => He.dicW K (t.1 K))[i]? = (m.ts.map fun t => some (He.keysIn w.params t.2))[i]? := by rw [e]
      unfold Md.ts at e3
      simp only [List.getElem?_map] at e3
      rw [List.getElem?_eq_getElem hi, eq] at e3
      exact Option.some.inj e3
    exact dic_ok (e2 p hp) ev
/-- the counter's start: nothing, the tables empty -/
theorem vol_start {w : World} {K : PySem.W.Frag} {TL : List Addr} {CL : Str → Option Addr} {H : Hp} (hT : ∀ P ∈ TL, H P = some (.tbl #[])) : Ex (fun a => if a ∈ TL then none else H a) H ∧ Vol ⟨K, TL, CL, w⟩ none none (fun a => if a ∈ TL then none else H a) H := by
  refine ⟨fun a o e => ?_, ⟨fun a e => (nomatch e), fun P hP => ⟨if_pos hP, #[], hT P hP, ?_⟩⟩⟩
  · have e : (if a ∈ TL then none else H a) = some o := e
    by_cases h : a ∈ TL
    · rw [if_pos h] at e; cases e
    · rw [if_neg h] at e; exact e
  · trivial
/-- THE END: a law of the module, by what its meaning gives at every script -/
theorem law_at {l : PySem.W.OpenLaw} {m : Md} {w : World} {K : PySem.W.Frag} {mg : Str → Option Value} {h : Heap} {i k n : Nat} {mm : DS} (X : K.In h) (G : h.Ns mainGlobals mg) (c : He.SaysX m.fa m.fn m.ts m.tf m.ex w h K) (hb : m.binds) (hbI : m.bindsI) (ht : ∀ i ∈ m.tabs, i ∈ m.ids) (hi : i ∈ m.ids) (hps : m.pars i = [("script" : Str)])
    (hok : ∀ (F : FX) (base : Heap) (ad : Nat → Addr) (fdt : Nat → FuncData) (co ta : Nat → Addr), F.CL = m.cl K → Mo m F mg base ad fdt co ta → FnOk l.prog F.w F.K mg base (L2.CX l.prog F.w) k (ad i) (fdt i) [("script" : Str)] (spF F true 1 mm))
    (hm : ∀ ns : List Int, ns.length ≤ n → (∀ z ∈ ns, Builtin.Int.intBits z ≤ 1048576) → ∃ c', mm [.scr ns] none = .va (.bl true) c') :
    LamX.LawAtS l w K (L2.CX l.prog w) k n "script" mg (He.ga K (m.name i)) h := by
  obtain ⟨fdt, co, ta, t1, t2, t3, t4, mo⟩ := mo_of X G c hb hbI ht
  refine ⟨fdt i, m.tabs.map fun i => (co i, ta i), spF ⟨K, m.tabs.map ta, m.cl K, w⟩ true 1 mm, fun p hp => ?_, fun p hp => ?_, fun p hp => ?_, fun s u => ?_, fun H a ns hl hbits hH hS => ?_, fun base hK hns hTB => ?_⟩
  · obtain ⟨j, hj, rfl⟩ := List.mem_map.mp hp
    exact t1 j hj
  · obtain ⟨j, hj, rfl⟩ := List.mem_map.mp hp
    exact t2 j hj
  · obtain ⟨j, hj, rfl⟩ := List.mem_map.mp hp
    exact t3 j hj
  · have z := t4 i hi s [u] (by rw [hps]; rfl)
    rw [hps] at z
    exact z
  · have hT : ∀ P ∈ m.tabs.map ta, H P = some (.tbl #[]) := fun P hP => by
      obtain ⟨j, hj, rfl⟩ := List.mem_map.mp hP
      exact hH (co j, ta j) (List.mem_map.mpr ⟨j, hj, rfl⟩)
    obtain ⟨e1, v1⟩ := vol_start (w := w) (K := K) (CL := m.cl K) hT
    obtain ⟨c', e⟩ := hm ns hl hbits
    refine ⟨rfl, none, _, none, [.scr ns], e1, v1, ⟨.ref a, [], rfl, ⟨a, rfl, ?_⟩, rfl⟩, ?_⟩
    · rcases hS with q | q
      · have na : a ∉ m.tabs.map ta := fun z => by
          have := hT a z
          rcases q with q | ⟨o, q⟩ <;> (rw [q] at this; cases this)
        refine .inl ?_
        rcases q with q | ⟨o, q⟩
        · exact .inl ((if_neg na).trans q)
        · exact .inr ⟨o, (if_neg na).trans q⟩
      · exact .inr q
    · rw [e]
      intro s' v G' H' _ _ r
      exact r
  · exact hok _ base _ fdt co ta rfl (mo base fun j hj => by
      have z := hTB (co j, ta j) (List.mem_map.mpr ⟨j, hj, rfl⟩)
      exact ⟨z.code, z.bm, z.gP⟩)
end FL

set_option Elab.async false
set_option linter.all false
set_option maxRecDepth 100000
set_option maxHeartbeats 1000000
/-! G8: raising and catching, by a module's facts. -/
namespace FL
open PySem PySem.Spec L2 PyProof.Rows
open Evl (Ex)
/-- a statement that the law never comes to: no meaning, so nothing to show -/
def badS : SS := fun _ _ => .bad
theorem ss_bad {F : FX} {X : Cx} {W : WX} {z : Bool} {st : Stmt} : SSt F X W z st badS := ⟨⟨fun _ _ _ _ _ _ ⟨_, _, _, _, _, _, q⟩ => q.elim⟩⟩
section
variable {F : FX} {X : Cx} {W : WX} {z : Bool} {x : Str} {fs : List Str} {st : Stmt} {e : Expr} {es : List Expr} {f : AS} {p pos pos' : Pos} {cls : Str}
theorem ss_raiseM (h : ∃ C fI fd, ExcOk X.prog F X.mg X.base cls fs st C fI fd) (hi : ∀ C fI fd, ExcOk X.prog F X.mg X.base cls fs st C fI fd → FnOk X.prog X.w X.K X.mg X.base (L2.CX X.prog X.w) 1 fI fd (("self" : Str) :: fs) (spI X.K fs)) (hc : X.calm = true) (tk : Takes X W) (hK : X.K = F.K) (hr : Room 2 X.A)
    (hg : Gl X cls) (ha : SA F X W false (e :: es) f) (hfs : fs.length ≤ 1000 := by decide) (hdb : (cls == ("__debug__" : Str)) = false := by decide) (he : starEach (e :: es) X.env = (false, eval e X.env) :: starEach es X.env := by rfl) (hpl : (backTo pos (starEach es X.env)).any (·.1) = false := by rfl) :
    SSt F X W z (.Raise (some (.Call (.Name cls p) (e :: es) [] pos)) none pos') (raiseS cls fs f) := by
  obtain ⟨C, fI, fd, E⟩ := h
  exact ss_raise hc tk hK (by rw [hK]; exact E.oe) (by rw [hK]; exact E.tk) (by rw [hK]; exact E.ini) (by rw [hK]; exact E.ty) (hi C fI fd E) hr (by rw [hK]; exact E.bi) hg E.mg E.cl hfs ha hdb he hpl
/-- which classes an except clause of n2 takes -/
def Md.clB (m : Md) (n2 : Str) : Str → Option Bool := fun cn => if (m.ecs.map (·.1)).contains cn = true then some (catB cn n2) else none
theorem sx_atM {i : Nat} {n : Str} (h : ∃ C fI fd, ExcOk X.prog F X.mg X.base cls fs st C fI fd) (hK : X.K = F.K) (hn : n ∈ fs) (hv : ∀ a pn, PE (X.suite a pn) e (tVar i)) (hb : attributeBase e n X.env (eval e X.env) = eval e X.env := by rfl) :
    SX F X i (.Attribute e n pos) fun x => if x.cls = cls then x.fs.lookup n else none := by
  obtain ⟨C, fI, fd, E⟩ := h
  exact sx_at (by rw [hK]; exact E.xf) (by rw [hK]; exact E.no n hn) E.cl hv hb
theorem ss_tryM {m : Md} {i : Nat} {n n2 : Str} {body : List Stmt} {np pos2 : Pos} {g : SS} {h : Exn → Option FL.D} (hct : ∃ C2, X.mg n2 = some (.ref C2) ∧ ∀ p ∈ m.ecs, ∀ C, F.CL p.1 = some C → PySem.W.exmOne F.K (.ref C) (.ref C2) = some (catB p.1 n2)) (hK : X.K = F.K)
    (hs : X.stack = X.env :: X.outer) (hf : X.env.frame = some X.env.locals) (hN : X.N.Nodup) (hi : X.N[i]? = some n) (hln : X.env.kindOf n = some .local) (hg : Gl X n2) (hdb : (n2 == ("__debug__" : Str)) = false) (tk : Takes X W)
    (hb : ∀ (W' : WX) (pn : List (Addr × Obj)) (xe : Value → Shared → Prop), Takes (X.tr pn xe) W' → PassesOwn (model X.prog X.w) X.A X.env xe → SB F (X.tr pn xe) W' z body g) (he : SX F X i e h) :
    SSt F X W z (.Try body [.ExceptHandler (some (.Name n2 np)) (some n) [.Return (some e) pos2] pos'] [] [] pos) (trySR g i (m.clB n2) h) := by
  obtain ⟨C2, h1, h2⟩ := hct
  refine ss_try hs hf hN hi hln (c := .ref C2) ⟨hg, hdb, .inl h1⟩ tk (fun cn b C hc hC => ?_) hb he
  unfold Md.clB at hc
  by_cases hm : (m.ecs.map (·.1)).contains cn = true
  · rw [if_pos hm] at hc
    cases hc
    obtain ⟨p, hp, rfl⟩ : ∃ p ∈ m.ecs, p.1 = cn := by simpa using hm
    rw [hK]
    exact h2 p hp C hC
  · rw [if_neg hm] at hc
    cases hc
end
end FL

set_option Elab.async false
set_option linter.all false
set_option maxRecDepth 100000
set_option maxHeartbeats 1000000
/-! M0: the F-layer's words, run step by step. -/
namespace FL
open PySem L2 PyProof.Rows
variable {α β : Type} {c c' : CT} {env e' : En} {x y d : FL.D} {ex : Exn}
def bndR (k : α → M β) : R α → R β
  | .ok a c => k a c
  | .ex x c => .ex x c
  | .bad => .bad
theorem ev_bnd (m : M α) (k : α → M β) (c : CT) : bnd m k c = bndR k (m c) := by unfold bnd bndR; cases m c <;> rfl
theorem ev_bndR_ok (k : α → M β) (a : α) : bndR k (.ok a c) = k a c := rfl
theorem ev_bndR_ex (k : α → M β) : bndR k (.ex ex c) = .ex ex c := rfl
theorem ev_bndR_bad (k : α → M β) : bndR k .bad = .bad := rfl
theorem ev_ret (a : α) : ret a c = .ok a c := rfl
theorem ev_lft_some (a : α) : lft (some a) c = .ok a c := rfl
theorem ev_lft_none : lft (none : Option α) c = .bad := rfl
theorem ev_k : kE d env c = .ok d c := rfl
theorem ev_var0 {r : En} : varE 0 (Sl.va d :: r) c = .ok d c := rfl
theorem ev_varS {r : En} {s : Sl} {i : Nat} : varE (i + 1) (s :: r) c = varE i r c := rfl
theorem ev_varB0 {r : En} : varB 0 (Sl.va d :: r) c = .ok d c := rfl
theorem ev_varB0o {r : En} {xs : List FL.D} : varB 0 (Sl.ow xs :: r) c = .ok (.lst xs) c := rfl
theorem ev_varBS {r : En} {s : Sl} {i : Nat} : varB (i + 1) (s :: r) c = varB i r c := rfl
theorem ev_op (op : CT → FL.D → FL.D → Option FL.D) (f g : ES) : opE op f g env c = bndR (fun x => bnd (g env) fun y => fun c => lft (op c x y) c) (f env c) := ev_bnd _ _ _
theorem ev_un (op : CT → FL.D → Option FL.D) (f : ES) : unE op f env c = bndR (fun x => fun c => lft (op c x) c) (f env c) := ev_bnd _ _ _
theorem ev_ca (op : CT → List FL.D → Option FL.D) (f : AS) : caE op f env c = bndR (fun x => fun c => lft (op c x) c) (f env c) := ev_bnd _ _ _
theorem ev_aNil : aNil env c = .ok [] c := rfl
theorem ev_aCons (f : ES) (g : AS) : aCons f g env c = bndR (fun d => bnd (g env) fun ds => ret (d :: ds)) (f env c) := ev_bnd _ _ _
def callR : DR → R FL.D
  | .va d c' => .ok d c'
  | .ow xs c' => .ok (.lst xs) c'
  | .ex x c' => .ex x c'
  | .bad => .bad
theorem ev_call (f : DS) (a : AS) : callE f a env c = bndR (fun ds c => callR (f ds c)) (a env c) := by
  unfold callE
  rw [ev_bnd]
  congr 1
theorem ev_callR_va : callR (.va d c) = .ok d c := rfl
theorem ev_callR_ow {xs : List FL.D} : callR (.ow xs c) = .ok (.lst xs) c := rfl
theorem ev_callR_ex : callR (.ex ex c) = .ex ex c := rfl
theorem ev_tup (f : AS) : tupE f env c = bndR (fun ds => if ds.length ≤ sizeLine then ret (FL.D.tup ds) else bad) (f env c) := ev_bnd _ _ _
theorem ev_lst (f : AS) : lstE f env c = bndR (fun ds => ret (FL.D.lst ds)) (f env c) := ev_bnd _ _ _
theorem ev_ls (f : AS) : lsE f env c = bndR (fun ds => if ds.length ≤ sizeLine then ret ds else bad) (f env c) := ev_bnd _ _ _
def listR : List FL.D → M (List FL.D)
  | [.lst xs] => ret xs
  | [.tup xs] => ret xs
  | _ => bad
theorem ev_listO (f : AS) : listO f env c = bndR listR (f env c) := by
  unfold listO
  rw [ev_bnd]
  congr 1
theorem ev_listR1 {xs : List FL.D} : listR [.lst xs] c = .ok xs c := rfl
theorem ev_listR2 {xs : List FL.D} : listR [.tup xs] c = .ok xs c := rfl
def itR : FL.D → M (List FL.D)
  | .lst ds => ret ds
  | .tup ds => ret ds
  | .str x => ret (signs x)
  | _ => bad
theorem ev_itE (f : ES) : itE f env c = bndR itR (f env c) := by
  unfold itE
  rw [ev_bnd]
  congr 1
theorem ev_itR1 {xs : List FL.D} : itR (.lst xs) c = .ok xs c := rfl
theorem ev_itR2 {xs : List FL.D} : itR (.tup xs) c = .ok xs c := rfl
theorem ev_itR3 {z : Str} : itR (.str z) c = .ok (signs z) c := rfl
def asR : FL.D → M Bool
  | .bl k => ret k
  | _ => bad
theorem ev_asB (f : ES) : asB f env c = bndR asR (f env c) := by
  unfold asB
  rw [ev_bnd]
  congr 1
theorem ev_asR {k : Bool} : asR (.bl k) c = .ok k c := rfl
theorem ev_truT (f : ES) : truT f env c = bndR (fun x => lft (truD x)) (f env c) := ev_bnd _ _ _
def andR (g : BS) (env : En) : R Bool → R Bool
  | .ok true c => g env c
  | .ok false c => .ok false c
  | .ex x c => .ex x c
  | .bad => .bad
theorem ev_andT (f g : BS) : andT f g env c = andR g env (f env c) := by
  unfold andT
  rw [ev_bnd]
  unfold bndR andR
  cases h : f env c with
  | ok a c => cases a <;> rfl
  | _ => rfl
theorem ev_andR1 (g : BS) : andR g env (.ok true c) = g env c := rfl
theorem ev_andR2 (g : BS) : andR g env (.ok false c) = .ok false c := rfl
def orR (g : BS) (env : En) : R Bool → R Bool
  | .ok true c => .ok true c
  | .ok false c => g env c
  | .ex x c => .ex x c
  | .bad => .bad
theorem ev_orT (f g : BS) : orT f g env c = orR g env (f env c) := by
  unfold orT
  rw [ev_bnd]
  unfold bndR orR
  cases h : f env c with
  | ok a c => cases a <;> rfl
  | _ => rfl
theorem ev_orR1 (g : BS) : orR g env (.ok true c) = .ok true c := rfl
theorem ev_orR2 (g : BS) : orR g env (.ok false c) = g env c := rfl
theorem ev_notT (f : BS) : notT f env c = bndR (fun k => ret (!k)) (f env c) := ev_bnd _ _ _
def andER (g : ES) (env : En) : R FL.D → R FL.D
  | .ok (.bl true) c => g env c
  | .ok (.bl false) c => .ok (.bl false) c
  | .ok _ _ => .bad
  | .ex x c => .ex x c
  | .bad => .bad
theorem ev_andE (f g : ES) : andE f g env c = andER g env (f env c) := by
  unfold andE
  rw [ev_bnd]
  unfold bndR andER
  cases h : f env c with
  | ok a c => cases a with
    | bl k => cases k <;> rfl
    | _ => rfl
  | _ => rfl
theorem ev_andER1 (g : ES) : andER g env (.ok (.bl true) c) = g env c := rfl
theorem ev_andER2 (g : ES) : andER g env (.ok (.bl false) c) = .ok (.bl false) c := rfl
def orER (g : ES) (env : En) : R FL.D → R FL.D
  | .ok (.bl true) c => .ok (.bl true) c
  | .ok (.bl false) c => g env c
  | .ok _ _ => .bad
  | .ex x c => .ex x c
  | .bad => .bad
theorem ev_orE (f g : ES) : orE f g env c = orER g env (f env c) := by
  unfold orE
  rw [ev_bnd]
  unfold bndR orER
  cases h : f env c with
  | ok a c => cases a with
    | bl k => cases k <;> rfl
    | _ => rfl
  | _ => rfl
theorem ev_orER1 (g : ES) : orER g env (.ok (.bl true) c) = .ok (.bl true) c := rfl
theorem ev_orER2 (g : ES) : orER g env (.ok (.bl false) c) = g env c := rfl
def notER : FL.D → M FL.D
  | .bl k => ret (.bl (!k))
  | _ => bad
theorem ev_notE (f : ES) : notE f env c = bndR notER (f env c) := by
  unfold notE
  rw [ev_bnd]
  congr 1
theorem ev_notER {k : Bool} : notER (.bl k) c = .ok (.bl (!k)) c := rfl
def ifER (u v : ES) (env : En) : R Bool → R FL.D
  | .ok true c => u env c
  | .ok false c => v env c
  | .ex x c => .ex x c
  | .bad => .bad
theorem ev_ifE (t : BS) (u v : ES) : ifE t u v env c = ifER u v env (t env c) := by
  unfold ifE
  rw [ev_bnd]
  unfold bndR ifER
  cases h : t env c with
  | ok a c => cases a <;> rfl
  | _ => rfl
theorem ev_ifER1 (u v : ES) : ifER u v env (.ok true c) = u env c := rfl
theorem ev_ifER2 (u v : ES) : ifER u v env (.ok false c) = v env c := rfl
theorem ev_sl (f : ES) (lo hi : OS) : slE f lo hi env c = bndR (fun d => bnd (lo env) fun l => bnd (hi env) fun h => lft (slD d l h)) (f env c) := ev_bnd _ _ _
theorem ev_noP : noP env c = .ok none c := rfl
def soR : FL.D → M (Option Int)
  | .int i => ret (some i)
  | _ => bad
theorem ev_soP (f : ES) : soP f env c = bndR soR (f env c) := by
  unfold soP
  rw [ev_bnd]
  congr 1
theorem ev_soR {i : Int} : soR (.int i) c = .ok (some i) c := rfl
def chR (op' : CT → FL.D → FL.D → Option FL.D) (h : ES) (env : En) (y : FL.D) (c : CT) : Option FL.D → R FL.D
  | some (.bl true) => bnd (h env) (fun w => fun c => lft (op' c y w) c) c
  | some (.bl false) => .ok (.bl false) c
  | _ => .bad
theorem ev_ch (op op' : CT → FL.D → FL.D → Option FL.D) (f g h : ES) : chE op op' f g h env c = bndR (fun x => bnd (g env) fun y => fun c => chR op' h env y c (op c x y)) (f env c) := by
  unfold chE
  rw [ev_bnd]
  congr 1
theorem ev_chR1 (op' : CT → FL.D → FL.D → Option FL.D) (h : ES) : chR op' h env y c (some (.bl true)) = bndR (fun w => fun c => lft (op' c y w) c) (h env c) := ev_bnd _ _ _
theorem ev_chR2 (op' : CT → FL.D → FL.D → Option FL.D) (h : ES) : chR op' h env y c (some (.bl false)) = .ok (.bl false) c := rfl
/-! statements -/
def exR (k : α → SS) (env : En) : R α → SR
  | .ok a c' => k a env c'
  | .ex x c' => .ex x env c'
  | .bad => .bad
theorem ev_ex (m : En → M α) (k : α → SS) : exS m k env c = exR k env (m env c) := by unfold exS exR; cases m env c <;> rfl
theorem ev_exR (k : α → SS) (a : α) : exR k env (.ok a c) = k a env c := rfl
theorem ev_exRx (k : α → SS) : exR k env (.ex ex c) = .ex ex env c := rfl
theorem ev_retS (f : ES) : retS f env c = exR (fun d _ c => .rt d c) env (f env c) := ev_ex _ _
theorem ev_asg (i : Nat) (f : ES) : asgS i f env c = exR (fun d env c => if i < env.length then .nx (env.set i (Sl.va d)) c else .bad) env (f env c) := ev_ex _ _
theorem ev_asgO (i : Nat) (f : AS) : asgO i f env c = exR (fun d env c => if i < env.length then .nx (env.set i (Sl.ow d)) c else .bad) env (f env c) := ev_ex _ _
theorem ev_drop (f : ES) : dropS f env c = exR (fun _ env c => .nx env c) env (f env c) := ev_ex _ _
def ifR (f g : SS) (env : En) : R Bool → SR
  | .ok true c => f env c
  | .ok false c => g env c
  | .ex x c => .ex x env c
  | .bad => .bad
theorem ev_if (t : BS) (f g : SS) : ifS t f g env c = ifR f g env (t env c) := by
  unfold ifS
  rw [ev_ex]
  unfold exR ifR
  cases h : t env c with
  | ok a c => cases a <;> rfl
  | _ => rfl
theorem ev_ifR1 (f g : SS) : ifR f g env (.ok true c) = f env c := rfl
theorem ev_ifR2 (f g : SS) : ifR f g env (.ok false c) = g env c := rfl
def seqR (g : SS) : SR → SR
  | .nx e c => g e c
  | r => r
theorem ev_seq (f g : SS) : seqS f g env c = seqR g (f env c) := by unfold seqS seqR; cases f env c <;> rfl
theorem ev_seqR1 (g : SS) : seqR g (.nx env c) = g env c := rfl
theorem ev_seqR2 (g : SS) : seqR g (.rt d c) = .rt d c := rfl
theorem ev_seqR3 (g : SS) {xs : List FL.D} : seqR g (.ro xs c) = .ro xs c := rfl
theorem ev_seqR4 (g : SS) : seqR g (.ex ex env c) = .ex ex env c := rfl
theorem ev_seqR5 (g : SS) : seqR g (.bk env c) = .bk env c := rfl
theorem ev_seqR6 (g : SS) : seqR g (.ct env c) = .ct env c := rfl
theorem ev_nx : nxS env c = .nx env c := rfl
theorem ev_bk : bkS env c = .bk env c := rfl
theorem ev_ct : ctS env c = .ct env c := rfl
def defR : SR → DR
  | .nx _ c' => .va .non c'
  | .rt d c' => .va d c'
  | .ro xs c' => .ow xs c'
  | .ex x _ c' => .ex x c'
  | _ => .bad
theorem ev_def (n : Nat) (b : SS) (ds : List FL.D) : defF n b ds c = defR (b (ds.map Sl.va ++ List.replicate (n - ds.length) Sl.no) c) := by
  unfold defF defR
  cases b (ds.map Sl.va ++ List.replicate (n - ds.length) Sl.no) c <;> rfl
theorem ev_defR1 : defR (.nx env c) = .va .non c := rfl
theorem ev_defR2 : defR (.rt d c) = .va d c := rfl
theorem ev_defR3 {xs : List FL.D} : defR (.ro xs c) = .ow xs c := rfl
theorem ev_defR4 : defR (.ex ex env c) = .ex ex c := rfl
theorem ev_retO0 {r : En} {xs : List FL.D} : retO 0 (Sl.ow xs :: r) c = .ro xs c := rfl
theorem ev_retOS {r : En} {s : Sl} {i : Nat} : retO (i + 1) (s :: r) c = retO i r c := rfl
def loopR (t : Tg) (body : SS) (ds : List FL.D) : SR → SR
  | .nx e c' => loopS t body ds e c'
  | .ct e c' => loopS t body ds e c'
  | .bk e c' => .nx e c'
  | r => r
theorem ev_forS (it : AS) (t : Tg) (body : SS) : forS it t body env c = exR (fun ds => loopS t body ds) env (it env c) := ev_ex _ _
theorem ev_loop0 (t : Tg) (body : SS) : loopS t body [] env c = .nx env c := rfl
theorem ev_loop1 {t : Tg} {body : SS} {r : List FL.D} {env1 : En} (h : t d env = some env1) : loopS t body (d :: r) env c = loopR t body r (body env1 c) := by
  show (match t d env with
    | none => SR.bad
    | some env1 => match body env1 c with
      | .nx e c' => loopS t body r e c'
      | .ct e c' => loopS t body r e c'
      | .bk e c' => .nx e c'
      | res => res) = _
  rw [h]
  show (match body env1 c with
      | .nx e c' => loopS t body r e c'
      | .ct e c' => loopS t body r e c'
      | .bk e c' => .nx e c'
      | res => res) = _
  unfold loopR
  cases body env1 c <;> rfl
theorem ev_loopR1 (t : Tg) (body : SS) {r : List FL.D} : loopR t body r (.nx env c) = loopS t body r env c := rfl
theorem ev_loopR2 (t : Tg) (body : SS) {r : List FL.D} : loopR t body r (.ct env c) = loopS t body r env c := rfl
theorem ev_loopR3 (t : Tg) (body : SS) {r : List FL.D} : loopR t body r (.bk env c) = .nx env c := rfl
theorem ev_loopR4 (t : Tg) (body : SS) {r : List FL.D} : loopR t body r (.rt d c) = .rt d c := rfl
def appR (i : Nat) (xs : List FL.D) (env : En) : R FL.D → SR
  | .ok d c => if xs.length < sizeLine then .nx (env.set i (Sl.ow (xs ++ [d]))) c else .bad
  | .ex x c => .ex x env c
  | .bad => .bad
theorem ev_app {i : Nat} {f : ES} {xs : List FL.D} (h : env[i]? = some (Sl.ow xs)) : appS i f env c = appR i xs env (f env c) := by
  unfold appS
  rw [h]
  show exS f _ env c = _
  rw [ev_ex]
  unfold exR appR
  cases f env c <;> rfl
theorem ev_spot {i : Nat} {f : ES} {n m : Int} (h : env[i]? = some (Sl.va .spt)) (hf : f env c = .ok (.int m) (some n)) : spotS i f env c = .nx env (some m) := by
  unfold spotS
  rw [h]
  show exS f _ env c = _
  rw [ev_ex, hf]
  rfl
section
variable {i j : Int} {xs ys : List FL.D} {u v : Str}
theorem ev_addI : addD c (.int i) (.int j) = some (.int (i + j)) := rfl
theorem ev_subI : subD c (.int i) (.int j) = some (.int (i - j)) := rfl
theorem ev_ltI : ltD c (.int i) (.int j) = some (.bl (decide (i < j))) := rfl
theorem ev_leI : leD c (.int i) (.int j) = some (.bl (decide (i ≤ j))) := rfl
theorem ev_gtI : gtD c (.int i) (.int j) = some (.bl (decide (j < i))) := rfl
theorem ev_geI : geD c (.int i) (.int j) = some (.bl (decide (j ≤ i))) := rfl
theorem ev_ltS : ltD c (.str u) (.str v) = some (.bl (decide (u.cps.toList < v.cps.toList))) := rfl
theorem ev_intI : FL.intD c [.int i] = some (.int i) := rfl
theorem ev_lenT : FL.lenD c [.tup xs] = some (.int xs.length) := rfl
theorem ev_lenL : FL.lenD c [.lst xs] = some (.int xs.length) := rfl
theorem ev_tupT : FL.tupD c [.tup xs] = some (.tup xs) := rfl
theorem ev_tupL : FL.tupD c [.lst xs] = some (.tup xs) := rfl
theorem ev_lstT : FL.lstD c [.tup xs] = some (.lst xs) := rfl
theorem ev_lstL : FL.lstD c [.lst xs] = some (.lst xs) := rfl
theorem ev_eqI : eqD c (.int i) (.int j) = some (.bl (decide (i = j))) := rfl
theorem ev_eqS : eqD c (.str u) (.str v) = some (.bl (decide (u = v))) := rfl
theorem ev_neI : neD c (.int i) (.int j) = some (.bl (!decide (i = j))) := rfl
theorem ev_neS : neD c (.str u) (.str v) = some (.bl (!decide (u = v))) := rfl
theorem ev_truB {k : Bool} : truD (.bl k) = some k := rfl
theorem ev_truT1 : truD (.tup xs) = some (!xs.isEmpty) := rfl
theorem ev_truL1 : truD (.lst xs) = some (!xs.isEmpty) := rfl
theorem ev_truN : truD .non = some false := rfl
theorem ev_isN0 : isND c .non .non = some (.bl true) := rfl
theorem ev_isNT : isND c (.tup xs) .non = some (.bl false) := rfl
theorem ev_isNL : isND c (.lst xs) .non = some (.bl false) := rfl
theorem ev_isNS : isND c (.str u) .non = some (.bl false) := rfl
theorem ev_isNI : isND c (.int i) .non = some (.bl false) := rfl
theorem ev_isNB {k : Bool} : isND c (.bl k) .non = some (.bl false) := rfl
theorem ev_noN0 : notND c .non .non = some (.bl false) := rfl
theorem ev_line {n : Nat} (h : n < 5000) : (n ≤ sizeLine) = True := eq_true (by rw [sizeLine_eq]; omega)
theorem ev_noNT : notND c (.tup xs) .non = some (.bl true) := rfl
end
theorem ev_lcE (it : AS) (vs : List Nat) (t : Tg) (tt : BS) (te : ES) : lcE it vs t tt te env c = bndR (fun ds => compA t tt te (wipeE env vs) ds []) (it env c) := ev_bnd _ _ _
theorem ev_quE (k : Bool) (it : AS) (vs : List Nat) (t : Tg) (tt : BS) (te : ES) : quE k it vs t tt te env c = bndR (fun ds => quL k t tt te (wipeE env vs) ds) (it env c) := ev_bnd _ _ _
theorem ev_wipe0 : wipeE env [] = env := rfl
theorem ev_wipe1 (v : Nat) (vs : List Nat) : wipeE env (v :: vs) = (wipeE env vs).set v Sl.no := rfl
theorem ev_yes : yesT env c = .ok true c := rfl
theorem noX_ok {m : M α} {a : α} (h : m c = .ok a c') : noX m c = .ok a c' := by
  unfold noX
  rw [h]
/-- a comprehension without a test -/
theorem comp_yes {t : Tg} {te : ES} {env : En} (Q : FL.D → Prop) (I : CT → Prop) : ∀ (ds acc : List FL.D) (c : CT), acc.length + ds.length < 5000 → I c → (∀ d ∈ ds, ∀ c, I c → ∃ env1 y c2, t d env = some env1 ∧ te env1 c = .ok y c2 ∧ Q y ∧ I c2) →
    ∃ ys c', compA t yesT te env ds acc c = .ok (acc ++ ys) c' ∧ ys.length = ds.length ∧ (∀ y ∈ ys, Q y) ∧ I c'
  | [], acc, c, _, hc, _ => ⟨[], c, by rw [List.append_nil]; rfl, rfl, fun _ h => absurd h (by simp), hc⟩
  | d :: ds, acc, c, hl, hc, st => by
    rw [List.length_cons] at hl
    obtain ⟨env1, y, c2, h1, h2, h3, h4⟩ := st d List.mem_cons_self c hc
    obtain ⟨ys, c', q1, q2, q3, q4⟩ := comp_yes Q I ds (acc ++ [y]) c2 (by rw [List.length_append]; show _ + 1 + _ < _; omega) h4 fun d hd => st d (List.mem_cons_of_mem _ hd)
    refine ⟨y :: ys, c', ?_, by rw [List.length_cons, List.length_cons, q2], fun z hz => ?_, q4⟩
    · have u : compA t yesT te env (d :: ds) acc c = compA t yesT te env ds (acc ++ [y]) c2 := by
        unfold compA
        rw [h1]
        show bnd (noX (yesT env1)) _ c = _
        rw [ev_bnd, noX_ok ev_yes, ev_bndR_ok]
        show bnd (noX (te env1)) _ c = _
        rw [ev_bnd, noX_ok h2, ev_bndR_ok]
        rw [if_pos (show acc.length < sizeLine by rw [sizeLine_eq]; omega)]
        cases ds <;> rfl
      rw [u, q1, List.append_assoc]
      rfl
    · rcases List.mem_cons.mp hz with e | hz
      · rw [e]; exact h3
      · exact q3 z hz
/-- a comprehension that picks -/
theorem comp_pick {t : Tg} {tt : BS} {te : ES} {env : En} (p : FL.D → Bool) (f : FL.D → FL.D) {c : CT} : ∀ (ds acc : List FL.D), acc.length + ds.length < 5000 → (∀ d ∈ ds, ∃ env1, t d env = some env1 ∧ tt env1 c = .ok (p d) c ∧ te env1 c = .ok (f d) c) →
    compA t tt te env ds acc c = .ok (acc ++ (ds.filter p).map f) c
  | [], acc, _, _ => by rw [List.filter_nil, List.map_nil, List.append_nil]; rfl
  | d :: ds, acc, hl, st => by
    rw [List.length_cons] at hl
    obtain ⟨env1, h1, h2, h3⟩ := st d List.mem_cons_self
    have st' := fun d hd => st d (List.mem_cons_of_mem _ hd)
    unfold compA
    rw [h1]
    show bnd (noX (tt env1)) _ c = _
    rw [ev_bnd, noX_ok h2, ev_bndR_ok]
    cases hp : p d with
    | true =>
      show bnd (noX (te env1)) _ c = _
      rw [ev_bnd, noX_ok h3, ev_bndR_ok]
      rw [if_pos (show acc.length < sizeLine by rw [sizeLine_eq]; omega), comp_pick p f ds (acc ++ [f d]) (by rw [List.length_append]; show _ + 1 + _ < _; omega) st', List.filter_cons_of_pos hp, List.map_cons, List.append_assoc]
      rfl
    | false =>
      show compA t tt te env ds acc c = _
      rw [comp_pick p f ds acc (by omega) st', List.filter_cons_of_neg (by rw [hp]; decide)]
/-- all, any of plain tests -/
theorem quL_all {t : Tg} {te : ES} {env : En} (p : FL.D → Bool) {c : CT} : ∀ ds : List FL.D, (∀ d ∈ ds, ∃ env1, t d env = some env1 ∧ te env1 c = .ok (.bl (p d)) c) → quL false t yesT te env ds c = .ok (.bl (ds.all p)) c
  | [], _ => rfl
  | d :: ds, st => by
    obtain ⟨env1, h1, h2⟩ := st d List.mem_cons_self
    unfold quL
    rw [h1]
    show bnd (noX (yesT env1)) _ c = _
    rw [ev_bnd, noX_ok ev_yes, ev_bndR_ok]
    show bnd (noX (te env1)) _ c = _
    rw [ev_bnd, noX_ok h2, ev_bndR_ok, List.all_cons]
    cases hp : p d with
    | true =>
      show quL false t yesT te env ds c = _
      rw [quL_all p ds fun d hd => st d (List.mem_cons_of_mem _ hd), Bool.true_and]
    | false => rfl
/-! ### methods of one text, targets -/
def m1R (op : Str → FL.D → Option FL.D) (g : ES) (env : En) : FL.D → M FL.D := fun x => match x with
  | .str x => bnd (g env) fun y => lft (op x y)
  | _ => bad
theorem ev_m1 (op : Str → FL.D → Option FL.D) (f g : ES) : m1E op f g env c = bndR (m1R op g env) (f env c) := by
  unfold m1E
  rw [ev_bnd]
  congr 1
theorem ev_m1R (op : Str → FL.D → Option FL.D) (g : ES) (x : Str) : m1R op g env (.str x) c = bndR (fun y => lft (op x y)) (g env c) := ev_bnd _ _ _
def asgTR (t : Tg) (env : En) : R FL.D → SR
  | .ok d c => match t d env with
    | some env1 => .nx env1 c
    | none => .bad
  | .ex x c => .ex x env c
  | .bad => .bad
theorem ev_asgT (t : Tg) (f : ES) : asgT t f env c = asgTR t env (f env c) := by
  unfold asgT
  rw [ev_ex]
  cases h : f env c with
  | ok d c' =>
    show (match t d env with
      | some env' => SR.nx env' c'
      | none => SR.bad) = _
    show _ = (match t d env with
      | some env1 => SR.nx env1 c'
      | none => SR.bad)
    cases t d env <;> rfl
  | ex x c' => rfl
  | bad => rfl
end FL

set_option Elab.async false
set_option linter.all false
set_option maxRecDepth 100000
set_option maxHeartbeats 4000000
/-! E4: sum(a list of lists, a list). -/
namespace FL
open PySem PySem.Spec L2 PyProof.Rows
section
variable {P : Program} {w : World} {A : Around} {E : Value → Shared → Prop} {s : Shared}
/-- a plain list at an address -/
def LstAt (h : Heap) (a : Addr) (its : List Value) : Prop := ∃ n, h.get? a = some { cls := .type "list", data := .seq its.toArray n }
theorem LstAt.at {h h' : Heap} {a : Addr} {its : List Value} (x : LstAt h a its) (k : ∀ o, h.get? a = some o → h'.get? a = some o) : LstAt h' a its := by
  obtain ⟨n, e⟩ := x
  exact ⟨n, k _ e⟩
theorem sumL_loop {I : Addr} {fp wr : List Addr} {G : Array GenState → Array GenState → Prop} {n : Nat} {Pv : Nat → Value → Prop} {St : Nat → Shared → Prop} {R : Result → Shared → Prop}
    (W : WalksS P w A.in1 I fp wr G n Pv St) (S : Addr) (hSf : S ∉ fp) (hfp : ∀ i s, St i s → ∀ b ∈ fp, b < s.heap.objs.size) (bs : List (List Value)) (h0 : Heap) (st : List Value) (hn : n = bs.length) (hsz : st.length + bs.flatten.length ≤ sizeLine)
    (hS0 : h0.objs.size ≤ S) (hwr : ∀ b ∈ wr, h0.objs.size ≤ b)
    (hv : ∀ i v, Pv i v → ∃ a b, bs[i]? = some b ∧ v = .ref a ∧ LstAt h0 a b) :
    ∀ (k i : Nat) (s : Shared) (T : Addr) (c : Nat), n - i = k → i ≤ n → St i s → s.heap.get? S = some { cls := .type "list", dict := none, data := .seq #[.ref T] c, slots := #[] } →
      LstAt s.heap T (st ++ (bs.take i).flatten) → T ≠ S → T ∉ wr → (∀ b o, h0.get? b = some o → s.heap.get? b = some o) → (1 ≤ i → h0.objs.size ≤ T) →
      (∀ s' T', Moved (S :: wr) G s s' → LstAt s'.heap T' (st ++ bs.flatten) → (1 ≤ n → h0.objs.size ≤ T') → R (.ok (.ret (.ref T'))) s') →
      codeAny (model P w) A (.builtin "sum.loop" ⟨[.ref I, .ref S, rawInt 2, rawInt 0], []⟩) R s := by
  have hSw : S ∉ wr := fun h => hSf (W.sub _ h)
  have up : ∀ b ∈ wr, b ∈ S :: wr := fun b hb => List.mem_cons_of_mem _ hb
  intro k
  induction k with
  | zero =>
    intro i s T c hk hi hst hS hT hTS hTw h0s hT0 hR
    obtain rfl : i = n := by omega
    refine codeAny_builtin F.entry_sum_loop ?_
    rw [Around.under_plainId F.plain_sum_loop _]
    show wpAny _ A.in1 (seqItems? (.ref S) >>= _) _ _ s
    refine wpAny_bind (wpAny_seqItems hS rfl ?_)
    show wpAny _ A.in1 (tryCatch (pyNext (.ref I)) _ >>= _) _ _ s
    refine wpAny_bind (wpAny_tryCatch (W.done s _ _ hst fun s' hm => ?_))
    rw [List.take_of_length_le (by omega)] at hT
    exact wpAny_pure (hR s' T (hm.mono up) (hT.at fun o e => hm.heap T o hTw e) hT0)
  | succ k ih =>
    intro i s T c hk hi hst hS hT hTS hTw h0s hT0 hR
    have hlt : i < n := by omega
    refine codeAny_builtin F.entry_sum_loop ?_
    rw [Around.under_plainId F.plain_sum_loop _]
    show wpAny _ A.in1 (seqItems? (.ref S) >>= _) _ _ s
    refine wpAny_bind (wpAny_seqItems hS rfl ?_)
    show wpAny _ A.in1 (tryCatch (pyNext (.ref I)) _ >>= _) _ _ s
    refine wpAny_bind (wpAny_tryCatch (W.item i s _ _ hlt hst fun v s' hP hst' hm => ?_))
    obtain ⟨a, b, hb, rfl, hab⟩ := hv i v hP
    have hS' := hm.heap S _ hSw hS
    have hT' : LstAt s'.heap T (st ++ (bs.take i).flatten) := hT.at fun o e => hm.heap T o hTw e
    have h0s' : ∀ b o, h0.get? b = some o → s'.heap.get? b = some o := fun b o e => hm.heap b o (fun q => Nat.lt_irrefl _ (Nat.lt_of_lt_of_le (Heap.lt_size e) (hwr b q))) (h0s b o e)
    have hab' : LstAt s'.heap a b := hab.at fun o e => h0s' a o e
    obtain ⟨n1, e1⟩ := hT'
    obtain ⟨n2, e2⟩ := hab'
    have htk : (bs.take (i + 1)).flatten = (bs.take i).flatten ++ b := by
      rw [List.take_add_one, hb, List.flatten_append]
      simp
    have hlen : (st ++ (bs.take i).flatten).length + b.length ≤ sizeLine := by
      have q : (bs.take (i + 1)).flatten.length ≤ bs.flatten.length := by
        have := List.take_append_drop (i + 1) bs
        conv => rhs; rw [← this]
        rw [List.flatten_append, List.length_append]
        omega
      rw [htk, List.length_append] at q
      rw [List.length_append]
      omega
    show wpAny _ A.in1 ((holding [Value.ref a] (binaryOp .Add (.ref T) (.ref a))).attempt >>= _) _ _ _
    refine wpAny_bind (wpAny_attempt (wpAny_holding (PySem.P.add_list e1 e2 ?_ (by rw [List.size_toArray, List.size_toArray]; exact hlen))))
    have hSlt : S < s'.heap.objs.size := Heap.lt_size hS'
    have hS2 := Heap.get?_push_of_some { cls := .type "list", data := .seq ((st ++ (bs.take i).flatten).toArray ++ b.toArray) } hS'
    show wpAny _ A.in1 (updateSeq S (fun _ => #[.ref s'.heap.objs.size]) >>= _) _ _ _
    refine wpAny_bind (wpAny_updateSeq hS2 rfl ?_)
    have hS3 := Heap.get?_update_self (Obj.mapSeq fun _ => #[Value.ref s'.heap.objs.size]) hS2 rfl
    refine wpAny_bind (wpAny_letGo ?_)
    have oth : ∀ (h2 : Heap) (f : Obj → Obj) (b : Addr) (o : Obj), b ≠ S → h2.get? b = some o → (h2.update S f).get? b = some o := fun h2 f b o hne e => (Heap.get?_update_other _ _ (fun h : S = b => hne h.symm)).trans e
    have keep : ∀ d o, d ≠ S → s'.heap.get? d = some o → (((s'.heap.push { cls := .type "list", data := .seq ((st ++ (bs.take i).flatten).toArray ++ b.toArray) }).update S (Obj.mapSeq fun _ => #[Value.ref s'.heap.objs.size])).update S (Obj.mapSeq fun _ => #[Value.ref s'.heap.objs.size])).get? d = some o := fun d o hne e => oth _ _ d o hne (oth _ _ d o hne (Heap.get?_push_of_some _ e))
    have hTne : s'.heap.objs.size ≠ S := Nat.ne_of_gt hSlt
    have hTf : s'.heap.objs.size ∉ fp := fun q => Nat.lt_irrefl _ (hfp _ _ hst' _ q)
    have hS0' : h0.objs.size ≤ s'.heap.objs.size := Nat.le_of_lt (Nat.lt_of_le_of_lt hS0 hSlt)
    refine wpAny_bind (wpAny_updateSeq hS3 rfl (wpAny_pure ⟨plainId_quiet F.plain_sum_loop _, ih (i + 1) _ s'.heap.objs.size _ (by omega) hlt (W.frame _ s' _ _ hst' (Nat.le_refl _) fun d hd o e => keep d o (fun q => hSf (by rw [← q]; exact hd)) e) (Heap.get?_update_self _ hS3 rfl) ?_ hTne (fun q => hTf (W.sub _ q)) (fun d o e => keep d o (fun q => ?_) (h0s' d o e)) (fun _ => hS0') fun s'' T'' hm'' => ?_⟩))
    · have e4 : (st ++ (bs.take (i + 1)).flatten).toArray = (st ++ (bs.take i).flatten).toArray ++ b.toArray := by rw [htk, ← List.append_assoc]; simp
      have e3 : (s'.heap.push { cls := .type "list", data := .seq ((st ++ (bs.take i).flatten).toArray ++ b.toArray) }).get? s'.heap.objs.size = some { cls := .type "list", data := .seq ((st ++ (bs.take i).flatten).toArray ++ b.toArray) } := Heap.get?_push_size _ rfl
      unfold LstAt
      rw [e4]
      exact ⟨_, oth _ _ _ _ hTne (oth _ _ _ _ hTne e3)⟩
    · subst q
      exact Nat.lt_irrefl _ (Nat.lt_of_lt_of_le (Heap.lt_size e) hS0)
    · refine hR s'' T'' (Moved.trans W.gtrans ((hm.mono up).then_heap (Nat.le_refl _) fun d o hd e => keep d o (fun q => hd (by rw [q]; exact List.mem_cons_self)) e) hm'')
theorem args_sum2 (a b : Value) : argsOk "sum" ⟨[a, b], []⟩ := by unfold argsOk; kernel_rfl
theorem call_sumL {l st : Addr} {items : Array Value} {bs : List (List Value)} {sl : List Value} {Q : Value → Shared → Prop} (hh : A.handled = none) (hl : s.heap.IsList l items) (hn : items.size = bs.length)
    (hv : ∀ (i : Nat) (v : Value), items[i]? = some v → ∃ a b, bs[i]? = some b ∧ v = .ref a ∧ LstAt s.heap a b) (hst : LstAt s.heap st sl) (hsz : sl.length + bs.flatten.length ≤ sizeLine) (h1 : 1 ≤ bs.length)
    (h : ∀ (h' : Heap) (tk : Nat) (T : Addr), s.heap.objs.size ≤ T → LstAt h' T (sl ++ bs.flatten) → (∀ b o, s.heap.get? b = some o → h'.get? b = some o) → Q (.ref T) { s with heap := h', toks := tk }) :
    wpAny (model P w) A (call (.builtin "sum") [.ref l, .ref st]) Q E s := by
  obtain ⟨nst, hst⟩ := hst
  obtain ⟨ol, hol, hcl, nl, hdl⟩ := id hl
  have hlS : l < s.heap.objs.size := Heap.lt_size hol
  have hsS : st < s.heap.objs.size := Heap.lt_size hst
  refine call_function_tree F.kind_sum F.plain_sum F.entry_sum (args_sum2 _ _) ?_
  unfold Builtin.«sum»
  simp only [List.length_cons, List.length_nil]
  rw [if_neg (by decide)]
  refine wpAny_bind (wpAny_of_eq (show Builtin.Builtins.bindParams "sum" ["start"] 0 ⟨[.ref st], []⟩ = pure [some (.ref st)] from rfl) ?_)
  refine wpAny_bind (wpAny_pyIter_list hl ?_)
  refine wpAny_bind (wpAny_pure ?_)
  have hst1 : (s.heap.push { cls := .type "list_iterator", data := .fields #[.ref l, .int 0 0] }).get? st = some { cls := .type "list", data := .seq sl.toArray nst } := Heap.get?_push_of_some _ hst
  have ty : Shared.TypeIs { s with heap := s.heap.push { cls := .type "list_iterator", data := .fields #[.ref l, .int 0 0] } } (.ref st) "list" := ⟨_, hst1, rfl⟩
  simp only [List.forIn_cons, List.forIn_nil]
  refine wpAny_bind (wpAny_bind (wpAny_bind (wpAny_isInstance (T := "list") (b := false) ty F.sub_list_str ?_)))
  simp only [Bool.false_eq_true, if_false]
  refine wpAny_pure (wpAny_bind (wpAny_bind (wpAny_isInstance (T := "list") (b := false) ty F.sub_list_bytes ?_)))
  simp only [Bool.false_eq_true, if_false]
  refine wpAny_pure (wpAny_bind (wpAny_bind (wpAny_isInstance (T := "list") (b := false) ty F.sub_list_bytearray ?_)))
  simp only [Bool.false_eq_true, if_false]
  refine wpAny_pure (wpAny_pure ?_)
  refine wpAny_bind (wpAny_newObj_type ?_)
  have ez : (s.heap.push { cls := .type "list_iterator", data := .fields #[.ref l, .int 0 0] }).objs.size = s.heap.objs.size + 1 := Heap.size_push ..
  have hl1 : (s.heap.push { cls := .type "list_iterator", data := .fields #[.ref l, .int 0 0] }).IsList l items := hl.push _
  have hSf : (s.heap.push { cls := .type "list_iterator", data := .fields #[.ref l, .int 0 0] }).objs.size ∉ [s.heap.objs.size, l] := by
    rw [ez]
    simp only [List.mem_cons, List.mem_singleton, List.not_mem_nil, or_false, not_or]
    exact ⟨Nat.ne_of_gt (Nat.lt_succ_self _), Nat.ne_of_gt (Nat.lt_succ_of_lt hlS)⟩
  have up1 : ∀ b o, s.heap.get? b = some o → ((s.heap.push { cls := .type "list_iterator", data := .fields #[.ref l, .int 0 0] }).push { cls := .type "list", data := .seq #[.ref st] }).get? b = some o := fun b o e => Heap.get?_push_of_some _ (Heap.get?_push_of_some _ e)
  refine wpAny_pure ⟨plainId_quiet F.plain_sum_loop _, sumL_loop ((Walks.list (A := A.in1) (by simp [hh]) s.heap.objs.size l (Nat.ne_of_lt hlS) items).toS) _ hSf (fun i z q b hb => ?_) bs s.heap sl hn hsz (by rw [ez]; exact Nat.le_succ _) (fun b hb => ?_) hv items.size 0 _ st _ (Nat.sub_zero _) (Nat.zero_le _) ⟨⟨_, Heap.get?_push_of_some _ (Heap.get?_push_size _ rfl), rfl, rfl⟩, hl1.push _⟩ (Heap.get?_push_size _ rfl) ?_ (by rw [ez]; exact Nat.ne_of_lt (Nat.lt_succ_of_lt hsS)) (fun q => ?_) up1 (fun q => absurd q (by decide)) fun s' T' hm hT' hT0 => ?_⟩
  · obtain ⟨⟨o1, e1, _⟩, ⟨o2, e2, _⟩⟩ := q
    rcases List.mem_cons.mp hb with rfl | hb
    · exact Heap.lt_size e1
    · rw [List.mem_singleton.mp hb]; exact Heap.lt_size e2
  · rw [List.mem_singleton.mp hb]; exact Nat.le_refl _
  · refine ⟨nst, ?_⟩
    rw [List.take_zero, List.flatten_nil, List.append_nil]
    exact up1 _ _ hst
  · exact Nat.lt_irrefl _ (by rw [List.mem_singleton.mp q] at hsS; exact hsS)
  · obtain ⟨h', g2, d', tk', os'⟩ := s'
    have eg : g2 = s.gens := hm.gens
    have ed : d' = s.drawn := hm.drawn
    have eo : os' = s.os := hm.os
    subst eg; subst ed; subst eo
    refine h h' tk' T' (hT0 (by rw [hn]; exact h1)) hT' fun b o e => hm.heap b o ?_ (up1 b o e)
    have hb0 : b < s.heap.objs.size := Heap.lt_size e
    rw [ez]
    simp only [List.mem_cons, List.mem_singleton, List.not_mem_nil, or_false, not_or]
    exact ⟨Nat.ne_of_lt (Nat.lt_succ_of_lt hb0), Nat.ne_of_lt hb0⟩
end
end FL

set_option Elab.async false
set_option linter.all false
set_option maxRecDepth 100000
set_option maxHeartbeats 2000000
/-! S2: sum(a list of lists, a list) as data. -/
namespace FL
open PySem PySem.Spec L2 PyProof.Rows
open Evl (Ex)
def rSumL : List V → Hp → VK → Prop := fun vs H Q => ∃ (a b : Addr) (ps : List Addr) (wss : List (List V)) (ys : List V), vs = [V.ref a, V.ref b] ∧ H a = some (.lst (ps.map V.ref)) ∧ ps.length = wss.length ∧ (∀ (i : Nat) (p : Addr) (w : List V), ps[i]? = some p → wss[i]? = some w → H p = some (.lst w)) ∧
  H b = some (.lst ys) ∧ ys.length + wss.flatten.length ≤ sizeLine ∧ 1 ≤ wss.length ∧ ∀ q : Addr, H q = none → Q (.ref q) (upd H q (.lst (ys ++ wss.flatten)))
theorem vals_refs : ∀ {ps : List Addr} {us : List Value}, Vals (ps.map V.ref) us → us = ps.map Value.ref
  | [], us, h => by
    rw [List.map_nil] at h
    cases h
    rfl
  | p :: ps, us, h => by
    rw [List.map_cons] at h
    cases h with
    | cons r t =>
      cases r
      rw [vals_refs t, List.map_cons]
theorem vals_app : ∀ {xs zs : List V} {us ws : List Value}, Vals xs us → Vals zs ws → Vals (xs ++ zs) (us ++ ws)
  | _, _, _, _, .nil, h => h
  | _, _, _, _, .cons r t, h => .cons r (vals_app t h)
theorem parts_of {X : Cx} {pins : _} {σ : _} {H : Hp} {sh : Shared} (I : L2.Inv X pins σ H sh) : ∀ (ps : List Addr) (wss : List (List V)), ps.length = wss.length → (∀ (i : Nat) (p : Addr) (w : List V), ps[i]? = some p → wss[i]? = some w → H p = some (.lst w)) →
    ∃ bs : List (List Value), bs.length = ps.length ∧ (∀ (i : Nat) (p : Addr), ps[i]? = some p → ∃ b, bs[i]? = some b ∧ LstAt sh.heap p b) ∧ Vals wss.flatten bs.flatten
  | [], [], _, _ => ⟨[], rfl, fun i p h => by simp at h, .nil⟩
  | [], _ :: _, h, _ => by cases h
  | _ :: _, [], h, _ => by cases h
  | p :: ps, w :: wss, hl, h => by
    obtain ⟨bs, h1, h2, h3⟩ := parts_of I ps wss (Nat.succ.inj hl) fun i q u e1 e2 => h (i + 1) q u e1 e2
    obtain ⟨_, its, n, r, _, e⟩ := I.lstM (h 0 p w rfl rfl)
    refine ⟨its :: bs, by rw [List.length_cons, List.length_cons, h1], fun i q e1 => ?_, ?_⟩
    · cases i with
      | zero =>
        cases (show some p = some q from e1)
        exact ⟨its, rfl, n, e⟩
      | succ i => exact h2 i q e1
    · rw [List.flatten_cons, List.flatten_cons]
      exact vals_app r h3
theorem cr_sumL {X : Cx} (hc : X.calm = true) : CallR X (.builtin "sum") rSumL := by
  intro pins s σ H vs us Q I r h
  obtain ⟨a, b, ps, wss, ys, rfl, ha, hl, hp, hb, hz, h1, q⟩ := h
  obtain ⟨bs, b1, b2, b3⟩ := parts_of I ps wss hl hp
  obtain ⟨_, its, n, ri, _, e⟩ := I.lstM ha
  have := vals_refs ri
  subst this
  obtain ⟨_, its2, n2, r2, l2, e2⟩ := I.lstM hb
  have hus : us = [.ref a, .ref b] := by
    cases r with
    | cons r1 t =>
      cases t with
      | cons r2 t2 =>
        cases t2
        cases r1
        cases r2
        rfl
  subst hus
  have len : its2.length + bs.flatten.length = ys.length + wss.flatten.length := by rw [← l2, ← b3.length]
  refine call_sumL (items := (ps.map Value.ref).toArray) (bs := bs) (sl := its2) (I.ok.hd hc) ⟨_, e, rfl, n, rfl⟩ (by rw [List.size_toArray, List.length_map, b1]) (fun i v hv => ?_) ⟨n2, e2⟩ (by omega) (by omega) fun h' tk T hT hT2 hk => ?_
  · rw [List.getElem?_toArray, List.getElem?_map] at hv
    cases hp2 : ps[i]? with
    | none => rw [hp2] at hv; cases hv
    | some p =>
      rw [hp2] at hv
      cases hv
      obtain ⟨c, c1, c2⟩ := b2 i p hp2
      exact ⟨p, c, c1, rfl, c2⟩
  · obtain ⟨n3, e3⟩ := hT2
    exact ⟨.ref T, upd H T (.lst (ys ++ wss.flatten)), I.laid (t' := tk) hk hT ⟨by rw [List.length_append]; omega, its2 ++ bs.flatten, n3, vals_app r2 b3, e3⟩, rfl, q T (I.hok.fresh hT)⟩
section
variable {F : FX}
def lstsO : List FL.D → Option (List (List FL.D))
  | [] => some []
  | .lst xs :: r => (lstsO r).map (xs :: ·)
  | _ :: _ => none
theorem lstsO_rep {s : Option Addr} {G H : Hp} (e : Ex G H) : ∀ {ds : List FL.D} {vs : List V} {xss : List (List FL.D)}, lstsO ds = some xss → RepL F s G ds vs →
    ∃ (ps : List Addr) (wss : List (List V)), vs = ps.map V.ref ∧ ps.length = wss.length ∧ wss.length = xss.length ∧ (∀ (i : Nat) (p : Addr) (w : List V), ps[i]? = some p → wss[i]? = some w → H p = some (.lst w)) ∧ RepL F s G xss.flatten wss.flatten
  | [], vs, xss, h, r => by
    cases (show some [] = some xss from h)
    cases (show vs = [] from r)
    exact ⟨[], [], rfl, rfl, rfl, fun i p w h => by simp at h, rfl⟩
  | d :: ds, vs, xss, h, ⟨v, r, h1, h2, h3⟩ => by
    cases d with
    | lst xs =>
      have h : (lstsO ds).map (xs :: ·) = some xss := h
      cases e2 : lstsO ds with
      | none => rw [e2] at h; cases h
      | some zs =>
        rw [e2] at h
        cases h
        obtain ⟨ps, wss, k1, k2, k3, k4, k5⟩ := lstsO_rep e e2 h3
        obtain ⟨p, ws, m1, m2, m3⟩ := h2
        refine ⟨p :: ps, ws :: wss, by rw [h1, m1, k1, List.map_cons], by rw [List.length_cons, List.length_cons, k2], by rw [List.length_cons, List.length_cons, k3], fun i q w e3 e4 => ?_, ?_⟩
        · cases i with
          | zero =>
            cases (show some p = some q from e3)
            cases (show some ws = some w from e4)
            exact e p _ m2
          | succ i => exact k4 i q w e3 e4
        · rw [List.flatten_cons, List.flatten_cons]
          exact RepL.append m3 k5
    | _ => cases h
def sumX (d d' : FL.D) : Option FL.D := match d with
  | .lst ds => (match d' with
    | .lst ys => (match lstsO ds with
      | some xss => if 1 ≤ xss.length ∧ ys.length + xss.flatten.length ≤ sizeLine then some (.lst (ys ++ xss.flatten)) else none
      | none => none)
    | _ => none)
  | _ => none
def sumD := on2 sumX
theorem cd_sumL : CaD F rSumL sumD := cd2 fun s G H c d d' v v' res Q e vo r1 r2 eo w => by
  cases d with
  | lst ds =>
    cases d' with
    | lst ys =>
      have eo : (match lstsO ds with
        | some xss => if 1 ≤ xss.length ∧ ys.length + xss.flatten.length ≤ sizeLine then some (FL.D.lst (ys ++ xss.flatten)) else none
        | none => none) = some res := eo
      cases el : lstsO ds with
      | none => rw [el] at eo; cases eo
      | some xss =>
        rw [el] at eo
        have eo : (if 1 ≤ xss.length ∧ ys.length + xss.flatten.length ≤ sizeLine then some (FL.D.lst (ys ++ xss.flatten)) else none) = some res := eo
        by_cases hc : 1 ≤ xss.length ∧ ys.length + xss.flatten.length ≤ sizeLine
        · rw [if_pos hc] at eo
          cases eo
          obtain ⟨a, vs, rfl, k1, k2⟩ := r1.list e
          obtain ⟨b, us, rfl, m1, m2⟩ := r2.list e
          obtain ⟨ps, wss, rfl, n1, n2, n3, n4⟩ := lstsO_rep e el k2
          exact ⟨a, b, ps, wss, us, rfl, k1, n1, n3, m1, by rw [m2.length, n4.length]; exact hc.2, by rw [n2]; exact hc.1, w.lst e vo (RepL.append m2 n4)⟩
        · rw [if_neg hc] at eo
          cases eo
    | _ => cases eo
  | _ => cases eo
end
end FL

set_option Elab.async false
set_option linter.all false
set_option maxRecDepth 100000
set_option maxHeartbeats 2000000
/-! G9: enumerate(a list). -/
namespace FL
open PySem PySem.Spec L2 PyProof.Rows
open Evl (Ex)
section
variable {F : FX} {s : Option Addr} {G : Hp}
def enumD (ds : List FL.D) : List FL.D := List.zipWith (fun (i : Nat) d => FL.D.tup [.int (i : Nat), d]) (List.range ds.length) ds
theorem enumD_len (ds : List FL.D) : (enumD ds).length = ds.length := by
  unfold enumD
  rw [List.length_zipWith, List.length_range, Nat.min_self]
theorem enumD_get {ds : List FL.D} {i : Nat} {d : FL.D} (h : (enumD ds)[i]? = some d) : ∃ x, ds[i]? = some x ∧ d = .tup [.int (i : Nat), x] := by
  unfold enumD at h
  rw [List.getElem?_zipWith] at h
  cases h2 : ds[i]? with
  | none =>
    rw [h2] at h
    cases h1 : (List.range ds.length)[i]? <;> rw [h1] at h <;> cases h
  | some y =>
    have hi : i < ds.length := (List.getElem?_eq_some_iff.mp h2).1
    rw [h2, List.getElem?_range hi] at h
    cases h
    exact ⟨y, rfl, rfl⟩
theorem itd_enum {a : Addr} {ds : List FL.D} {vs : List V} (h : SqL F.K G a vs) (r : RepL F s G ds vs) : ∃ ok, ItD F (Ite F.K a) ok (enumD ds) ∧ ok s G := by
  refine ⟨fun s G => SqL F.K G a vs ∧ RepL F s G ds vs, ⟨fun i s G H c ok e vo hi => ?_, fun s G H c ok e vo => ?_, fun i s G H c x H' d ok e vo y hd => ?_, fun s s' G G' ok hs e => ⟨Evl.ex_l e ok.1, RepL.mono e hs _ _ ok.2⟩⟩, h, r⟩
  · have hl := ok.2.length
    have hi : i < (enumD ds).length := hi
    rw [enumD_len] at hi
    exact ⟨vs, vs[i]'(by omega), Evl.ex_l e ok.1, by simp⟩
  · have hl := ok.2.length
    refine ⟨vs, Evl.ex_l e ok.1, ?_⟩
    rw [enumD_len]
    omega
  · obtain ⟨T, x1, rfl, nT, rfl, f1⟩ := y
    obtain ⟨d1, e1, rfl⟩ := enumD_get hd
    obtain ⟨v1, hv1, rv1⟩ := ok.2.get e1
    have q1 := f1 vs (Evl.ex_l e ok.1)
    rw [hv1] at q1
    cases q1
    have n := (Nxt.refl e vo).new (o := .tup [.int (i : Nat), x1]) nT
    exact ⟨_, n, T, [.int (i : Nat), x1], rfl, .inl upd_same, .int (i : Nat), [x1], rfl, rfl, x1, [], rfl, Rep.mono n.g (fun _ x => x) _ _ rv1, rfl⟩
/-- enumerate(a list) -/
def enumE (f : AS) : AS := fun env => bnd (f env) fun ds => match ds with
  | [.lst xs] => ret (enumD xs)
  | _ => bad
variable {X : Cx} {W : WX} {p pos tpos : Pos}
theorem si_enum {a : Expr} {f : AS} {elts : List Expr} {kk : Nat} (hK : X.K = F.K) (hg : Gl X "enumerate") (hm : X.mg "enumerate" = none) (ha : SA F X W false [a] f) (hs : starEach [a] X.env = [(false, eval a X.env)] := by rfl) :
    SI F X W (.Tuple elts kk tpos) (.Call (.Name "enumerate" p) [a] [] pos) (enumE f) := by
  refine ⟨pi_imp (pi_enum hg hm ha.pa hs) fun σ H R ⟨B, s, env, G, c, co, q⟩ => ⟨B, s, env, G, c, co, wpR_mono (wpR_bnd q) (fun ds c1 h1 vs G1 H1 n1 r1 => ?_) fun _ _ x => x⟩⟩
  rw [hK]
  match ds, h1, r1 with
  | [.lst xs], h1, ⟨v, r, ev, h2, er⟩ =>
    cases (show r = [] from er)
    obtain ⟨a1, vs1, rfl, k1, k2⟩ := h2.strict
    obtain ⟨ok, i1, i2⟩ := itd_enum (SqL.of k1) k2
    exact ⟨a1, vs1, ev, Evl.ex_l n1.gh (SqL.of k1), h1 _ ok G1 H1 n1 i1 i2⟩
end
end FL

set_option Elab.async false
set_option linter.all false
set_option maxRecDepth 100000
set_option maxHeartbeats 2000000
/-! S3: min(a list of ints, default=None). -/
namespace FL
open PySem PySem.Spec L2 PyProof.Rows
open Evl (Ex)
def minO : List Int → FL.D
  | [] => .non
  | n :: ns => .int (ns.foldl min n)
def minV : List Int → V
  | [] => .non
  | n :: ns => .int (ns.foldl min n)
def rMinD (K : PySem.W.Frag) : List V → List V → Hp → VK → Prop := fun xs zs H Q => ∃ (a : Addr) (ns : List Int), xs = [V.ref a] ∧ zs = [V.non] ∧ SqL K H a (ns.map V.int) ∧ Q (minV ns) H
theorem reads_ints {h : Heap} : ∀ {vs : List Value} {ns : List Int}, IntsAre vs ns → ReadsAll h vs (ns.map PyData.int) []
  | _, _, .nil => .nil
  | _, _, .cons n t r => .cons (as := []) (bs := []) (.int n t) (reads_ints r)
theorem depth_ints : ∀ ns : List Int, PyData.depthAll (ns.map PyData.int) = 0
  | [] => rfl
  | n :: ns => by
    show max (PyData.depth (.int n)) (PyData.depthAll (ns.map .int)) = 0
    rw [depth_ints ns]
    rfl
theorem alike_ints (ns : List Int) : PySem.W.AlikeAll (ns.map PyData.int) := by
  refine ⟨fun x hx y hy => ?_, fun x hx => ?_⟩
  · obtain ⟨i, _, rfl⟩ := List.mem_map.mp hx
    obtain ⟨j, _, rfl⟩ := List.mem_map.mp hy
    rfl
  · obtain ⟨i, _, rfl⟩ := List.mem_map.mp hx
    intro q
    cases q
theorem cr_minD {X : Cx} (hc : X.calm = true) (hu : X.A.units + 64 < cLine) : CallRK X (.builtin "min") [("default" : Str)] (rMinD X.K) := by
  intro pins s σ H xs zs us ws Q I r r2 h
  obtain ⟨a, ns, rfl, rfl, hs, q⟩ := h
  obtain ⟨its, rv, pl, hz⟩ := I.list hs
  rw [Vals.ref1 r]
  have hw : ws = [.none] := by
    cases r2 with
    | cons r1 t =>
      cases t
      cases r1
      rfl
  subst hw
  have hr : ReadsAll s.heap its.toArray.toList (ns.map PyData.int) [] := reads_ints rv.ints
  refine PySem.W.min_list_default (I.ok.hd hc) pl.isList hr (alike_ints ns) (by rw [depth_ints]; omega) (fun h0 h' tk hk => ?_) fun y ys i v h' tk bs e hv hr' hk => ?_
  · have h0 : ns = [] := by simpa using h0
    subst h0
    exact ⟨.non, H, I.kept hk, rfl, q⟩
  · cases ns with
    | nil => cases e
    | cons n ns =>
      have e : PyData.int n :: ns.map .int = y :: ys := e
      obtain ⟨rfl, rfl⟩ := List.cons.inj e
      rw [PySem.W.minD_ints] at hr'
      cases hr' with
      | int m t => exact ⟨.int _, H, I.kept hk, ⟨t, rfl⟩, q⟩
def intsO : List FL.D → Option (List Int)
  | [] => some []
  | .int i :: r => (intsO r).map (i :: ·)
  | _ :: _ => none
theorem intsO_rep {F : FX} {s : Option Addr} {G : Hp} : ∀ {ds : List FL.D} {vs : List V} {ns : List Int}, intsO ds = some ns → RepL F s G ds vs → vs = ns.map V.int
  | [], vs, ns, h, r => by
    cases (show some [] = some ns from h)
    exact r
  | d :: ds, vs, ns, h, ⟨v, r, h1, h2, h3⟩ => by
    cases d with
    | int i =>
      have h : (intsO ds).map (i :: ·) = some ns := h
      cases e2 : intsO ds with
      | none => rw [e2] at h; cases h
      | some zs =>
        rw [e2] at h
        cases h
        have h2 : v = .int i := h2
        rw [h1, h2, intsO_rep e2 h3, List.map_cons]
    | _ => cases h
def minX (d : FL.D) : Option FL.D := match d with
  | .lst ds => (intsO ds).map minO
  | _ => none
def minH := on1 minX
section
variable {F : FX} {X : Cx} {W : WX} {b : Bool}
theorem se_minD {e : Expr} {f : AS} {p pos kp kpos : Pos} {j : Nat} (hc : X.calm = true) (hK : X.K = F.K) (hu : X.A.units + 64 < cLine) (hg : Gl X "min") (hm : X.mg "min" = none) (ha : SA F X W true [e] f)
    (he : backTo pos (starEach [e] X.env) = (false, eval e X.env) :: backTo pos (starEach [] X.env) := by rfl) (hpl : (backTo pos (starEach [e] X.env)).any (·.1) = false := by rfl)
    (hall : (backToKw pos (keywordEach [⟨some "default", .Constant .none j kp, kpos⟩] X.env)).all (·.1.isSome) = true := by rfl) (hnone : (backToKw pos (keywordEach [⟨some "default", .Constant .none j kp, kpos⟩] X.env)).any (·.1.isNone) = false := by rfl)
    (hks : (backToKw pos (keywordEach [⟨some "default", .Constant .none j kp, kpos⟩] X.env)).filterMap (·.1) = [("default" : Str)] := by rfl) :
    SE F X W b (.Call (.Name "min" p) [e] [⟨some "default", .Constant .none j kp, kpos⟩] pos) (caE minH f) :=
  ⟨pe_imp (pe_callBK (cr_minD hc hu) hg hm boot_min ha.pa (pk_cons pe_non pk_nil) (by decide) (by decide) he hpl hall hnone hks) fun σ H Q ⟨B, s, env, G, c, co, q⟩ =>
    ⟨B, s, env, G, c, co, wpR_mono (wpR_bnd q) (fun ds c1 h1 vs G1 H1 n1 r1 => by
      obtain ⟨res, eo, hq⟩ := wpR_lft h1
      show rMinD X.K vs [.non] H1 Q
      rw [hK]
      cases ds with
      | nil => cases eo
      | cons d ds =>
        cases ds with
        | cons _ _ => cases eo
        | nil =>
          obtain ⟨v, r, ev, h2, er⟩ := r1
          cases (show r = [] from er)
          cases d with
          | lst xs =>
            have eo : (intsO xs).map minO = some res := eo
            obtain ⟨ns, en, rfl⟩ := Option.map_eq_some_iff.mp eo
            obtain ⟨a, us, rfl, k1, k2⟩ := h2.list n1.gh
            have := intsO_rep en k2
            subst this
            refine ⟨a, ns, ev, rfl, .inl (.inl k1), hq (minV ns) G1 H1 n1 (.inl ?_)⟩
            cases ns <;> exact rfl
          | _ => cases eo) fun _ _ x => x⟩⟩
end
end FL

set_option Elab.async false
set_option linter.all false
set_option maxRecDepth 100000
set_option maxHeartbeats 2000000
/-! G14: enumerate of a list or a tuple. -/
namespace FL
open PySem PySem.Spec L2 PyProof.Rows
open Evl (Ex)
theorem meets_enum_newT (l : Addr) (items : Array Value) (n : Nat) (dct : Option Addr) (sl : Array (Option Value)) :
    Meets (Builtin.«enumerate.__new__» ⟨[.type "enumerate", .ref l], []⟩) (fun _ R s => s.heap.get? l = some { cls := .type "tuple", dict := dct, data := .seq items n, slots := sl } ∧
      R (.ok (.ret (.ref (s.heap.push { cls := .type "tuple_iterator", data := .fields #[.ref l, .int 0 0] }).objs.size)))
        { s with heap := (s.heap.push { cls := .type "tuple_iterator", data := .fields #[.ref l, .int 0 0] }).push { cls := .type "enumerate", data := .fields #[.none, .bool false, .ref s.heap.objs.size, rawInt 0, .none, .none] } }) :=
  .of_wp fun prog w A R s h => by
    obtain ⟨hp, g, d, tk, os⟩ := s; obtain ⟨hl, h⟩ := h
    have hsub := sub_enumerate
    have hL : Heap.IsTuple (Shared.heap ⟨hp, g, d, tk, os⟩) l items := ⟨_, hl, rfl, n, rfl⟩
    wp_walk using AutoSeq1.wpAny_loadPart' hl
    refine wpAny_stack_any fun st => wpAny_pure ?_
    split
    · rename_i c _ _ _ _ _
      cases (c == Value.type "enumerate")
      · wp_walk using AutoSeq1.wpAny_loadPart' hl, wpAny_pyIter_tuple hL
        exact ⟨_, rfl, h⟩
      · wp_walk using AutoSeq1.wpAny_loadPart' hl, wpAny_pyIter_tuple hL
        exact ⟨_, rfl, h⟩
    · wp_walk using AutoSeq1.wpAny_loadPart' hl, wpAny_pyIter_tuple hL
      exact ⟨_, rfl, h⟩
section
variable {prog : Program} {w : World} {A : Around} {E : Value → Shared → Prop} {s : Shared}
theorem call_enum_tuple {l : Addr} {items : Array Value} {Q : Value → Shared → Prop} (hL : s.heap.IsTuple l items)
    (h : ∀ h', IsEnum h' (s.heap.objs.size + 1) s.heap.objs.size 0 .none → h'.IsTupleIter s.heap.objs.size l 0 → h'.objs.size = s.heap.objs.size + 2 →
      (∀ b o, s.heap.get? b = some o → h'.get? b = some o) → Q (.ref (s.heap.objs.size + 1)) { s with heap := h' }) :
    wpAny (model prog w) A (call (.type "enumerate") [.ref l]) Q E s := by
  obtain ⟨⟨c, dct, dt, sl⟩, hl, hc, n, hd⟩ := hL
  replace hc : c = .type "tuple" := hc
  replace hd : dt = .seq items n := hd
  subst hc hd
  refine callType_new F.called_enumerate (by decide) (F.typeCall_enumerate_1 _) (F.newCall_enumerate_1 _) (fun obj => F.args_object_init_2 obj _) F.entry_enumerate_new
    (meets_enum_newT l items n dct sl) ⟨hl, ?_⟩
  have hz : (s.heap.push { cls := .type "tuple_iterator", data := .fields #[.ref l, .int 0 0] }).objs.size = s.heap.objs.size + 1 := Heap.size_push ..
  show _ ∧ _
  rw [hz]
  have he : IsEnum ((s.heap.push { cls := .type "tuple_iterator", data := .fields #[.ref l, .int 0 0] }).push
      { cls := .type "enumerate", data := .fields #[.none, .bool false, .ref s.heap.objs.size, rawInt 0, .none, .none] }) (s.heap.objs.size + 1) s.heap.objs.size 0 .none := by
    have := Heap.get?_push_size (s.heap.push { cls := .type "tuple_iterator", data := .fields #[.ref l, .int 0 0] })
      (o := { cls := .type "enumerate", data := .fields #[.none, .bool false, .ref s.heap.objs.size, rawInt 0, .none, .none] }) rfl
    rw [hz] at this; exact this
  refine ⟨⟨_, he, rfl⟩, h _ he ⟨_, Heap.get?_push_of_some _ (Heap.get?_push_size _ rfl), rfl, rfl⟩ (by rw [Heap.size_push, hz]) fun b o x => Heap.get?_push_of_some _ (Heap.get?_push_of_some _ x)⟩
end
/-- the tuple at a, each item in a new pair -/
def IteT (K : PySem.W.Frag) (a : Addr) : It :=
  ⟨fun i H => ∃ (xs : List V) (x : V), SqT K H a xs ∧ xs[i]? = some x, fun i H v H' => ∃ T x, v = .ref T ∧ H T = none ∧ H' = upd H T (.tup [.int (i : Nat), x]) ∧ ∀ xs, SqT K H a xs → xs[i]? = some x, fun i H => ∃ xs : List V, SqT K H a xs ∧ xs.length ≤ i⟩
theorem turn_enumT {P : Program} {w : World} {K : PySem.W.Frag} {elts : List Expr} {kk : Nat} {tpos : Pos} (a e it : Addr) :
    Turn P w K (.Tuple elts kk tpos) (IteT K a) [e, it] e (fun i h => (∃ old, IsEnum h e it ((i : Nat) : Int) old) ∧ h.IsTupleIter it a i ∧ e ≠ it ∧ a ≠ it ∧ a ≠ e) where
  mem := by simp
  obj := fun i h st b hb => by
    obtain ⟨⟨old, he⟩, ⟨o, ho, hc, hd⟩, _⟩ := st
    have e' : b = e ∨ b = it := by simpa using hb
    rcases e' with z | z
    · rw [z]; exact ⟨_, he, fun v q => nomatch q⟩
    · rw [z]; exact ⟨o, ho, fun v q => by rw [hd] at q; cases q⟩
  keep := fun i h h' st k => let ⟨⟨old, he⟩, hi, hne⟩ := st; ⟨⟨old, k e (by simp) _ he⟩, hi.at fun o q => k it (by simp) o q, hne⟩
  item := by
    intro X hP hw hK hc i pins s σ H E I hf st hg
    subst hP hw hK
    obtain ⟨⟨old, he⟩, hit, hne, hai, hae⟩ := st
    obtain ⟨xs, x, hq, hx⟩ := hg
    obtain ⟨its, rv, p, hz⟩ := I.tuple hq
    obtain ⟨u, hu, ru⟩ := rv.get hx
    have hel : e < s.heap.objs.size := Heap.lt_size he
    have hil : it < s.heap.objs.size := by obtain ⟨_, q, _⟩ := hit; exact Heap.lt_size q
    have D : Draws X.prog X.w X.A.in1 it [it, a] its.toArray.size (fun i v => its.toArray[i]? = some v) (fun i h => h.IsTupleIter it a i ∧ h.IsTuple a its.toArray) := Draws.tuple (show X.A.in1.handled = none from I.ok.hd hc) it a hai its.toArray
    have hlt : i < its.toArray.size := by
      rw [List.size_toArray]
      exact (List.getElem?_eq_some_iff.mp hu).1
    refine wpAny_pyNext_enum_itemD D he ⟨hit, p⟩ hlt hne (by simp [hne, Ne.symm hae]) fun u' h' tk hu' ho hit' hT hsz hk => ?_
    have eu : u' = u := by
      have q : its.toArray[i]? = some u := by simpa using hu
      rw [q] at hu'
      exact (Option.some.inj hu').symm
    subst eu
    refine ⟨_, rfl, wpAny_letOwnedTupleGo_enum (s := { s with heap := h', toks := tk + 1 }) ho fun h'' he' sb => ?_⟩
    have hT2 : h''.get? s.heap.objs.size = some { cls := .type "tuple", data := .seq #[.int i tk, u'] } := (sb.2 _ (Nat.ne_of_gt hel)).trans hT
    have new : ObjOk X.prog X.w (upd H s.heap.objs.size (.tup [.int (i : Nat), x])) h'' s.heap.objs.size (.tup [.int (i : Nat), x]) :=
      ⟨by show 2 ≤ sizeLine; decide, [.int i tk, u'], .cons ⟨_, rfl⟩ (.cons ru .nil), ⟨_, hT2, rfl, _, rfl⟩⟩
    have I1 : Inv X pins σ (upd H s.heap.objs.size (.tup [.int (i : Nat), x])) { s with heap := h'', toks := tk + 1 } :=
      I.turnedNew (ch := [e, it]) (fun b ob hb q => (sb.2 b (fun z => hb (by simp [z]))).trans (hk b ob (fun z => hb (by simp [z])) (fun z => hb (by simp [z])) q)) hf (Nat.le_refl _) new
    refine ⟨.ref s.heap.objs.size, _, I1, rfl, ⟨_, x, rfl, I.hok.fresh (Nat.le_refl _), rfl, fun ys hy => by rw [I.tuple_inj hy hq]; exact hx⟩, ⟨⟨u', ?_⟩, hit'.1.at fun o q => (sb.2 it (Ne.symm hne)).trans q, hne, hai, hae⟩, fun b hb => ?_⟩
    · have e1 : ((i + 1 : Nat) : Int) = (i : Int) + 1 := by omega
      rw [e1]; exact he'
    · have hb' : b < s.heap.objs.size := by
        have e' : b = e ∨ b = it := by simpa using hb
        rcases e' with z | z
        · rw [z]; exact hel
        · rw [z]; exact hil
      rw [upd_ne (Nat.ne_of_lt hb')]
      exact (hf b hb).1
  done := by
    intro X hP hw hK hc i pins s σ H E I hf st hg
    subst hP hw hK
    obtain ⟨⟨old, he⟩, hit, hne, hai, hae⟩ := st
    obtain ⟨xs, hq, hx⟩ := hg
    obtain ⟨its, rv, p, hz⟩ := I.tuple hq
    obtain ⟨f0, f1, f2, f3, f4, f5⟩ := hf it (by simp)
    have hl := rv.length
    have D : Draws X.prog X.w X.A.in1 it [it, a] 0 (fun _ _ => True) (fun _ h => h.IsTupleIter it a i ∧ h.IsTuple a its.toArray) :=
      ⟨fun _ _ st => let ⟨o, ho, _⟩ := st.1; ⟨o, ho⟩, fun _ _ _ st hk => ⟨st.1.at fun o e => hk it (by simp) o e, st.2.at fun o e => hk a (by simp) o e⟩, fun j s Q E hj => absurd hj (Nat.not_lt_zero _),
        fun s Q E st hE => wpAny_nextOf_tuple_end (show X.A.in1.handled = none from I.ok.hd hc) st.1 st.2 (by simp; omega) hE⟩
    exact wpAny_pyNext_enum_endD D he ⟨hit, p⟩ fun h' eb => ⟨rfl, I.turned (t' := s.toks) (fun b o hb q => eb b o hb q) f0 f1 f3 f4 f5⟩
  self := fun A i s Q E st h => let ⟨⟨_, he⟩, _⟩ := st; wpAny_pyIter_enum he h
/-- enumerate(a list), enumerate(a tuple) -/
def iEnumG (K : PySem.W.Frag) (ta : TA) : TI := fun σ H R => ta σ H fun vs H1 => ∃ a xs, vs = [.ref a] ∧ ((SqL K H1 a xs ∧ R (Ite K a) H1) ∨ (SqT K H1 a xs ∧ R (IteT K a) H1))
theorem pi_enumG {X : Cx} {e : Expr} {ta : TA} {p pos tpos : Pos} {elts : List Expr} {kk : Nat} (hg : Gl X "enumerate") (hm : X.mg "enumerate" = none) (ha : PA X [e] ta) (hs : starEach [e] X.env = [(false, eval e X.env)] := by rfl) :
    PI X (.Tuple elts kk tpos) (.Call (.Name "enumerate" p) [e] [] pos) (iEnumG X.K ta) := by
  refine ⟨fun pins s σ H R I h => ?_⟩
  refine Call_ (ld_blt I hg hm boot_enumerate (PyProof.Rows.callWith_type1 (thn (ha.run pos pins s σ H _ I h) fun us s1 ⟨vs, H1, I1, r1, q1⟩ => ?_) hs rfl))
  obtain ⟨a, xs, ex, q⟩ := q1
  subst ex
  cases r1 with
  | cons r rr =>
    cases rr
    cases r
    have fresh : ∀ b ∈ [s1.heap.objs.size + 1, s1.heap.objs.size], FpOk X pins H1 b := fun b hb => by
      have e' : b = s1.heap.objs.size + 1 ∨ b = s1.heap.objs.size := by simpa using hb
      have hle : s1.heap.objs.size ≤ b := by
        rcases e' with z | z
        · rw [z]; exact Nat.le_add_right _ _
        · rw [z]; exact Nat.le_refl _
      exact I1.fpOk hle (I1.hok.fresh hle)
    rcases q with ⟨hq, q⟩ | ⟨hq, q⟩
    · obtain ⟨its, rv, p', hz⟩ := I1.list hq
      refine call_enumerate_list p'.isList fun h' he hit hsz hk => wpAny_pyIter_enum he ?_
      have I2 : Inv X pins σ H1 { s1 with heap := h' } := I1.kept (t' := s1.toks) hk
      exact ⟨s1.heap.objs.size + 1, [s1.heap.objs.size + 1, s1.heap.objs.size], _, _, H1, rfl, I2, turn_enum a (s1.heap.objs.size + 1) s1.heap.objs.size, ⟨⟨.none, he⟩, hit, Nat.succ_ne_self _⟩, fresh, q⟩
    · obtain ⟨its, rv, p', hz⟩ := I1.tuple hq
      have hlt : a < s1.heap.objs.size := by obtain ⟨_, q, _⟩ := p'; exact Heap.lt_size q
      refine call_enum_tuple p' fun h' he hit hsz hk => wpAny_pyIter_enum he ?_
      have I2 : Inv X pins σ H1 { s1 with heap := h' } := I1.kept (t' := s1.toks) hk
      exact ⟨s1.heap.objs.size + 1, [s1.heap.objs.size + 1, s1.heap.objs.size], _, _, H1, rfl, I2, turn_enumT a (s1.heap.objs.size + 1) s1.heap.objs.size, ⟨⟨.none, he⟩, hit, Nat.succ_ne_self _, Nat.ne_of_lt hlt, Nat.ne_of_lt (Nat.lt_succ_of_lt hlt)⟩, fresh, q⟩
section
variable {F : FX} {s : Option Addr} {G : Hp} {X : Cx} {W : WX} {p pos tpos : Pos}
theorem itd_enumT {a : Addr} {ds : List FL.D} {vs : List V} (h : SqT F.K G a vs) (r : RepL F s G ds vs) : ∃ ok, ItD F (IteT F.K a) ok (enumD ds) ∧ ok s G := by
  refine ⟨fun s G => SqT F.K G a vs ∧ RepL F s G ds vs, ⟨fun i s G H c ok e vo hi => ?_, fun s G H c ok e vo => ?_, fun i s G H c x H' d ok e vo y hd => ?_, fun s s' G G' ok hs e => ⟨Evl.ex_t e ok.1, RepL.mono e hs _ _ ok.2⟩⟩, h, r⟩
  · have hl := ok.2.length
    have hi : i < (enumD ds).length := hi
    rw [enumD_len] at hi
    exact ⟨vs, vs[i]'(by omega), Evl.ex_t e ok.1, by simp⟩
  · have hl := ok.2.length
    refine ⟨vs, Evl.ex_t e ok.1, ?_⟩
    rw [enumD_len]
    omega
  · obtain ⟨T, x1, rfl, nT, rfl, f1⟩ := y
    obtain ⟨d1, e1, rfl⟩ := enumD_get hd
    obtain ⟨v1, hv1, rv1⟩ := ok.2.get e1
    have q1 := f1 vs (Evl.ex_t e ok.1)
    rw [hv1] at q1
    cases q1
    have n := (Nxt.refl e vo).new (o := .tup [.int (i : Nat), x1]) nT
    exact ⟨_, n, T, [.int (i : Nat), x1], rfl, .inl upd_same, .int (i : Nat), [x1], rfl, rfl, x1, [], rfl, Rep.mono n.g (fun _ x => x) _ _ rv1, rfl⟩
def enumG (f : AS) : AS := fun env => bnd (f env) fun ds => match ds with
  | [.lst xs] => ret (enumD xs)
  | [.tup xs] => ret (enumD xs)
  | _ => bad
theorem si_enumG {a : Expr} {f : AS} {elts : List Expr} {kk : Nat} (hK : X.K = F.K) (hg : Gl X "enumerate") (hm : X.mg "enumerate" = none) (ha : SA F X W false [a] f) (hs : starEach [a] X.env = [(false, eval a X.env)] := by rfl) :
    SI F X W (.Tuple elts kk tpos) (.Call (.Name "enumerate" p) [a] [] pos) (enumG f) := by
  refine ⟨pi_imp (pi_enumG hg hm ha.pa hs) fun σ H R ⟨B, s, env, G, c, co, q⟩ => ⟨B, s, env, G, c, co, wpR_mono (wpR_bnd q) (fun ds c1 h1 vs G1 H1 n1 r1 => ?_) fun _ _ x => x⟩⟩
  rw [hK]
  match ds, h1, r1 with
  | [.lst xs], h1, ⟨v, r, ev, h2, er⟩ =>
    cases (show r = [] from er)
    obtain ⟨a1, vs1, rfl, k1, k2⟩ := h2.strict
    obtain ⟨ok, i1, i2⟩ := itd_enum (SqL.of k1) k2
    exact ⟨a1, vs1, ev, .inl ⟨Evl.ex_l n1.gh (SqL.of k1), h1 _ ok G1 H1 n1 i1 i2⟩⟩
  | [.tup xs], h1, ⟨v, r, ev, h2, er⟩ =>
    cases (show r = [] from er)
    obtain ⟨a1, vs1, rfl, k1, k2⟩ := h2.strict
    obtain ⟨ok, i1, i2⟩ := itd_enumT k1.sq k2
    exact ⟨a1, vs1, ev, .inr ⟨Evl.ex_t n1.gh k1.sq, h1 _ ok G1 H1 n1 i1 i2⟩⟩
end
end FL

set_option Elab.async false
set_option linter.all false
set_option maxRecDepth 100000
set_option maxHeartbeats 2000000
/-! G15: a star in a display: [*xs, y]. -/
namespace FL
open PySem PySem.Spec L2 PyProof.Rows
open Evl (Ex)
section
theorem star_at {P : Program} {w : World} {A : Around} {E : Value → Shared → Prop} {s : Shared} {a : Addr} {T : String} {o : Obj} {its : Array Value} {n : Nat} {Q : List Value → Shared → Prop}
    (D : s.heap.get? a = some o) (hc : o.cls = .type T) (hd : o.data = .seq its n) (hT : T = "list" ∨ T = "tuple") (hz : its.size ≤ sizeLine)
    (h : ∀ h', (∀ b o', s.heap.get? b = some o' → h'.get? b = some o') → Q its.toList { s with heap := h' }) : PySem.W.StarOf (model P w) A E (.ref a) Q s := by
  have hT' : s.TypeIs (.ref a) T := ⟨o, D, hc⟩
  have z : wpAny (model P w) A (collect (.ref a)) Q E s := wpAny_collect_seq a hT D hc hd (fun h' hk => h h' hk) hz
  unfold PySem.W.StarOf notIterableAtAll
  rcases hT with rfl | rfl
  · exact wpAny_bind (wpAny_specialOf hT' PySem.F.slot_list_iter.lookup (wpAny_pure ⟨rfl, z⟩))
  · exact wpAny_bind (wpAny_specialOf hT' PySem.F.slot_tuple_iter.lookup (wpAny_pure ⟨rfl, z⟩))
def tStar (K : PySem.W.Frag) (ta : TE) (tr : TA) : TA := fun σ H Q => ta σ H fun x H1 => ∃ a xs, x = .ref a ∧ (SqL K H1 a xs ∨ SqT K H1 a xs) ∧ tr σ H1 fun ys H2 => Q (xs ++ ys) H2
theorem pa_star {X : Cx} {e : Expr} {es : List Expr} {te : TE} {t : TA} {p : Pos} (ha : PE X e te) (hr : PA X es t) : PA X (.Starred e p :: es) (tStar X.K te t) := by
  refine ⟨fun pos pins s σ H Q I h => ?_⟩
  refine PySem.W.items_star ?_ rfl
  refine thn (ha.run pins s σ H _ I h) fun u s1 ⟨x, H1, I1, r1, a, xs, e1, hs, q⟩ => ?_
  subst e1
  have hu : u = .ref a := by cases r1; rfl
  subst hu
  have go : ∀ (us : List Value), Vals xs us → ∀ h', (∀ b o', s1.heap.get? b = some o' → h'.get? b = some o') → wpAny (model X.prog X.w) X.A (spliced (backTo pos (starEach es X.env))) (fun vs s₃ => AP X pins σ Q (us ++ vs) s₃) X.xe { s1 with heap := h' } := fun us rv h' hk =>
    thn (hr.run pos pins _ σ H1 _ (I1.un (t' := s1.toks) (Un.kept hk) (I1.hok.kept hk)) q) fun vs s2 ⟨ys, H2, I2, r2, q2⟩ => ⟨xs ++ ys, H2, I2, rv.append r2, q2⟩
  rcases hs with hs | hs
  · obtain ⟨its, rv, ⟨o, n, ho, hc, _, hd⟩, hz⟩ := I1.list hs
    exact star_at ho hc hd (.inl rfl) (by have := rv.length; simp only [List.size_toArray]; omega) fun h' hk => go its rv h' hk
  · obtain ⟨its, rv, ⟨o, ho, hc, n, hd⟩, hz⟩ := I1.tuple hs
    exact star_at ho hc hd (.inr rfl) (by have := rv.length; simp only [List.size_toArray]; omega) fun h' hk => go its rv h' hk
variable {F : FX} {X : Cx} {W : WX}
def aStar (f : ES) (g : AS) : AS := fun env => bnd (f env) fun d => match d with
  | .lst xs => bnd (g env) fun ds => ret (xs ++ ds)
  | .tup xs => bnd (g env) fun ds => ret (xs ++ ds)
  | _ => bad
theorem RepBL.of : ∀ {s : Option Addr} {G H : Hp} {ds : List FL.D} {vs : List V}, RepL F s G ds vs → RepBL false F s G H ds vs
  | s, G, H, [], [], _ => rfl
  | s, G, H, d :: ds, vs, ⟨v, r, h1, h2, h3⟩ => ⟨v, r, h1, .inl h2, RepBL.of h3⟩
theorem sa_star {e : Expr} {es : List Expr} {f : ES} {g : AS} {p : Pos} (hK : X.K = F.K) (h : SE F X W true e f) (hr : SA F X W false es g) : SA F X W false (.Starred e p :: es) (aStar f g) := by
  refine ⟨pa_imp (pa_star h.pe hr.pa) fun σ H Q ⟨B, s, env, G, c, co, q⟩ => ⟨B, s, env, G, c, co, wpR_mono (wpR_bnd q) (fun d c1 h1 v G1 H1 n1 r1 => ?_) fun _ _ x => x⟩⟩
  rw [hK]
  cases d with
  | lst xs =>
    obtain ⟨a, vs, rfl, k1, k2⟩ := r1.list n1.gh
    refine ⟨a, vs, rfl, .inl (.inl (.inl k1)), ⟨B, s, env, G1, c1, co.nxt n1, wpR_mono (wpR_bnd h1) (fun ds c2 h2 ws G2 H2 n2 r2 => ?_) fun _ _ w => w.nxt n1⟩⟩
    exact h2 (vs ++ ws) G2 H2 (n1.trans n2) (RepBL.of ((RepL.mono n2.g (fun _ x => x) _ _ k2).append r2.strict))
  | tup xs =>
    obtain ⟨a, vs, rfl, k1, k2⟩ := r1.tup n1.gh
    refine ⟨a, vs, rfl, .inr k1, ⟨B, s, env, G1, c1, co.nxt n1, wpR_mono (wpR_bnd h1) (fun ds c2 h2 ws G2 H2 n2 r2 => ?_) fun _ _ w => w.nxt n1⟩⟩
    exact h2 (vs ++ ws) G2 H2 (n1.trans n2) (RepBL.of ((RepL.mono n2.g (fun _ x => x) _ _ k2).append r2.strict))
  | _ => exact h1.elim
variable {b : Bool}
theorem st_cin {x : Str} {p pos : Pos} {kvs : List (Str × Str)} {e : Expr} {f : ES} (hg : Gl X x) (hm : ∃ a, X.mg x = some (.ref a) ∧ DicOk X.K X.w a kvs) (he : SE F X W true e f) (hd : (x == ("__debug__" : Str)) = false := by decide) (hb : behindInMarks .In (.Name x p) = false := by rfl) :
    ST F X W (.Compare e [.In] [.Name x p] pos) (asB (cinE true kvs f)) := by
  obtain ⟨a, hm, D⟩ := hm
  obtain ⟨es, n, KD⟩ := D.kd
  refine ⟨pt_imp (pt_cmpR (op_in_kd KD) he.pe (pe_glob (v := .ref a) hg hm rfl hd) hb) fun σ H Q h => by
    obtain ⟨B, s, env, G, c, co, q⟩ := tT_B h
    refine ⟨B, s, env, G, c, co, wpR_mono (wpR_bnd q) (fun d c1 h1 v1 G1 H1 n1 r1 => ?_) fun _ _ x => x⟩
    cases d with
    | str y =>
      rw [r1.str]
      have h1 : wpR (ret (FL.D.bl ((lookS kvs y).isSome == true)) c1) _ _ := h1
      cases el : lookS kvs y with
      | some r =>
        rw [el] at h1
        obtain ⟨t, e2⟩ := D.has y r el
        exact ⟨y, _, rfl, rfl, e2, h1 _ G1 H1 n1 (.inl rfl)⟩
      | none =>
        rw [el] at h1
        exact ⟨y, _, rfl, rfl, D.no y el, h1 _ G1 H1 n1 (.inl rfl)⟩
    | _ => exact h1.elim⟩
theorem st_cnin {x : Str} {p pos : Pos} {kvs : List (Str × Str)} {e : Expr} {f : ES} (hg : Gl X x) (hm : ∃ a, X.mg x = some (.ref a) ∧ DicOk X.K X.w a kvs) (he : SE F X W true e f) (hd : (x == ("__debug__" : Str)) = false := by decide) (hb : behindInMarks .NotIn (.Name x p) = false := by rfl) :
    ST F X W (.Compare e [.NotIn] [.Name x p] pos) (asB (cinE false kvs f)) := by
  obtain ⟨a, hm, D⟩ := hm
  obtain ⟨es, n, KD⟩ := D.kd
  refine ⟨pt_imp (pt_cmpR (op_notIn_kd KD) he.pe (pe_glob (v := .ref a) hg hm rfl hd) hb) fun σ H Q h => by
    obtain ⟨B, s, env, G, c, co, q⟩ := tT_B h
    refine ⟨B, s, env, G, c, co, wpR_mono (wpR_bnd q) (fun d c1 h1 v1 G1 H1 n1 r1 => ?_) fun _ _ x => x⟩
    cases d with
    | str y =>
      rw [r1.str]
      have h1 : wpR (ret (FL.D.bl ((lookS kvs y).isSome == false)) c1) _ _ := h1
      cases el : lookS kvs y with
      | some r =>
        rw [el] at h1
        obtain ⟨t, e2⟩ := D.has y r el
        exact ⟨y, _, rfl, rfl, e2, h1 _ G1 H1 n1 (.inl rfl)⟩
      | none =>
        rw [el] at h1
        exact ⟨y, _, rfl, rfl, D.no y el, h1 _ G1 H1 n1 (.inl rfl)⟩
    | _ => exact h1.elim⟩
end
end FL

set_option Elab.async false
set_option linter.all false
set_option maxRecDepth 100000
set_option maxHeartbeats 2000000
/-! G16: a slice of a list with a step: xs[a:b:k]. -/
namespace FL
open PySem PySem.Spec L2 PyProof.Rows
open Evl (Ex)
/-- the items of xs[lo:hi:st] -/
def pickG {α : Type} (xs : List α) (lo hi st : Option Int) : List α := (sliceRange (sliceBounds lo hi st xs.length).1 (sliceBounds lo hi st xs.length).2.1 (sliceBounds lo hi st xs.length).2.2).filterMap (xs[·]?)
theorem pickG_arr (its : List Value) (lo hi st : Option Int) : slicePick its.toArray lo hi st = (pickG its lo hi st).toArray := by
  unfold slicePick pickG
  rw [List.size_toArray]
  congr 1
  simp only [List.getElem?_toArray]
theorem Vals.pickI {xs : List V} {us : List Value} (r : Vals xs us) : ∀ is : List Nat, Vals (is.filterMap (xs[·]?)) (is.filterMap (us[·]?))
  | [] => .nil
  | i :: is => by
    have ih := Vals.pickI r is
    cases e : xs[i]? with
    | none =>
      have e2 := r.none_of e
      rw [List.filterMap_cons_none e, List.filterMap_cons_none e2]
      exact ih
    | some x =>
      obtain ⟨u, e2, h⟩ := r.get e
      rw [List.filterMap_cons_some e, List.filterMap_cons_some e2]
      exact .cons h ih
theorem Vals.pickG {xs : List V} {us : List Value} (r : Vals xs us) (lo hi st : Option Int) : Vals (FL.pickG xs lo hi st) (FL.pickG us lo hi st) := by
  unfold FL.pickG
  rw [r.length]
  exact Vals.pickI r _
section
variable {F : FX} {s : Option Addr} {G : Hp}
theorem RepL.pickI {ds : List FL.D} {vs : List V} (r : RepL F s G ds vs) : ∀ is : List Nat, RepL F s G (is.filterMap (ds[·]?)) (is.filterMap (vs[·]?))
  | [] => rfl
  | i :: is => by
    have ih := RepL.pickI r is
    cases e : ds[i]? with
    | none =>
      have e2 : vs[i]? = none := by
        have h1 := List.getElem?_eq_none_iff.mp e
        exact List.getElem?_eq_none_iff.mpr (by rw [r.length]; exact h1)
      rw [List.filterMap_cons_none e, List.filterMap_cons_none e2]
      exact ih
    | some x =>
      obtain ⟨u, e2, h⟩ := r.get e
      rw [List.filterMap_cons_some e, List.filterMap_cons_some e2]
      exact ⟨u, _, rfl, h, ih⟩
theorem RepL.pickG {ds : List FL.D} {vs : List V} (r : RepL F s G ds vs) (lo hi st : Option Int) : RepL F s G (FL.pickG ds lo hi st) (FL.pickG vs lo hi st) := by
  unfold FL.pickG
  rw [r.length]
  exact RepL.pickI r _
end
def rSl3 (K : PySem.W.Frag) : V → Option Int → Option Int → Option Int → Hp → VK → Prop := fun x lo hi st H Q => st ≠ some 0 ∧ ∃ a xs, x = .ref a ∧ SqL K H a xs ∧ (pickG xs lo hi st).length ≤ sizeLine ∧ ∀ p, H p = none → Q (.ref p) (upd H p (.lst (pickG xs lo hi st)))
def tSl3 (K : PySem.W.Frag) (te : TE) (tl th ts : TO) : TE := fun σ H Q => te σ H fun x H1 => tl σ H1 fun l H2 => th σ H2 fun u H3 => ts σ H3 fun k H4 => rSl3 K x l u k H4 Q
theorem pe_slice3 {X : Cx} {e st : Expr} {lo hi : Option Expr} {p2 pos : Pos} {te : TE} {tl th ts : TO} (he : PE X e te) (hl : PO X lo tl) (hu : PO X hi th) (hs : PO X (some st) ts) : PE X (.Subscript e (.Slice lo hi (some st) p2) pos) (tSl3 X.K te tl th ts) := by
  refine ⟨fun pins s σ H Q I h => ?_⟩
  refine Subscript_ (thn (he.run pins s σ H _ I h) fun v s1 ⟨x, H1, I1, r1, q1⟩ => ?_)
  refine wpAny_Slice (thn (hl.run pins s1 σ H1 _ I1 q1) fun vl s2 ⟨l, H2, I2, pl, q2⟩ => thn (hu.run pins s2 σ H2 _ I2 q2) fun vu s3 ⟨u, H3, I3, pu, q3⟩ => thn (hs.run pins s3 σ H3 _ I3 q3) fun vk s4 ⟨k, H4, I4, pk, h0, a, xs, ex, hx, hz0, q⟩ => ?_)
  subst ex
  have hv : v = .ref a := by cases r1; rfl
  subst hv
  have I5 : Inv X pins σ H4 { s4 with heap := s4.heap.push { cls := .type "slice", data := .fields #[vl, vu, vk] } } := I4.kept (t' := s4.toks) fun b ob q => Heap.get?_push_of_some _ q
  obtain ⟨its, r, ht, hz⟩ := I5.list hx
  have hlen := r.length
  have hg : wpAny (model X.prog X.w) X.A (getItem (.ref a) (.ref s4.heap.objs.size)) (EP X pins σ Q) X.xe { s4 with heap := s4.heap.push { cls := .type "slice", data := .fields #[vl, vu, vk] } } := by
    refine wpAny_getItem_list_slice ht.isList (Heap.IsSliceOf.new ..) pl pu pk h0 ?_ (by rw [List.size_toArray] <;> omega)
    rw [pickG_arr]
    refine ⟨.ref _, _, I5.laid (t' := s4.toks) (o := .lst (pickG xs l u k)) (fun b ob q => Heap.get?_push_of_some _ q) (Nat.le_refl _) ?_, rfl, q _ (I5.hok.fresh (Nat.le_refl _))⟩
    exact ⟨hz0, _, 0, FL.Vals.pickG r l u k, Heap.get?_push_size _ rfl⟩
  show wpAny (model X.prog X.w) X.A (subscriptTail e (.Slice lo hi (some st) p2) (.ref a) (.ref s4.heap.objs.size)) (EP X pins σ Q) X.xe { s4 with heap := s4.heap.push { cls := .type "slice", data := .fields #[vl, vu, vk] } }
  exact tail_any (ops := [.ref a, .ref s4.heap.objs.size]) ht.isList.typeIs slot_list_getitem.lookup hg (by with_unfolding_all rfl)
section
variable {F : FX} {X : Cx} {W : WX} {b : Bool}
def sl3D (d : FL.D) (lo hi st : Option Int) : Option FL.D := match d with
  | .lst xs => if st ≠ some 0 ∧ (pickG xs lo hi st).length ≤ sizeLine then some (.lst (pickG xs lo hi st)) else none
  | _ => none
/-- xs[lo:hi:st] -/
def sl3E (f : ES) (lo hi st : OS) : ES := fun env => bnd (f env) fun d => bnd (lo env) fun l => bnd (hi env) fun h => bnd (st env) fun k => lft (sl3D d l h k)
theorem sl3_rep {s : Option Addr} {G H : Hp} {c : CT} {d : FL.D} {v : V} {lo hi st : Option Int} {res : FL.D} {Q : VK} (e : Ex G H) (vo : Vol F s c G H) (r : RepB true F s G H d v) (h : sl3D d lo hi st = some res) (w : Want F s G H c res Q) : rSl3 F.K v lo hi st H Q := by
  cases d with
  | lst xs =>
    have h : (if st ≠ some 0 ∧ (pickG xs lo hi st).length ≤ sizeLine then some (FL.D.lst (pickG xs lo hi st)) else none) = some res := h
    by_cases q : st ≠ some 0 ∧ (pickG xs lo hi st).length ≤ sizeLine
    · rw [if_pos q] at h
      cases h
      obtain ⟨a, vs, rfl, h2, h3⟩ := r.list e
      have hp := RepL.pickG h3 lo hi st
      exact ⟨q.1, a, vs, rfl, .inl (.inl h2), by rw [hp.length]; exact q.2, w.lst e vo hp⟩
    · rw [if_neg q] at h
      cases h
  | _ => cases h
theorem se_sl3 {a st : Expr} {lo hi : Option Expr} {f : ES} {fl fh fs : OS} {p2 pos : Pos} (hK : X.K = F.K) (ha : SE F X W true a f) (hl : SP' F X W lo fl) (hh : SP' F X W hi fh) (hs : SP' F X W (some st) fs) : SE F X W b (.Subscript a (.Slice lo hi (some st) p2) pos) (sl3E f fl fh fs) :=
  ⟨pe_imp (pe_slice3 ha.pe hl.po hh.po hs.po) fun σ H Q ⟨B, s, env, G, c, co, q⟩ => ⟨B, s, env, G, c, co, wpR_mono (wpR_bnd q) (fun d c1 h1 v G1 H1 n1 r1 =>
    ⟨B, s, env, G1, c1, co.nxt n1, wpR_mono (wpR_bnd h1) (fun l c2 h2 G2 H2 n2 => ⟨B, s, env, G2, c2, (co.nxt n1).nxt n2, wpR_mono (wpR_bnd h2) (fun u c3 h3 G3 H3 n3 => ⟨B, s, env, G3, c3, ((co.nxt n1).nxt n2).nxt n3, wpR_mono (wpR_bnd h3) (fun k c4 h4 G4 H4 n4 => by
      obtain ⟨res, er, hq⟩ := wpR_lft h4
      have n24 := (n2.trans n3).trans n4
      rw [hK]
      exact sl3_rep n4.gh n4.vo (r1.nxt n1.vo n24) er fun v' G' H' n r => hq v' G' H' ((n1.trans n24).trans n) (.inl r)) fun _ _ w => ((w.nxt n1).nxt n2).nxt n3⟩) fun _ _ w => (w.nxt n1).nxt n2⟩) fun _ _ w => w.nxt n1⟩) fun _ _ x => x⟩⟩
end
end FL

set_option Elab.async false
set_option linter.all false
set_option maxRecDepth 100000
set_option maxHeartbeats 2000000
/-! G17: list comprehensions of two clauses. -/
namespace FL
open PySem L2 PyProof.Rows
open Evl (Ex)
/-- a target makes no list of the def's own -/
def NoOw (ts : List Nat) (t : Tg) : Prop := ∀ d env env', t d env = some env' → ∀ (i : Nat) (ds : List FL.D), env'[i]? = some (Sl.ow ds) → env[i]? = some (Sl.ow ds) ∧ i ∉ ts
theorem set_noOw {env : En} {i j : Nat} {d : FL.D} {ds : List FL.D} (h : (env.set i (Sl.va d))[j]? = some (Sl.ow ds)) : env[j]? = some (Sl.ow ds) ∧ j ≠ i := by
  by_cases e : i = j
  · subst e
    by_cases hi : i < env.length
    · rw [List.getElem?_set_self hi] at h
      cases h
    · rw [List.getElem?_eq_none (by rw [List.length_set]; omega)] at h
      cases h
  · rw [List.getElem?_set_ne e] at h
    exact ⟨h, fun z => e z.symm⟩
theorem no_set {i : Nat} : NoOw [i] (setT i) := fun d env env' h j ds e => by
  unfold setT at h
  by_cases hi : i < env.length
  · rw [if_pos hi] at h
    cases h
    obtain ⟨h1, h2⟩ := set_noOw e
    exact ⟨h1, by simp [h2]⟩
  · rw [if_neg hi] at h
    cases h
theorem no_sets : ∀ {is : List Nat} {ds : List FL.D} {env env' : En}, setsT is ds env = some env' → ∀ (j : Nat) (xs : List FL.D), env'[j]? = some (Sl.ow xs) → env[j]? = some (Sl.ow xs) ∧ j ∉ is
  | [], [], env, env', h, j, xs, e => by
    cases h
    exact ⟨e, by simp⟩
  | [], _ :: _, _, _, h, _, _, _ => by cases h
  | _ :: _, [], _, _, h, _, _, _ => by cases h
  | i :: is, d :: ds, env, env', h, j, xs, e => by
    have h : (if i < env.length then setsT is ds (env.set i (Sl.va d)) else none) = some env' := h
    by_cases hi : i < env.length
    · rw [if_pos hi] at h
      obtain ⟨h1, h2⟩ := no_sets h j xs e
      obtain ⟨h3, h4⟩ := set_noOw h1
      exact ⟨h3, by simp only [List.mem_cons, not_or]; exact ⟨h4, h2⟩⟩
    · rw [if_neg hi] at h
      cases h
theorem no_tup {is : List Nat} : NoOw is (tupT is) := fun d env env' h j ds e => by
  cases d with
  | tup xs => exact no_sets (show setsT is xs env = some env' from h) j ds e
  | lst xs => exact no_sets (show setsT is xs env = some env' from h) j ds e
  | _ => cases h
theorem wipeE_ow {env : En} {i : Nat} {ds : List FL.D} : ∀ {vs : List Nat}, (wipeE env vs)[i]? = some (Sl.ow ds) → env[i]? = some (Sl.ow ds) ∧ i ∉ vs
  | [], h => ⟨h, by simp⟩
  | v :: vs, h => by
    have h : ((wipeE env vs).set v Sl.no)[i]? = some (Sl.ow ds) := h
    by_cases e : v = i
    · subst e
      by_cases hv : v < (wipeE env vs).length
      · rw [List.getElem?_set_self hv] at h
        cases h
      · rw [List.getElem?_eq_none (by rw [List.length_set]; omega)] at h
        cases h
    · rw [List.getElem?_set_ne e] at h
      obtain ⟨h1, h2⟩ := wipeE_ow h
      exact ⟨h1, by simp only [List.mem_cons, not_or]; exact ⟨fun z => e z.symm, h2⟩⟩
section
variable {F : FX} {X : Cx} {W : WX} {z : Bool} {B : St0} {s s1 : Option Addr} {D : Ends} {G H : Hp} {c : CT} {σ : L2.St} {tg : Expr} {env : En}
/-- an environment whose own lists are those of a state before: as it is later -/
theorem Co.turn {envw e1 : En} {σw σ1 : L2.St} {G3 H3 G4 H4 : Hp} {c3 c4 : CT} (co : Co F B s envw σw G H c) (n : Nxt F s G H s G4 H4 c4) (co1 : Co F B s e1 σ1 G3 H3 c3) (g : Ex G3 G4)
    (hT : ∀ (i : Nat) (ds : List FL.D), e1[i]? = some (Sl.ow ds) → envw[i]? = some (Sl.ow ds) ∧ σ1[i]? = σw[i]?) : Co F B s e1 σ1 G4 H4 c4 where
  len := co1.len
  bs := co.bs.trans n
  va := fun i d e => by
    obtain ⟨v, h1, h2⟩ := co1.va i d e
    exact ⟨v, h1, Rep.mono g (fun _ x => x) _ _ h2⟩
  ow := fun i ds e => by
    obtain ⟨h1, h2⟩ := hT i ds e
    obtain ⟨p, vs, k1, k2, k3, k4, k5, k6⟩ := co.ow i ds h1
    exact ⟨p, vs, h2.trans k1, k2, k3, n.nw p k4 (by rw [k5]; exact fun z => nomatch z), n.h p _ k2 (not_tab co.bs.vo k5) k5, RepL.mono n.g (fun _ x => x) _ _ k6⟩
  dj := co1.dj
theorem wipe_twice {σ : L2.St} {vs : List Nat} : L2.wipe (L2.wipe σ vs) vs = L2.wipe σ vs := by
  refine wipe_of_agree (L2.wipe_length σ vs) fun j hj => ?_
  have key : ∀ us : List Nat, j ∉ us → (L2.wipe σ us)[j]? = σ[j]? := by
    intro us
    induction us with
    | nil => exact fun _ => rfl
    | cons u us ih =>
      intro hu
      show ((L2.wipe σ us).set u none)[j]? = σ[j]?
      rw [List.getElem?_set_ne (fun z => hu (by simp [z]))]
      exact ih fun z => hu (List.mem_cons_of_mem _ z)
  exact key vs hj
theorem wipe_not {σ : L2.St} {j : Nat} : ∀ {us : List Nat}, j ∉ us → (L2.wipe σ us)[j]? = σ[j]?
  | [], _ => rfl
  | u :: us, hu => by
    show ((L2.wipe σ us).set u none)[j]? = σ[j]?
    rw [List.getElem?_set_ne (fun z => hu (by simp [z]))]
    exact wipe_not fun z => hu (List.mem_cons_of_mem _ z)
/-- the list at p, which the comprehension alone knows, grows -/
theorem Nxt.grow {G5 H5 : Hp} {c5 : CT} {p : Addr} {o : HO} (N : Nxt F s G H s G5 H5 c5) (hpn : H p = none) (b1 : G5 p = none) (sp : s ≠ some p) (b2 : p ∉ F.TL) : Nxt F s G H s G5 (upd H5 p o) c5 := by
  refine ⟨N.g, fun a o q1 q2 q3 => ?_, fun a o q => ?_, N.nw, ⟨fun a q => ?_, fun P hP => ?_⟩, N.ss⟩
  · rw [upd_ne (ne_of_none q3 hpn)]
    exact N.h a o q1 q2 q3
  · rw [upd_ne (ne_of_none q b1)]
    exact N.gh a o q
  · obtain ⟨t1, m', t2, t3⟩ := N.vo.sp a q
    exact ⟨t1, m', t2, by rw [upd_ne (fun z => sp (by rw [← z]; exact q))]; exact t3⟩
  · obtain ⟨t1, ps, t2, t3⟩ := N.vo.tb P hP
    exact ⟨t1, ps, by rw [upd_ne (show P ≠ p from fun z => b2 (z ▸ hP))]; exact t2, t3⟩
def compB (t : Tg) (tt : BS) (it1 : AS) (vs1 : List Nat) (t1 : Tg) (tt1 : BS) (te : ES) (env : En) : List FL.D → List FL.D → M (List FL.D)
  | [], acc => ret acc
  | d :: r, acc => match t d env with
    | none => bad
    | some e1 => bnd (noX (tt e1)) fun k => match k with
      | true => bnd (noX (it1 e1)) fun ds1 => bnd (noX (compA t1 tt1 te (wipeE e1 vs1) ds1 acc)) fun acc1 => compB t tt it1 vs1 t1 tt1 te env r acc1
      | false => compB t tt it1 vs1 t1 tt1 te env r acc
def lc2E (it : AS) (vs : List Nat) (t : Tg) (tt : BS) (it1 : AS) (vs1 : List Nat) (t1 : Tg) (tt1 : BS) (te : ES) : AS := fun env => bnd (it env) fun ds => compB t tt it1 vs1 t1 tt1 te (wipeE env vs) ds []
/-- the inner loop: from (G4, H4) on, the list at p grows by what compA tells -/
theorem inner_lc {t1 : Tg} {tt1 : BS} {te : ES} {vs1 ts1 : List Nat} (hts1 : ∀ j ∈ ts1, j ∈ vs1) {envw e1 : En} {σw σ2 : L2.St} {G3 H3 G4 H4 : Hp} {c3 c4 : CT} {p : Addr} {acc : List FL.D} {us : List V} {ds1 : List FL.D} {J1 : It} {ok1 : Option Addr → Hp → Prop} {Nx : Hp → Prop}
    (co : Co F B s envw σw G H c) (hp : H p = none) (sp : s ≠ some p) (co1 : Co F B s e1 σ2 G3 H3 c3) (g34 : Ex G3 G4) (n4 : Nxt F s G H s G4 H4 c4) (hT : ∀ (i : Nat) (ds : List FL.D), e1[i]? = some (Sl.ow ds) → envw[i]? = some (Sl.ow ds) ∧ σ2[i]? = σw[i]?)
    (hit : ItD F J1 ok1 ds1) (hok : ok1 s G4) (p2 : G4 p = none) (p3 : H4 p = some (.lst us)) (r2 : RepL F s G4 acc us)
    (w : wpR (compA t1 tt1 te (wipeE e1 vs1) ds1 acc c4) (fun acc' c' => ∀ us' G' H', Nxt F s G H s G' H' c' → Ex G4 G' → G' p = none → H' p = some (.lst us') → RepL F s G' acc' us' → Nx H') (fun _ _ => False)) :
    ∃ W1 : Nat → Nat → Hp → Prop, (∃ m, W1 0 m H4) ∧ ∀ j k H, W1 j k H →
      (J1.stop j H ∧ Nx H) ∨ (J1.go j H ∧ ∃ Nx1 : Hp → Prop, (∀ H', Nx1 H' → ∃ k', k' < k ∧ W1 (j + 1) k' H') ∧ ∀ x H', J1.yld j H x H' → tG F ts1 t1 x (L2.wipe σ2 vs1) H' fun σ3 H5 => L2.wipe σ3 vs1 = L2.wipe σ2 vs1 ∧ tT F W0 tt1 σ3 H5 fun b H6 =>
        if b = true then tX F W0 false te σ3 H6 fun y H7 => ∃ acc, H7 p = some (.lst acc) ∧ acc.length < sizeLine ∧ Nx1 (upd H7 p (.lst (acc ++ [y]))) else Nx1 H6) := by
  refine ⟨fun i m H2 => i ≤ ds1.length ∧ m = ds1.length - i ∧ ∃ G2 c2 acc us, Nxt F s G H s G2 H2 c2 ∧ Ex G4 G2 ∧ ok1 s G2 ∧ G2 p = none ∧ H2 p = some (.lst us) ∧ RepL F s G2 acc us ∧
    wpR (compA t1 tt1 te (wipeE e1 vs1) (ds1.drop i) acc c2) (fun acc' c' => ∀ us' G' H', Nxt F s G H s G' H' c' → Ex G4 G' → G' p = none → H' p = some (.lst us') → RepL F s G' acc' us' → Nx H') (fun _ _ => False),
    ⟨ds1.length, Nat.zero_le _, rfl, G4, c4, acc, us, n4, Ex.refl _, hok, p2, p3, r2, by rw [List.drop_zero]; exact w⟩, fun i m H2 ⟨hi, hm, G2, c2, acc, us, n2, g2, ok2, p2, p3, r2, w2⟩ => ?_⟩
  by_cases hlt : i < ds1.length
  · rw [List.drop_eq_getElem_cons hlt] at w2
    have hd : ds1[i]? = some ds1[i] := List.getElem?_eq_getElem hlt
    refine .inr ⟨hit.go i s G2 H2 c2 ok2 n2.gh n2.vo hlt, fun H' => i + 1 ≤ ds1.length ∧ ∃ G2 c2 acc us, Nxt F s G H s G2 H' c2 ∧ Ex G4 G2 ∧ ok1 s G2 ∧ G2 p = none ∧ H' p = some (.lst us) ∧ RepL F s G2 acc us ∧
      wpR (compA t1 tt1 te (wipeE e1 vs1) (ds1.drop (i + 1)) acc c2) (fun acc' c' => ∀ us' G' H', Nxt F s G H s G' H' c' → Ex G4 G' → G' p = none → H' p = some (.lst us') → RepL F s G' acc' us' → Nx H') (fun _ _ => False),
      fun H' w => ⟨m - 1, by omega, w.1, by omega, w.2⟩, fun x H3' y => ?_⟩
    obtain ⟨G3', n3, r3⟩ := hit.yld i s G2 H2 c2 x H3' _ ok2 n2.gh n2.vo y hd
    unfold compA at w2
    cases et : t1 ds1[i] (wipeE e1 vs1) with
    | none => simp only [et] at w2; exact w2.elim
    | some e2 =>
      simp only [et] at w2
      have hp2 : H2 p ≠ none := by rw [p3]; exact fun z => nomatch z
      have keep : ∀ {Gx Hx : Hp} {cx : CT}, Nxt F s G2 H2 s Gx Hx cx → Gx p = none ∧ Hx p = some (.lst us) ∧ RepL F s Gx acc us := fun n => ⟨n.nw p p2 hp2, n.h p _ sp (not_tab n2.vo p3) p3, RepL.mono n.g (fun _ x => x) _ _ r2⟩
      have co3 : Co F B s e1 σ2 G3' H3' c2 := Co.turn co (n2.trans n3) co1 ((g34.trans g2).trans n3.g) hT
      refine ⟨B, s, wipeE e1 vs1, G3', c2, ds1[i], e2, co3.wipe vs1, r3, et, fun σ3 cs hl3 ha3 => ⟨?_, ?_⟩⟩
      · have e := wipe_of_agree (vs := vs1) hl3 fun j hj => ha3 j fun z => hj (hts1 j z)
        rw [e]
        exact wipe_twice
      · refine ⟨B, s, e2, G3', c2, cs, wpR_noX (wpR_mono (wpR_bnd w2) (fun k c5 h5 G5 H5 n5 => ?_) fun _ _ x => x)⟩
        have n25 := n3.trans n5
        obtain ⟨a1, a2, a3⟩ := keep n25
        cases k with
        | true =>
          refine iteT ⟨B, s, e2, G5, c5, cs.nxt n5, wpR_noX (wpR_mono (wpR_bnd h5) (fun d c6 h6 v G6 H6 n6 r6 => ?_) fun _ _ x => x)⟩
          have n26 := n25.trans n6
          obtain ⟨b1, b2, b3⟩ := keep n26
          by_cases hz : acc.length < sizeLine
          · rw [if_pos hz] at h6
            exact ⟨us, b2, by rw [b3.length]; exact hz, hlt, G6, c6, acc ++ [d], us ++ [v], (n2.trans n26).grow hp b1 sp (not_tab n26.vo b2), g2.trans n26.g, hit.mono _ _ _ _ ok2 (fun _ x => x) n26.g, b1, upd_same, b3.append ⟨v, [], rfl, r6.strict, rfl⟩, h6⟩
          · rw [if_neg hz] at h6
            exact h6.elim
        | false => exact iteF ⟨hlt, G5, c5, acc, us, n2.trans n25, g2.trans n25.g, hit.mono _ _ _ _ ok2 (fun _ x => x) n25.g, a1, a2, a3, h5⟩
  · have e : i = ds1.length := by omega
    subst e
    refine .inl ⟨hit.stop s G2 H2 c2 ok2 n2.gh n2.vo, ?_⟩
    rw [List.drop_length] at w2
    exact w2 us G2 H2 n2 g2 p2 p3 r2
theorem tO_lc2 {it it1 : AS} {vs ts vs1 ts1 : List Nat} {t t1 : Tg} {tt tt1 : BS} {te : ES} {Q : VK} (hts : ∀ j ∈ ts, j ∈ vs) (hts1 : ∀ j ∈ ts1, j ∈ vs1) (hno : NoOw ts t) (h : tO F W (lc2E it vs t tt it1 vs1 t1 tt1 te) σ H Q) :
    tLc2 (tI F W it) (tG F ts t) (tT F W0 tt) (tI F W0 it1) (tG F ts1 t1) (tT F W0 tt1) (tX F W0 false te) vs vs1 σ H Q := by
  obtain ⟨B, s, env, G, c, co, q⟩ := h
  refine ⟨B, s, env, G, c, co, wpR_mono (wpR_bnd q) (fun ds c1 h1 J ok G1 H1 n1 hit hok p hp => ?_) fun _ _ x => x⟩
  have g1p : G1 p = none := by
    cases e : G1 p with
    | none => rfl
    | some o =>
      have := n1.gh p o e
      rw [hp] at this
      cases this
  have sp : s ≠ some p := fun z => by
    obtain ⟨_, m, _, k⟩ := n1.vo.sp p z
    rw [hp] at k
    cases k
  have hpn : H p = none := n1.back hp
  refine ⟨fun i m H2 => i ≤ ds.length ∧ m = ds.length - i ∧ ∃ G2 c2 acc us, Nxt F s G H s G2 H2 c2 ∧ Ex G1 G2 ∧ ok s G2 ∧ G2 p = none ∧ H2 p = some (.lst us) ∧ RepL F s G2 acc us ∧
    wpR (compB t tt it1 vs1 t1 tt1 te (wipeE env vs) (ds.drop i) acc c2) (fun ds c' => ∀ p vs G' H', Nxt F s G H s G' H' c' → s ≠ some p → H p = none → G' p = none → H' p = some (.lst vs) → RepL F s G' ds vs → Q (.ref p) H') (xW F W s σ G H),
    ⟨ds.length, Nat.zero_le _, rfl, G1, c1, [], [], n1.newO hp, Ex.refl _, hok, g1p, upd_same, rfl, by rw [List.drop_zero]; exact h1⟩, fun i m H2 ⟨hi, hm, G2, c2, acc, us, n2, g2, ok2, p2, p3, r2, w2⟩ => ?_⟩
  have co2 : Co F B s env σ G2 H2 c2 := co.nxt n2
  by_cases hlt : i < ds.length
  · rw [List.drop_eq_getElem_cons hlt] at w2
    have hd : ds[i]? = some ds[i] := List.getElem?_eq_getElem hlt
    refine .inr ⟨hit.go i s G2 H2 c2 ok2 n2.gh n2.vo hlt, fun H' => i + 1 ≤ ds.length ∧ ∃ G2 c2 acc us, Nxt F s G H s G2 H' c2 ∧ Ex G1 G2 ∧ ok s G2 ∧ G2 p = none ∧ H' p = some (.lst us) ∧ RepL F s G2 acc us ∧
      wpR (compB t tt it1 vs1 t1 tt1 te (wipeE env vs) (ds.drop (i + 1)) acc c2) (fun ds c' => ∀ p vs G' H', Nxt F s G H s G' H' c' → s ≠ some p → H p = none → G' p = none → H' p = some (.lst vs) → RepL F s G' ds vs → Q (.ref p) H') (xW F W s σ G H),
      fun H' w => ⟨m - 1, by omega, w.1, by omega, w.2⟩, fun x H3 y => ?_⟩
    obtain ⟨G3, n3, r3⟩ := hit.yld i s G2 H2 c2 x H3 _ ok2 n2.gh n2.vo y hd
    unfold compB at w2
    cases et : t ds[i] (wipeE env vs) with
    | none => simp only [et] at w2; exact w2.elim
    | some e1 =>
      simp only [et] at w2
      have hp2 : H2 p ≠ none := by rw [p3]; exact fun z => nomatch z
      have keep : ∀ {Gx Hx : Hp} {cx : CT}, Nxt F s G2 H2 s Gx Hx cx → Gx p = none ∧ Hx p = some (.lst us) ∧ RepL F s Gx acc us := fun n => ⟨n.nw p p2 hp2, n.h p _ sp (not_tab n2.vo p3) p3, RepL.mono n.g (fun _ x => x) _ _ r2⟩
      refine ⟨B, s, wipeE env vs, G3, c2, ds[i], e1, (co2.nxt n3).wipe vs, r3, et, fun σ3 co3 hl3 ha3 => ⟨?_, ?_⟩⟩
      · have e := wipe_of_agree (vs := vs) hl3 fun j hj => ha3 j fun z => hj (hts j z)
        rw [e]
        exact wipe_twice
      · refine ⟨B, s, e1, G3, c2, co3, wpR_noX (wpR_mono (wpR_bnd w2) (fun k c4 h4 G4 H4 n4 => ?_) fun _ _ x => x)⟩
        have n24 := n3.trans n4
        obtain ⟨a1, a2, a3⟩ := keep n24
        cases k with
        | true =>
          refine iteT ⟨B, s, e1, G4, c4, co3.nxt n4, wpR_noX (wpR_mono (wpR_bnd h4) (fun ds1 c5 h5 J1 ok1 G5 H5 n5 hit1 hok1 => ?_) fun _ _ x => x)⟩
          have n25 := n24.trans n5
          obtain ⟨b1, b2, b3⟩ := keep n25
          have w5 := wpR_bnd h5
          have hT : ∀ (i : Nat) (ds : List FL.D), e1[i]? = some (Sl.ow ds) → (wipeE env vs)[i]? = some (Sl.ow ds) ∧ σ3[i]? = (L2.wipe σ vs)[i]? := fun i ds e => by
            obtain ⟨k1, k2⟩ := hno _ _ _ et i ds e
            exact ⟨k1, ha3 i k2⟩
          refine inner_lc hts1 (co.wipe vs) hpn sp co3 (n4.g.trans n5.g) (n2.trans n25) hT hit1 hok1 b1 b2 b3 (wpR_noX (wpR_mono w5 (fun acc1 c6 h6 us' G' H' m1 m2 m3 m4 m5 => ?_) fun _ _ x => x))
          exact ⟨hlt, G', c6, acc1, us', m1, (g2.trans n25.g).trans m2, hit.mono _ _ _ _ ok2 (fun _ x => x) (n25.g.trans m2), m3, m4, m5, h6⟩
        | false => exact iteF ⟨hlt, G4, c4, acc, us, n2.trans n24, g2.trans n24.g, hit.mono _ _ _ _ ok2 (fun _ x => x) n24.g, a1, a2, a3, h4⟩
  · have e : i = ds.length := by omega
    subst e
    refine .inl ⟨hit.stop s G2 H2 c2 ok2 n2.gh n2.vo, ?_⟩
    rw [List.drop_length] at w2
    exact w2 p us G2 H2 n2 sp (n1.back hp) p2 p3 r2
end
end FL

set_option Elab.async false
set_option linter.all false
set_option maxRecDepth 100000
set_option maxHeartbeats 2000000
/-! S8: dicts of texts as data; dict comprehensions, get. -/
namespace FL
open PySem L2 PyProof.Rows
open Evl (Ex)
def putS (kvs : List (Str × FL.D)) (k : Str) (v : FL.D) : List (Str × FL.D) := if (kvs.any fun p => decide (p.1 = k)) = true then kvs.map (fun p => if p.1 = k then (p.1, v) else p) else kvs ++ [(k, v)]
def getS : List (Str × FL.D) → Str → Option FL.D
  | [], _ => none
  | p :: r, k => if p.1 = k then some p.2 else getS r k
section
variable {F : FX} {s : Option Addr} {G G' H : Hp}
def RepKV (F : FX) (s : Option Addr) (G : Hp) : List (Str × FL.D) → List (Key × V) → Prop
  | [], us => us = []
  | p :: r, us => ∃ v ur, us = (Sum.inr p.1, v) :: ur ∧ Rep F s G p.2 v ∧ RepKV F s G r ur
theorem RepKV.mono (e : Ex G G') : ∀ {kvs : List (Str × FL.D)} {us : List (Key × V)}, RepKV F s G kvs us → RepKV F s G' kvs us
  | [], _, h => h
  | _ :: _, _, ⟨v, ur, h1, h2, h3⟩ => ⟨v, ur, h1, Rep.mono e (fun _ x => x) _ _ h2, RepKV.mono e h3⟩
theorem RepKV.length : ∀ {kvs : List (Str × FL.D)} {us : List (Key × V)}, RepKV F s G kvs us → us.length = kvs.length
  | [], _, h => by cases (show _ = _ from h); rfl
  | _ :: _, _, ⟨v, ur, h1, h2, h3⟩ => by rw [h1, List.length_cons, List.length_cons, RepKV.length h3]
theorem inr_ne {a b : Str} : ((Sum.inr a : Key) = Sum.inr b) ↔ a = b := ⟨fun h => Sum.inr.inj h, fun h => by rw [h]⟩
theorem RepKV.any (k : Str) : ∀ {kvs : List (Str × FL.D)} {us : List (Key × V)}, RepKV F s G kvs us → (us.any fun q => decide (q.1 = Sum.inr k)) = kvs.any fun p => decide (p.1 = k)
  | [], _, h => by cases (show _ = _ from h); rfl
  | p :: _, _, ⟨v, ur, h1, h2, h3⟩ => by
    rw [h1, List.any_cons, List.any_cons, RepKV.any k h3]
    congr 1
    exact decide_eq_decide.mpr inr_ne
theorem RepKV.repl {k : Str} {d : FL.D} {v : V} (r : Rep F s G d v) : ∀ {kvs : List (Str × FL.D)} {us : List (Key × V)}, RepKV F s G kvs us → RepKV F s G (kvs.map fun p => if p.1 = k then (p.1, d) else p) (us.map fun q => if q.1 = Sum.inr k then (q.1, v) else q)
  | [], _, h => by cases (show _ = _ from h); rfl
  | p :: _, _, ⟨u, ur, h1, h2, h3⟩ => by
    rw [h1, List.map_cons, List.map_cons]
    by_cases e : p.1 = k
    · rw [if_pos e, if_pos (show (Sum.inr p.1 : Key) = Sum.inr k by rw [e])]
      exact ⟨v, _, rfl, r, RepKV.repl r h3⟩
    · rw [if_neg e, if_neg (show ¬ (Sum.inr p.1 : Key) = Sum.inr k from fun z => e (Sum.inr.inj z))]
      exact ⟨u, _, rfl, h2, RepKV.repl r h3⟩
theorem RepKV.snoc {k : Str} {d : FL.D} {v : V} (r : Rep F s G d v) : ∀ {kvs : List (Str × FL.D)} {us : List (Key × V)}, RepKV F s G kvs us → RepKV F s G (kvs ++ [(k, d)]) (us ++ [(Sum.inr k, v)])
  | [], _, h => by cases (show _ = _ from h); exact ⟨v, [], rfl, r, rfl⟩
  | p :: _, _, ⟨u, ur, h1, h2, h3⟩ => by rw [h1]; exact ⟨u, _, rfl, h2, RepKV.snoc r h3⟩
theorem RepKV.put {k : Str} {d : FL.D} {v : V} {kvs : List (Str × FL.D)} {us : List (Key × V)} (h : RepKV F s G kvs us) (r : Rep F s G d v) : RepKV F s G (putS kvs k d) (putK us (Sum.inr k) v) := by
  unfold putS putK
  rw [h.any k]
  by_cases e : (kvs.any fun p => decide (p.1 = k)) = true
  · rw [if_pos e, if_pos e]; exact h.repl r
  · rw [if_neg e, if_neg e]; exact h.snoc r
theorem RepKV.zip : ∀ {kvs : List (Str × FL.D)} {us : List (Key × V)}, RepKV F s G kvs us → ∃ vs, us = ((kvs.map (·.1)).map Sum.inr).zip vs ∧ RepL F s G (kvs.map (·.2)) vs
  | [], _, h => ⟨[], h, rfl⟩
  | p :: _, _, ⟨v, ur, h1, h2, h3⟩ => by
    obtain ⟨vs, k1, k2⟩ := RepKV.zip h3
    exact ⟨v :: vs, by rw [h1, k1]; rfl, v, vs, rfl, h2, k2⟩
theorem repKV_of : ∀ {ks : List Str} {ds : List FL.D} {vs : List V}, ks.length = ds.length → RepL F s G ds vs → RepKV F s G (ks.zip ds) ((ks.map Sum.inr).zip vs)
  | [], [], _, _, h => by cases (show _ = _ from h); rfl
  | _ :: _, [], _, hl, _ => by cases hl
  | [], _ :: _, _, hl, _ => by cases hl
  | k :: ks, d :: ds, _, hl, ⟨v, r, h1, h2, h3⟩ => by
    rw [h1]
    exact ⟨v, _, rfl, h2, repKV_of (by simpa using hl) h3⟩
theorem RepKV.get (k : Str) : ∀ {kvs : List (Str × FL.D)} {us : List (Key × V)}, RepKV F s G kvs us → ((∃ d v, getS kvs k = some d ∧ valV us (Sum.inr k) = some v ∧ Rep F s G d v) ∨ (getS kvs k = none ∧ valV us (Sum.inr k) = none))
  | [], _, h => by cases (show _ = _ from h); exact .inr ⟨rfl, rfl⟩
  | p :: _, _, ⟨v, ur, h1, h2, h3⟩ => by
    unfold getS
    rw [h1]
    by_cases e : p.1 = k
    · rw [if_pos e]
      exact .inl ⟨p.2, v, rfl, valV_pos (p := ((Sum.inr p.1 : Key), v)) (by rw [e]), h2⟩
    · rw [if_neg e, valV_neg (p := ((Sum.inr p.1 : Key), v)) (fun z => e (Sum.inr.inj z))]
      exact RepKV.get k h3
end
theorem not_tabD {F : FX} {s : Option Addr} {c : CT} {G H : Hp} {p : Addr} {us : List (Key × V)} (v : Vol F s c G H) (e : H p = some (.dK us)) : p ∉ F.TL := fun z => by
  obtain ⟨ps, q, _⟩ := (v.tb p z).2
  rw [e] at q; cases q
section
variable {F : FX} {X : Cx} {W : WX} {z b : Bool} {B : St0} {s s1 : Option Addr} {D : Ends} {G H : Hp} {c : CT} {σ : L2.St} {tg : Expr} {env : En}
/-- what is made, known to all -/
theorem nxt_frzX {G' H' : Hp} {c' : CT} {p : Addr} {o : HO} (n : Nxt F s G H s G' H' c') (hs : s ≠ some p) (hp : H p = none) (hg : G' p = none) (hh : H' p = some o) (htl : p ∉ F.TL) : Nxt F s G H s (upd G' p o) H' c' := by
  have e1 : Ex G' (upd G' p o) := Ex.new hg
  refine ⟨n.g.trans e1, n.h, fun a u q => ?_, fun a h1 h2 => ?_, ⟨fun a q => ?_, fun P hP => ?_⟩, n.ss⟩
  · by_cases ea : a = p
    · rw [ea, upd_same] at q
      rw [ea, hh]
      exact q
    · rw [upd_ne ea] at q
      exact n.gh a u q
  · have ne : a ≠ p := fun z => h2 (z ▸ hp)
    rw [upd_ne ne]
    exact n.nw a h1 h2
  · obtain ⟨h1, h2⟩ := n.vo.sp a q
    have ne : a ≠ p := fun z => hs (z ▸ q)
    exact ⟨by rw [upd_ne ne]; exact h1, h2⟩
  · obtain ⟨h1, h2⟩ := n.vo.tb P hP
    have ne : P ≠ p := fun z => htl (z ▸ hP)
    exact ⟨by rw [upd_ne ne]; exact h1, h2⟩
def dcA (t : Tg) (tt : BS) (tk tv : ES) (env : En) : List FL.D → List (Str × FL.D) → M (List (Str × FL.D))
  | [], acc => ret acc
  | d :: r, acc => match t d env with
    | none => bad
    | some e1 => bnd (noX (tt e1)) fun k => match k with
      | true => bnd (noX (tk e1)) fun y => bnd (noX (tv e1)) fun u => match y with
        | .str x => if acc.length < sizeLine then dcA t tt tk tv env r (putS acc x u) else bad
        | _ => bad
      | false => dcA t tt tk tv env r acc
def mkD (kvs : List (Str × FL.D)) : FL.D := .dct (kvs.map (·.1)) (kvs.map (·.2))
def dcE (it : AS) (vs : List Nat) (t : Tg) (tt : BS) (tk tv : ES) : ES := fun env => bnd (it env) fun ds => bnd (dcA t tt tk tv (wipeE env vs) ds []) fun kvs => ret (mkD kvs)
theorem wpR_bnd2 {α β : Type} {m : M α} {k : α → M β} {c : CT} {Q : β → CT → Prop} {E : Exn → CT → Prop} (h : wpR (m c) (fun a c' => wpR (k a c') Q E) E) : wpR (bnd m k c) Q E := by
  unfold bnd
  cases hm : m c with
  | ok a c' => rw [hm] at h; exact h
  | ex x c' => rw [hm] at h; exact h
  | bad => rw [hm] at h; exact h
theorem tX_dc {it : AS} {vs ts : List Nat} {t : Tg} {tt : BS} {tk tv : ES} {Q : VK} (hts : ∀ j ∈ ts, j ∈ vs) (h : tX F W b (dcE it vs t tt tk tv) σ H Q) : tDc (tI F W it) (tG F ts t) (tT F W0 tt) (tX F W0 false tk) (tX F W0 false tv) vs σ H Q := by
  obtain ⟨B, s, env, G, c, co, q⟩ := h
  refine ⟨B, s, env, G, c, co, wpR_mono (wpR_bnd q) (fun ds c1 h1 J ok G1 H1 n1 hit hok p hp => ?_) fun _ _ x => x⟩
  have g1p : G1 p = none := by
    cases e : G1 p with
    | none => rfl
    | some o =>
      have := n1.gh p o e
      rw [hp] at this
      cases this
  have sp : s ≠ some p := fun z => by
    obtain ⟨_, m, _, k⟩ := n1.vo.sp p z
    rw [hp] at k
    cases k
  have hpn : H p = none := n1.back hp
  refine ⟨fun i m H2 => i ≤ ds.length ∧ m = ds.length - i ∧ ∃ G2 c2 acc us, Nxt F s G H s G2 H2 c2 ∧ Ex G1 G2 ∧ ok s G2 ∧ G2 p = none ∧ H2 p = some (.dK us) ∧ RepKV F s G2 acc us ∧
    wpR (dcA t tt tk tv (wipeE env vs) (ds.drop i) acc c2) (fun kvs c' => ∀ v G' H', Nxt F s G H s G' H' c' → RepB b F s G' H' (mkD kvs) v → Q v H') (xW F W s σ G H),
    ⟨ds.length, Nat.zero_le _, rfl, G1, c1, [], [], n1.newO hp, Ex.refl _, hok, g1p, upd_same, rfl, by rw [List.drop_zero]; exact wpR_mono (wpR_bnd h1) (fun kvs c' h => h) fun _ _ x => x⟩, fun i m H2 ⟨hi, hm, G2, c2, acc, us, n2, g2, ok2, p2, p3, r2, w2⟩ => ?_⟩
  have co2 : Co F B s env σ G2 H2 c2 := co.nxt n2
  by_cases hlt : i < ds.length
  · rw [List.drop_eq_getElem_cons hlt] at w2
    have hd : ds[i]? = some ds[i] := List.getElem?_eq_getElem hlt
    refine .inr ⟨hit.go i s G2 H2 c2 ok2 n2.gh n2.vo hlt, fun H' => i + 1 ≤ ds.length ∧ ∃ G2 c2 acc us, Nxt F s G H s G2 H' c2 ∧ Ex G1 G2 ∧ ok s G2 ∧ G2 p = none ∧ H' p = some (.dK us) ∧ RepKV F s G2 acc us ∧
      wpR (dcA t tt tk tv (wipeE env vs) (ds.drop (i + 1)) acc c2) (fun kvs c' => ∀ v G' H', Nxt F s G H s G' H' c' → RepB b F s G' H' (mkD kvs) v → Q v H') (xW F W s σ G H),
      fun H' w => ⟨m - 1, by omega, w.1, by omega, w.2⟩, fun x H3 y => ?_⟩
    obtain ⟨G3, n3, r3⟩ := hit.yld i s G2 H2 c2 x H3 _ ok2 n2.gh n2.vo y hd
    unfold dcA at w2
    cases et : t ds[i] (wipeE env vs) with
    | none => simp only [et] at w2; exact w2.elim
    | some e1 =>
      simp only [et] at w2
      have hp2 : H2 p ≠ none := by rw [p3]; exact fun z => nomatch z
      have keep : ∀ {Gx Hx : Hp} {cx : CT}, Nxt F s G2 H2 s Gx Hx cx → Gx p = none ∧ Hx p = some (.dK us) ∧ RepKV F s Gx acc us := fun n => ⟨n.nw p p2 hp2, n.h p _ sp (not_tabD n2.vo p3) p3, r2.mono n.g⟩
      refine ⟨B, s, wipeE env vs, G3, c2, ds[i], e1, (co2.nxt n3).wipe vs, r3, et, fun σ3 co3 hl3 ha3 => ⟨?_, ?_⟩⟩
      · have e := wipe_of_agree (vs := vs) hl3 fun j hj => ha3 j fun z => hj (hts j z)
        rw [e]
        exact wipe_twice
      · refine ⟨B, s, e1, G3, c2, co3, wpR_noX (wpR_mono (wpR_bnd w2) (fun k c4 h4 G4 H4 n4 => ?_) fun _ _ x => x)⟩
        have n24 := n3.trans n4
        obtain ⟨a1, a2, a3⟩ := keep n24
        cases k with
        | true =>
          refine iteT ⟨B, s, e1, G4, c4, co3.nxt n4, wpR_noX (wpR_mono (wpR_bnd h4) (fun yd c5 h5 yv G5 H5 n5 r5 => ?_) fun _ _ x => x)⟩
          refine ⟨B, s, e1, G5, c5, (co3.nxt n4).nxt n5, wpR_noX (wpR_mono (wpR_bnd h5) (fun zd c6 h6 zv G6 H6 n6 r6 => ?_) fun _ _ x => x)⟩
          have n26 := (n24.trans n5).trans n6
          obtain ⟨b1, b2, b3⟩ := keep n26
          cases yd with
          | str x =>
            have h6 : wpR ((if acc.length < sizeLine then dcA t tt tk tv (wipeE env vs) (ds.drop (i + 1)) (putS acc x zd) else bad) c6) _ _ := h6
            by_cases hz : acc.length < sizeLine
            · rw [if_pos hz] at h6
              exact ⟨us, Sum.inr x, r5.str, b2, by rw [b3.length]; exact hz, hlt, G6, c6, putS acc x zd, putK us (Sum.inr x) zv, (n2.trans n26).grow hpn b1 sp (not_tabD n26.vo b2), g2.trans n26.g, hit.mono _ _ _ _ ok2 (fun _ x => x) n26.g, b1, upd_same, b3.put r6.strict, h6⟩
            · rw [if_neg hz] at h6
              exact h6.elim
          | _ => exact h6.elim
        | false => exact iteF ⟨hlt, G4, c4, acc, us, n2.trans n24, g2.trans n24.g, hit.mono _ _ _ _ ok2 (fun _ x => x) n24.g, a1, a2, a3, h4⟩
  · have e : i = ds.length := by omega
    subst e
    refine .inl ⟨hit.stop s G2 H2 c2 ok2 n2.gh n2.vo, ?_⟩
    rw [List.drop_length] at w2
    obtain ⟨vs', k1, k2⟩ := r2.zip
    exact w2 (.ref p) _ H2 (nxt_frzX n2 sp hpn p2 p3 (not_tabD n2.vo p3)) (.inl ⟨p, vs', rfl, by rw [← k1]; exact upd_same, by simp, RepL.mono (Ex.new p2) (fun _ x => x) _ _ k2⟩)
theorem lt64 {n : Nat} (h : n + 64 < cLine) : n + 1 < cLine := Nat.lt_of_le_of_lt (Nat.add_le_add_left (by decide) n) h
/-- d.get(k) -/
def gtE (f g : ES) : ES := fun env => bnd (f env) fun d => match d with
  | .dct ks ds => bnd (g env) fun k => match k with
    | .str x => ret ((getS (ks.zip ds) x).getD .non)
    | _ => bad
  | _ => bad
variable {o e : Expr} {es : List Expr} {apos cpos pos : Pos} {f g : ES}
theorem se_gt (hu : X.A.units + 1 < cLine) (ho : SE F X W true o f) (he : SE F X W true e g)
    (hbase : attributeBase o "get" X.env (eval o X.env) = eval o X.env := by rfl) (hline : (apos.endLine == cpos.line) = true := by rfl) (hs : starEach [e] X.env = [(false, eval e X.env)] := by rfl) :
    SE F X W b (.Call (.Attribute o "get" apos) [e] [] cpos) (gtE f g) := by
  refine ⟨pe_imp (pe_dget1 hu ho.pe he.pe ⟨hbase, by rw [hs]; rfl, hline, by rw [hs]; rfl⟩) fun σ H Q ⟨B, s, env, G, c, co, q⟩ => ⟨B, s, env, G, c, co, wpR_mono (wpR_bnd q) (fun d c1 h1 v1 G1 H1 n1 r1 => ?_) fun _ _ x => x⟩⟩
  cases d with
  | dct ks ds =>
    rcases r1 with ⟨a, vs, rfl, k1, k2, k3⟩ | ⟨_, p, vs, ds', q, _⟩
    · have hd : H1 a = some (.dK ((ks.map Sum.inr).zip vs)) := n1.gh a _ k1
      refine ⟨a, rfl, .inl ⟨_, .inl hd⟩, B, s, env, G1, c1, co.nxt n1, wpR_mono (wpR_bnd h1) (fun y c2 h2 v2 G2 H2 n2 r2 => ?_) fun _ _ w => w.nxt n1⟩
      cases y with
      | str x =>
        rw [r2.str]
        have hd2 : H2 a = some (.dK ((ks.map Sum.inr).zip vs)) := n2.gh a _ (n2.g a _ k1)
        have h2 : wpR (ret ((getS (ks.zip ds) x).getD .non) c2) _ _ := h2
        refine ⟨valV ((ks.map Sum.inr).zip vs) (Sum.inr x), DGet.k (k := Sum.inr x) hd2, ?_⟩
        rcases (repKV_of k2 k3).get x with ⟨d, v, e1, e2, r⟩ | ⟨e1, e2⟩
        · rw [e2]
          rw [e1] at h2
          exact h2 v G2 H2 (n1.trans n2) (.inl (Rep.mono n2.g (fun _ x => x) _ _ r))
        · rw [e2]
          rw [e1] at h2
          exact h2 .non G2 H2 (n1.trans n2) (.inl rfl)
      | _ => exact h2.elim
    · cases q
  | _ => exact h1.elim
end
end FL

set_option Elab.async false
set_option linter.all false
set_option maxRecDepth 100000
set_option maxHeartbeats 2000000
/-! G18: comprehensions of two clauses, of dicts, as rules. -/
namespace FL
open PySem L2 PyProof.Rows
open Evl (Ex)
section
variable {F : FX} {X : Cx} {W : WX} {z b : Bool}
variable {elt kx vx tg iter tg1 iter1 : Expr} {ifs ifs1 : List Expr} {scope : Scope} {own : List (Str × Nat)} {pos spos : Pos} {it it1 : AS} {ts ts1 vs1 : List Nat} {t t1 : Tg} {tt tt1 : BS} {te tk tv : ES}
theorem so_lc2 (hc : X.calm = true) (hN : X.N.Nodup) (hi : SI F X W tg iter it) (ok : BlkOk X.N X.env.scope scope own) (hts : ∀ j ∈ ts, j ∈ own.map (·.2)) (hno : NoOw ts t) (hv : ∀ i ∈ vs1, i ∈ own.map (·.2)) (hts1 : ∀ j ∈ ts1, j ∈ vs1)
    (hg : ∀ (s : Shared) (H : Hp) (C : Addr) (cl : List (Str × Addr)) (fp : List Addr), STg F (X.blk s H scope (compEnvC scope cl C X.env) fp) tg ts t) (ht : ∀ (s : Shared) (H : Hp) (C : Addr) (cl : List (Str × Addr)) (fp : List Addr), STs F (X.blk s H scope (compEnvC scope cl C X.env) fp) ifs tt)
    (hi1 : ∀ (s : Shared) (H : Hp) (C : Addr) (cl : List (Str × Addr)) (fp : List Addr), SI F (X.blk s H scope (compEnvC scope cl C X.env) fp) W0 tg1 iter1 it1)
    (hg1 : ∀ (s : Shared) (H : Hp) (C : Addr) (cl : List (Str × Addr)) (fp : List Addr), STg F (X.blk s H scope (compEnvC scope cl C X.env) fp) tg1 ts1 t1) (ht1 : ∀ (s : Shared) (H : Hp) (C : Addr) (cl : List (Str × Addr)) (fp : List Addr), STs F (X.blk s H scope (compEnvC scope cl C X.env) fp) ifs1 tt1)
    (he : ∀ (s : Shared) (H : Hp) (C : Addr) (cl : List (Str × Addr)) (fp : List Addr), SE F (X.blk s H scope (compEnvC scope cl C X.env) fp) W0 false elt te) (hs : ∀ x, foldedSetIterable iter X.env x = pure x := by intro _; rfl) (hs1 : ∀ env x, foldedSetIterable iter1 env x = pure x := by intro _ _; rfl) :
    SO F X W (.ListComp elt [⟨tg, iter, ifs, 0⟩, ⟨tg1, iter1, ifs1, 0⟩] scope pos) (lc2E it (own.map (·.2)) t tt it1 vs1 t1 tt1 te) :=
  ⟨pe_imp (pe_lc2 hc hN hi.pi ok hv (fun s H C cl fp => (hg s H C cl fp).pg) (fun s H C cl fp => (ht s H C cl fp).pts) (fun s H C cl fp => (hi1 s H C cl fp).pi) (fun s H C cl fp => (hg1 s H C cl fp).pg) (fun s H C cl fp => (ht1 s H C cl fp).pts) (fun s H C cl fp => (he s H C cl fp).pe) hs hs1) fun σ H Q h => tO_lc2 hts hts1 hno h⟩
theorem ps_lc2 {i : Nat} {y : Str} {py : Pos} (hc : X.calm = true) (hN : X.N.Nodup) (hy : X.N[i]? = some y) (hyl : X.env.scope.names.lookup y = some .local)
    (hsw : swapsWith (.ListComp elt [⟨tg, iter, ifs, 0⟩, ⟨tg1, iter1, ifs1, 0⟩] scope pos) (some (.Name y py)) spos.line X.env = pure true) (hi : SI F X W tg iter it) (ok : BlkOk X.N X.env.scope scope own) (hts : ∀ j ∈ ts, j ∈ own.map (·.2)) (hno : NoOw ts t) (hv : ∀ i ∈ vs1, i ∈ own.map (·.2)) (hts1 : ∀ j ∈ ts1, j ∈ vs1)
    (hg : ∀ (s : Shared) (H : Hp) (C : Addr) (cl : List (Str × Addr)) (fp : List Addr), STg F (X.blk s H scope (compEnvC scope cl C X.env) fp) tg ts t) (ht : ∀ (s : Shared) (H : Hp) (C : Addr) (cl : List (Str × Addr)) (fp : List Addr), STs F (X.blk s H scope (compEnvC scope cl C X.env) fp) ifs tt)
    (hi1 : ∀ (s : Shared) (H : Hp) (C : Addr) (cl : List (Str × Addr)) (fp : List Addr), SI F (X.blk s H scope (compEnvC scope cl C X.env) fp) W0 tg1 iter1 it1)
    (hg1 : ∀ (s : Shared) (H : Hp) (C : Addr) (cl : List (Str × Addr)) (fp : List Addr), STg F (X.blk s H scope (compEnvC scope cl C X.env) fp) tg1 ts1 t1) (ht1 : ∀ (s : Shared) (H : Hp) (C : Addr) (cl : List (Str × Addr)) (fp : List Addr), STs F (X.blk s H scope (compEnvC scope cl C X.env) fp) ifs1 tt1)
    (he : ∀ (s : Shared) (H : Hp) (C : Addr) (cl : List (Str × Addr)) (fp : List Addr), SE F (X.blk s H scope (compEnvC scope cl C X.env) fp) W0 false elt te) (hs : ∀ x, foldedSetIterable iter X.env x = pure x := by intro _; rfl) (hs1 : ∀ env x, foldedSetIterable iter1 env x = pure x := by intro _ _; rfl) :
    PS X (.Assign [.Name y py] (.ListComp elt [⟨tg, iter, ifs, 0⟩, ⟨tg1, iter1, ifs1, 0⟩] scope pos) spos) (tAsg (tO F W (lc2E it (own.map (·.2)) t tt it1 vs1 t1 tt1 te)) (gName i)) :=
  ps_imp (ps_setLc2 hc hN hy hyl hsw hi.pi ok hv (fun s H C cl fp => (hg s H C cl fp).pg) (fun s H C cl fp => (ht s H C cl fp).pts) (fun s H C cl fp => (hi1 s H C cl fp).pi) (fun s H C cl fp => (hg1 s H C cl fp).pg) (fun s H C cl fp => (ht1 s H C cl fp).pts) (fun s H C cl fp => (he s H C cl fp).pe) hs hs1) fun D σ H h => tO_lc2 hts hts1 hno h
theorem se_dc (hc : X.calm = true) (hN : X.N.Nodup) (hi : SI F X W tg iter it) (ok : BlkOk X.N X.env.scope scope own) (hts : ∀ j ∈ ts, j ∈ own.map (·.2))
    (hg : ∀ (s : Shared) (H : Hp) (C : Addr) (cl : List (Str × Addr)) (fp : List Addr), STg F (X.blk s H scope (compEnvC scope cl C X.env) fp) tg ts t) (ht : ∀ (s : Shared) (H : Hp) (C : Addr) (cl : List (Str × Addr)) (fp : List Addr), STs F (X.blk s H scope (compEnvC scope cl C X.env) fp) ifs tt)
    (hk : ∀ (s : Shared) (H : Hp) (C : Addr) (cl : List (Str × Addr)) (fp : List Addr), SE F (X.blk s H scope (compEnvC scope cl C X.env) fp) W0 false kx tk)
    (he : ∀ (s : Shared) (H : Hp) (C : Addr) (cl : List (Str × Addr)) (fp : List Addr), SE F (X.blk s H scope (compEnvC scope cl C X.env) fp) W0 false vx tv) (hs : ∀ x, foldedSetIterable iter X.env x = pure x := by intro _; rfl) :
    SE F X W b (.DictComp kx vx [⟨tg, iter, ifs, 0⟩] scope pos) (dcE it (own.map (·.2)) t tt tk tv) :=
  ⟨pe_imp (pe_dc hc hN hi.pi ok (fun s H C cl fp => (hg s H C cl fp).pg) (fun s H C cl fp => (ht s H C cl fp).pts) (fun s H C cl fp => (hk s H C cl fp).pe) (fun s H C cl fp => (he s H C cl fp).pe) hs) fun σ H Q h => tX_dc hts h⟩
end
end FL

set_option Elab.async false
set_option linter.all false
set_option maxRecDepth 100000
set_option maxHeartbeats 2000000
/-! G19: the head's facts off all objects there are (no search for those that are reached). -/
namespace HY
open PySem PySem.Spec L2 PyProof.Rows He
def allA (n : Nat) : List Addr := mainGlobals :: List.range n
def obsY (n : Nat) (fa : List Fa) (fn : List DefD) (ts : List Tab) (tf : List Defn) (ex : PySem.W.Frag → Bool) (g : Addr → Option Obj) : AlX := (obsT fa fn ts (frT g (allA n)), ex (frT g (allA n)) && tabsB g tf (frT g (allA n)))
theorem saysY_of {n : Nat} {fa : List Fa} {fn : List DefD} {ts : List Tab} {tf : List Defn} {ex : PySem.W.Frag → Bool} {w : World} {h : Heap} (e : obsY n fa fn ts tf ex h.get? = valX fn ts w) : SaysX fa fn ts tf ex w h (frT h.get? (allA n)) := by
  have e1 : obsT fa fn ts (frT h.get? (allA n)) = valT fn ts w := congrArg (fun z : AlX => z.1) e
  have e2 : (ex (frT h.get? (allA n)) && tabsB h.get? tf (frT h.get? (allA n))) = true := congrArg (fun z : AlX => z.2) e
  obtain ⟨h1, h2⟩ := ba e2
  have key : ∀ p ∈ tf, PySem.W.codeHdIn (frT h.get? (allA n)) (cT (frT h.get? (allA n)) p).1 (cT (frT h.get? (allA n)) p).2 = true ∧ ∃ o, h.get? (cT (frT h.get? (allA n)) p).2 = some o ∧ emptyTab o = true := fun p hp => by
    obtain ⟨h3, h4⟩ := ba (List.all_eq_true.mp h2 p hp)
    refine ⟨h3, ?_⟩
    cases q : h.get? (cT (frT h.get? (allA n)) p).2 with
    | none =>
      rw [q] at h4
      cases h4
    | some o =>
      rw [q] at h4
      exact ⟨o, rfl, h4⟩
  exact ⟨e1, h1, fun p hp => (key p hp).1, fun p hp => by
    obtain ⟨_, o, q, z⟩ := key p hp
    exact frT_none q z, fun p hp => by
    obtain ⟨_, o, q, z⟩ := key p hp
    rw [q, emptyTab_eq z]⟩
def hookY (n : Nat) (fa : List Fa) (fn : List DefD) (ts : List Tab) (tf : List Defn) (ex : PySem.W.Frag → Bool) : PySem.W.Hook where
  α := AlX
  obs := fun s => obsY n fa fn ts tf ex s.heap.get?
  val := fun w => valX fn ts w
  says := fun w h => ∃ K : PySem.W.Frag, K.In h ∧ SaysX fa fn ts tf ex w h K
  of := fun _ _ e => ⟨_, frT_in, saysY_of e⟩
  keeps := fun _ _ _ ⟨K, hK, c⟩ k => ⟨K, PySem.W.Frag.In.keeps hK k, ⟨c.t, c.more, c.hd, c.out, fun p hp => k _ _ (c.empty p hp)⟩⟩
theorem obsY_eq {n : Nat} {fa : List Fa} {fn : List DefD} {ts : List Tab} {tf : List Defn} {ex : PySem.W.Frag → Bool} {g : Addr → Option Obj} {s : Shared} (h : ∀ a, g a = s.heap.get? a) : obsY n fa fn ts tf ex g = (hookY n fa fn ts tf ex).obs s := by
  have e : g = s.heap.get? := funext h
  rw [e] <;> rfl
end HY

set_option Elab.async false
set_option linter.all false
set_option maxRecDepth 100000
set_option maxHeartbeats 4000000
/-! G20: targets within targets, x += an int, max of ints with a default, (x,) * n. -/
namespace FL
open PySem PySem.Spec L2 PyProof.Rows
open Evl (Ex)
/-! ### targets within targets -/
def tgsT : List Tg → List FL.D → En → Option En
  | [], [], env => some env
  | t :: ts, d :: ds, env => (t d env).bind fun e => tgsT ts ds e
  | _, _, _ => none
theorem tgsT_len : ∀ {ts : List Tg} {ds : List FL.D} {env env' : En}, tgsT ts ds env = some env' → ds.length = ts.length
  | [], [], _, _, _ => rfl
  | [], _ :: _, _, _, h => by cases h
  | _ :: _, [], _, _, h => by cases h
  | t :: ts, d :: ds, env, env', h => by
    have h : (t d env).bind (fun e => tgsT ts ds e) = some env' := h
    cases e : t d env with
    | none => rw [e] at h; cases h
    | some e1 =>
      rw [e] at h
      rw [List.length_cons, List.length_cons, tgsT_len h]
def tGN (F : FX) (is : List Nat) (ts : List Tg) : TGs := fun vs σ H Q => ∃ B s env G c ds env', Co F B s env σ G H c ∧ RepL F s G ds vs ∧ tgsT ts ds env = some env' ∧ ∀ σ' : L2.St, Co F B s env' σ' G H c → σ'.length = σ.length → (∀ j, j ∉ is → σ'[j]? = σ[j]?) → Q σ' H
structure STgN (F : FX) (X : Cx) (tgs : List Expr) (is : List Nat) (ts : List Tg) : Prop where
  pgs : PGs X tgs (tGN F is ts)
section
variable {F : FX} {X : Cx} {W : WX} {z b : Bool} {pos : Pos}
theorem stn_nil : STgN F X [] [] [] := ⟨⟨fun pins s σ H vs us Q I r ⟨B, s', env, G, c, ds, env', co, rr, e, k⟩ => by
  cases ds with
  | nil =>
    cases (show vs = [] from rr)
    cases r
    cases e
    exact assignInOrder_nil ⟨σ, H, I, k σ co rfl fun _ _ => rfl⟩
  | cons d ds => cases e⟩⟩
theorem stn_cons {e : Expr} {es : List Expr} {i1 is : List Nat} {t : Tg} {ts : List Tg} (h1 : STg F X e i1 t) (h2 : STgN F X es is ts)
    (hs : (assignEach (e :: es) X.env).map (·.2) = assign e X.env :: (assignEach es X.env).map (·.2) := by rfl) : STgN F X (e :: es) (i1 ++ is) (t :: ts) := ⟨⟨fun pins s σ H vs us Q I r ⟨B, s', env, G, c, ds, env', co, rr, e1, k⟩ => by
  cases ds with
  | nil => cases e1
  | cons d ds =>
    obtain ⟨v, vr, rfl, r1, r2⟩ := rr
    have e1 : (t d env).bind (fun e => tgsT ts ds e) = some env' := e1
    cases et : t d env with
    | none => rw [et] at e1; cases e1
    | some en1 =>
      rw [et] at e1
      have e1 : tgsT ts ds en1 = some env' := e1
      cases r with
      | cons ra rb =>
        rw [hs]
        refine assignInOrder_cons (thn (h1.pg.run pins s σ H v _ (fun σ1 H1 => H1 = H ∧ Co F B s' en1 σ1 G H c ∧ σ1.length = σ.length ∧ ∀ j, j ∉ i1 → σ1[j]? = σ[j]?) I ra ⟨B, s', env, G, c, d, en1, co, r1, et, fun σ' co' hl hj => ⟨rfl, co', hl, hj⟩⟩) fun _ s2 ⟨σ1, H1, I1, q1, co1, hl1, hj1⟩ => ?_)
        subst q1
        exact h2.pgs.run pins s2 _ _ vr _ Q I1 rb ⟨B, s', en1, G, c, ds, env', co1, r2, e1, fun σ' co' hl hj => k σ' co' (hl.trans hl1) fun j hn => (hj j fun z => hn (List.mem_append_right _ z)).trans (hj1 j fun z => hn (List.mem_append_left _ z))⟩⟩⟩
def nesT (ts : List Tg) : Tg := fun d env => match d with
  | .tup ds => tgsT ts ds env
  | .lst ds => tgsT ts ds env
  | _ => none
theorem stg_nes {es : List Expr} {k : Nat} {is : List Nat} {ts : List Tg} (hK : X.K = F.K) (hc : X.calm = true) (h : STgN F X es is ts) (hn : (assignEach es X.env).length = ts.length := by rfl) (hst : (assignEach es X.env).findIdx? (·.1) = none := by rfl) : STg F X (.Tuple es k pos) is (nesT ts) :=
  ⟨pg_imp (pg_or (pg_tup hc h.pgs hn hst) (pg_lst hc h.pgs hn hst)) fun v σ H Q ⟨B, s, env, G, c, d, env', co, r, e, kk⟩ => by
    cases d with
    | tup ds =>
      obtain ⟨a, vs, rfl, h2, h3⟩ := r
      rw [hK]
      exact .inl ⟨a, vs, rfl, Evl.ex_t co.bs.gh h2.sq, by rw [h3.length, tgsT_len e], B, s, env, G, c, ds, env', co, h3, e, kk⟩
    | lst ds =>
      obtain ⟨a, vs, rfl, h2, h3⟩ := r
      rw [hK]
      exact .inr ⟨a, vs, rfl, Evl.ex_l co.bs.gh (SqL.of h2), by rw [h3.length, tgsT_len e], B, s, env, G, c, ds, env', co, h3, e, kk⟩
    | _ => cases e⟩
/-! ### x += an int -/
def augS (i : Nat) (f : ES) : SS := fun env c => match env[i]? with
  | some (Sl.va (.int a)) => exS f (fun d env c => match d with
    | .int b => if i < env.length then .nx (env.set i (Sl.va (.int (a + b)))) c else .bad
    | _ => .bad) env c
  | _ => .bad
theorem ss_aug {i : Nat} {x : Str} {p' : Pos} {e : Expr} {f : ES} (hN : X.N.Nodup) (i' : Nat) (hii : i' = i) (h : SE F X W true e f) (hi : X.N[i]? = some x := by rfl) (hx : Loc X.env.scope x := by first | exact Or.inl rfl | exact Or.inr rfl) (hf : X.fn x = true ∨ X.env.scope.names.lookup x = some .local := by first | exact .inl rfl | exact .inr rfl) :
    SSt F X W z (.AugAssign (.Name x p') .Add e pos) (augS i f) := ⟨ps_imp (ps_aug hN hi hx h.pe ip_add hf) fun D σ H ⟨B, s, env, G, c, co, q⟩ => by
  unfold augS at q
  cases ei : env[i]? with
  | none => rw [ei] at q; exact q.elim
  | some y =>
    rw [ei] at q
    cases y with
    | no => exact q.elim
    | ow xs => exact q.elim
    | va d =>
      cases d with
      | int a =>
        obtain ⟨v, h1, h2⟩ := co.va i _ ei
        obtain rfl : v = .int a := h2
        refine ⟨.int a, h1, B, s, env, G, c, co, exS_wp co q fun d c' hq v G' H' n r => ?_⟩
        cases d with
        | int k =>
          obtain rfl := r.int
          have hq : wpS F W z B s G D (if i < env.length then .nx (env.set i (Sl.va (.int (a + k)))) c' else .bad) := hq
          by_cases hl : i < env.length
          · rw [if_pos hl] at hq
            exact ⟨a, k, rfl, rfl, hq s _ G' H' .rfl' n.g ((co.nxt n).set hl rfl)⟩
          · rw [if_neg hl] at hq
            exact hq.elim
        | _ => exact hq.elim
      | _ => exact q.elim⟩
/-! ### max(a list of ints, default=an int) -/
def maxI (k : Int) : List Int → Int
  | [] => k
  | n :: ns => ns.foldl max n
def rMaxD (K : PySem.W.Frag) : List V → List V → Hp → VK → Prop := fun xs zs H Q => ∃ (a : Addr) (ns : List Int) (k : Int), xs = [V.ref a] ∧ zs = [V.int k] ∧ SqL K H a (ns.map V.int) ∧ Q (.int (maxI k ns)) H
theorem cr_maxD {X : Cx} (hc : X.calm = true) (hu : X.A.units + 64 < cLine) : CallRK X (.builtin "max") [("default" : Str)] (rMaxD X.K) := by
  intro pins s σ H xs zs us ws Q I r r2 h
  obtain ⟨a, ns, k, rfl, rfl, hs, q⟩ := h
  obtain ⟨its, rv, pl, hz⟩ := I.list hs
  rw [Vals.ref1 r]
  obtain ⟨t, hw⟩ : ∃ t, ws = [.int k t] := by
    cases r2 with
    | cons r1 tl =>
      cases tl
      obtain ⟨t, rfl⟩ := r1
      exact ⟨t, rfl⟩
  subst hw
  have hr : ReadsAll s.heap its.toArray.toList (ns.map PyData.int) [] := reads_ints rv.ints
  refine PySem.W.max_list_default (I.ok.hd hc) pl.isList hr (alike_ints ns) (by rw [depth_ints]; omega) (fun h0 h' tk hk => ?_) fun y ys i v h' tk bs e hv hr' hk => ?_
  · have h0 : ns = [] := by simpa using h0
    subst h0
    exact ⟨.int k, H, I.kept hk, ⟨t, rfl⟩, q⟩
  · cases ns with
    | nil => cases e
    | cons n ns =>
      have e : PyData.int n :: ns.map .int = y :: ys := e
      obtain ⟨rfl, rfl⟩ := List.cons.inj e
      rw [PySem.W.maxD_ints] at hr'
      cases hr' with
      | int m t => exact ⟨.int _, H, I.kept hk, ⟨t, rfl⟩, q⟩
def maxX (k : Int) (d : FL.D) : Option FL.D := match d with
  | .lst ds => (intsO ds).map fun ns => .int (maxI k ns)
  | _ => none
def maxH (k : Int) := on1 (maxX k)
theorem se_maxD {e : Expr} {f : AS} {p pos kp kpos : Pos} {j : Nat} {k : Int} (hc : X.calm = true) (hK : X.K = F.K) (hu : X.A.units + 64 < cLine) (hg : Gl X "max") (hm : X.mg "max" = none) (ha : SA F X W true [e] f)
    (he : backTo pos (starEach [e] X.env) = (false, eval e X.env) :: backTo pos (starEach [] X.env) := by rfl) (hpl : (backTo pos (starEach [e] X.env)).any (·.1) = false := by rfl)
    (hall : (backToKw pos (keywordEach [⟨some "default", .Constant (.int k) j kp, kpos⟩] X.env)).all (·.1.isSome) = true := by rfl) (hnone : (backToKw pos (keywordEach [⟨some "default", .Constant (.int k) j kp, kpos⟩] X.env)).any (·.1.isNone) = false := by rfl)
    (hks : (backToKw pos (keywordEach [⟨some "default", .Constant (.int k) j kp, kpos⟩] X.env)).filterMap (·.1) = [("default" : Str)] := by rfl) :
    SE F X W b (.Call (.Name "max" p) [e] [⟨some "default", .Constant (.int k) j kp, kpos⟩] pos) (caE (maxH k) f) :=
  ⟨pe_imp (pe_callBK (cr_maxD hc hu) hg hm boot_max ha.pa (pk_cons pe_int pk_nil) (by decide) (by decide) he hpl hall hnone hks) fun σ H Q ⟨B, s, env, G, c, co, q⟩ =>
    ⟨B, s, env, G, c, co, wpR_mono (wpR_bnd q) (fun ds c1 h1 vs G1 H1 n1 r1 => by
      obtain ⟨res, eo, hq⟩ := wpR_lft h1
      show rMaxD X.K vs [.int k] H1 Q
      rw [hK]
      cases ds with
      | nil => cases eo
      | cons d ds =>
        cases ds with
        | cons _ _ => cases eo
        | nil =>
          obtain ⟨v, r, ev, h2, er⟩ := r1
          cases (show r = [] from er)
          cases d with
          | lst xs =>
            have eo : (intsO xs).map (fun ns => FL.D.int (maxI k ns)) = some res := eo
            obtain ⟨ns, en, rfl⟩ := Option.map_eq_some_iff.mp eo
            obtain ⟨a, us, rfl, k1, k2⟩ := h2.list n1.gh
            have := intsO_rep en k2
            subst this
            exact ⟨a, ns, k, ev, rfl, .inl (.inl k1), hq (.int (maxI k ns)) G1 H1 n1 (.inl rfl)⟩
          | _ => cases eo) fun _ _ x => x⟩⟩
end
end FL

set_option Elab.async false
set_option linter.all false
set_option maxRecDepth 100000
set_option maxHeartbeats 4000000
/-! G21: a tuple, not empty, times an int from 0 to 1000. -/
namespace FL
open PySem PySem.Spec L2 PyProof.Rows
theorem tuple_mul0 (l : Addr) (items : Array Value) (n : Nat) (dd : Option Addr) (sl : Array (Option Value)) (x : Int) (u : Tok) (c0 : (decide (x < -(2 ^ 63)) || decide (x ≥ 2 ^ 63)) = false) (c1 : (items.isEmpty || x == 1) = false) (c2 : (decide (x ≤ 0) || items.isEmpty) = true) :
    Meets (Builtin.«tuple.__mul__» ⟨[.ref l, .int x u], []⟩) (fun _ R s => s.heap.get? l = some { cls := .type "tuple", dict := dd, data := .seq items n, slots := sl } ∧
      R (.ok (.ret (Value.ref s.heap.objs.size))) { s with heap := s.heap.push { cls := Value.type "tuple", data := Data.seq #[] }, toks := s.toks }) :=
  .of_wp fun prog w A R s h => by
    obtain ⟨hp, g, d, tk, os⟩ := s
    obtain ⟨hl, h⟩ := h
    have f1 := AutoSeq1.idx_int
    wp_walk using wpAny_loadPart' hl
    repeat (first
      | (refine wpAny_ite_false (decide_eq_false (by rw [c0]; exact Bool.false_ne_true)) ?_; wp_walk using wpAny_loadPart' hl)
      | (refine wpAny_ite_false (decide_eq_false (by rw [c1]; exact Bool.false_ne_true)) ?_; wp_walk using wpAny_loadPart' hl)
      | (refine wpAny_ite_true (decide_eq_true c2) ?_; wp_walk using wpAny_loadPart' hl))
    exact ⟨_, rfl, h⟩
theorem tuple_mul1 (l : Addr) (items : Array Value) (n : Nat) (dd : Option Addr) (sl : Array (Option Value)) (x : Int) (u : Tok) (c0 : (decide (x < -(2 ^ 63)) || decide (x ≥ 2 ^ 63)) = false) (c1 : (items.isEmpty || x == 1) = true) :
    Meets (Builtin.«tuple.__mul__» ⟨[.ref l, .int x u], []⟩) (fun _ R s => s.heap.get? l = some { cls := .type "tuple", dict := dd, data := .seq items n, slots := sl } ∧ R (.ok (.ret (Value.ref l))) s) :=
  .of_wp fun prog w A R s h => by
    obtain ⟨hp, g, d, tk, os⟩ := s
    obtain ⟨hl, h⟩ := h
    have f1 := AutoSeq1.idx_int
    wp_walk using wpAny_loadPart' hl
    repeat (first
      | (refine wpAny_ite_false (decide_eq_false (by rw [c0]; exact Bool.false_ne_true)) ?_; wp_walk using wpAny_loadPart' hl)
      | (refine wpAny_ite_true (decide_eq_true c1) ?_; wp_walk using wpAny_loadPart' hl))
    exact ⟨_, rfl, h⟩
def rRepA (K : PySem.W.Frag) : R2 := fun x y H Q => ∃ l k xs, x = .ref l ∧ y = .int k ∧ SqT K H l xs ∧ xs ≠ [] ∧ 0 ≤ k ∧ k ≤ 1000 ∧ xs.length ≤ 1000 ∧ (k = 0 → ∀ p, H p = none → Q (.ref p) (upd H p (.tup []))) ∧ (k = 1 → Q (.ref l) H) ∧ (2 ≤ k → ∀ p, H p = none → Q (.ref p) (upd H p (.tup (List.replicate k.toNat xs).flatten)))
section
variable {X : Cx}
theorem op_repA : OpR X (binaryOp .Mult) (rRepA X.K) := by
  intro pins s σ H x y v u Q I rx ry h
  obtain ⟨l, k, xs, rfl, rfl, hT, hne, h1, h2, hz, q0, q1, q2⟩ := h
  by_cases g2 : 2 ≤ k
  · exact op_repT pins s σ H _ _ v u Q I rx ry ⟨l, k, xs, rfl, rfl, hT, hne, g2, h2, hz, q2 g2⟩
  cases rx
  obtain ⟨t, rfl⟩ := ry
  obtain ⟨its, r, ⟨⟨cls, dd, data, sl⟩, ho, hc, n, hd⟩, hs⟩ := I.tuple hT
  simp only at hc hd
  subst hc hd
  have hle : its.length = xs.length := r.length.symm
  have hn : its ≠ [] := fun e => hne (by
    rw [e] at hle
    exact List.eq_nil_of_length_eq_zero hle.symm)
  have hi : its.toArray.isEmpty = false := by
    cases its with
    | nil => exact absurd rfl hn
    | cons a b => rfl
  have c0 : (decide (k < -(2 ^ 63)) || decide (k ≥ 2 ^ 63)) = false := by
    rw [decide_eq_false (by omega), decide_eq_false (by omega)] <;> rfl
  by_cases g1 : k = 1
  · have c1 : (its.toArray.isEmpty || k == 1) = true := by
      rw [hi, Bool.false_or]
      exact beq_iff_eq.mpr g1
    exact wpAny_binaryOp_repeat_ref (T := "tuple") (U := "int") (by decide) ⟨_, ho, rfl⟩ (fun s' => typeIs_int s' k t) noFill_tuple_mul F.fills_int_mul F.slot_int_rmul repeat_tuple F.slot_int_index.lookup
      (call_meets F.slot_int_rmul (typeIs_int s k t) F.entry_int_rmul (F.args_int_rmul_2 _ _) (int_rmul_tuple k t l its.toArray n dd sl)
        ⟨ho, rfl, ⟨_, ho, rfl⟩, call_meets F.slot_tuple_mul ⟨_, ho, rfl⟩ F.entry_tuple_mul (F.args_tuple_mul_2 _ _) (tuple_mul1 l its.toArray n dd sl k t c0 c1) ⟨ho, .ref l, H, I, rfl, q1 g1⟩⟩)
  · have g0 : k = 0 := by omega
    have c1 : (its.toArray.isEmpty || k == 1) = false := by
      rw [hi, Bool.false_or]
      exact beq_eq_false_iff_ne.mpr g1
    have c2 : (decide (k ≤ 0) || its.toArray.isEmpty) = true := by
      rw [decide_eq_true (by omega)]
      rfl
    refine wpAny_binaryOp_repeat_ref (T := "tuple") (U := "int") (by decide) ⟨_, ho, rfl⟩ (fun s' => typeIs_int s' k t) noFill_tuple_mul F.fills_int_mul F.slot_int_rmul repeat_tuple F.slot_int_index.lookup
      (call_meets F.slot_int_rmul (typeIs_int s k t) F.entry_int_rmul (F.args_int_rmul_2 _ _) (int_rmul_tuple k t l its.toArray n dd sl)
        ⟨ho, rfl, ⟨_, ho, rfl⟩, call_meets F.slot_tuple_mul ⟨_, ho, rfl⟩ F.entry_tuple_mul (F.args_tuple_mul_2 _ _) (tuple_mul0 l its.toArray n dd sl k t c0 c1 c2) ⟨ho, ?_⟩⟩)
    refine ⟨.ref s.heap.objs.size, _, I.laid (t' := s.toks) (o := .tup []) (fun b ob q => Heap.get?_push_of_some _ q) (Nat.le_refl _) ?_, rfl, q0 g0 _ (I.hok.fresh (Nat.le_refl _))⟩
    exact ⟨by rw [sizeLine_eq]; exact Nat.zero_le _, _, .nil, IsTup.new _ _⟩
end
section
variable {F : FX}
theorem repL_rep {s : Option Addr} {G : Hp} {ds : List FL.D} {vs : List V} (h : RepL F s G ds vs) : ∀ n : Nat, RepL F s G (List.replicate n ds).flatten (List.replicate n vs).flatten
  | 0 => rfl
  | n + 1 => by
    rw [List.replicate_succ, List.replicate_succ, List.flatten_cons, List.flatten_cons]
    exact h.append (repL_rep h n)
def mulT (c : CT) (d1 d2 : FL.D) : Option FL.D := match d1 with
  | .tup xs => match d2 with
    | .int k => if xs ≠ [] ∧ 0 ≤ k ∧ k ≤ 1000 ∧ xs.length ≤ 1000 then some (.tup (List.replicate k.toNat xs).flatten) else none
    | _ => none
  | _ => none
theorem od_mulT : OpD F (rRepA F.K) mulT := ⟨fun s G H c d1 d2 v1 v2 res Q e vo r1 r2 eo w => by
  cases d1 with
  | tup xs =>
    cases d2 with
    | int k =>
      have eo : (if xs ≠ [] ∧ 0 ≤ k ∧ k ≤ 1000 ∧ xs.length ≤ 1000 then some (FL.D.tup (List.replicate k.toNat xs).flatten) else none) = some res := eo
      by_cases h : xs ≠ [] ∧ 0 ≤ k ∧ k ≤ 1000 ∧ xs.length ≤ 1000
      · rw [if_pos h] at eo
        cases eo
        obtain ⟨a, vs, e1, h2, h3⟩ := r1.tup e
        have l1 := h3.length
        refine ⟨a, k, vs, e1, r2.int, h2, fun z => h.1 ?_, h.2.1, h.2.2.1, by omega, fun z => ?_, fun z => ?_, fun _ => w.tup e vo (repL_rep h3 k.toNat)⟩
        · rw [z] at l1
          exact List.eq_nil_of_length_eq_zero (by simpa using l1.symm)
        · subst z
          exact w.tup e vo (ds := []) (vs := []) rfl
        · subst z
          have w : Want F s G H c (.tup (List.replicate 1 xs).flatten) Q := w
          rw [List.replicate_one, List.flatten_singleton] at w
          rw [← e1]
          rcases r1 with r1 | ⟨_, p, vs, ds, q, _⟩
          · exact w.now e vo r1
          · cases q
      · rw [if_neg h] at eo
        cases eo
    | _ => cases eo
  | _ => cases eo⟩
end
end FL

set_option Elab.async false
set_option linter.all false
set_option maxRecDepth 100000
set_option maxHeartbeats 2000000
/-! G22: try with several clauses, each 'except C as n: return e'. -/
namespace FL
open PySem PySem.Spec L2 PyProof.Rows
open PySem.W (exmOne)
open Evl (Ex)
/-- a clause: its class, its slot, its suite -/
abbrev Cls3 := Value × Nat × (Addr → Value → Option Addr → TS)
/-- what the named clauses wish of an exception, one after the other -/
def wNs (K : PySem.W.Frag) (Wout : WX) (D : Ends) : List Cls3 → WX
  | [] => Wout
  | (c, i, ts) :: r => fun cls d σ H => ∃ b, exmOne K cls c = some b ∧
      (b = true → ∀ a, H a = none → ts a cls d { nx := fun σ' H' => D.nx (σ'.set i none) H', rt := D.rt, bk := fun σ' H' => D.bk (σ'.set i none) H', ct := fun σ' H' => D.ct (σ'.set i none) H' } (σ.set i (some (.ref a))) H) ∧
      (b = false → wNs K Wout D r cls d σ H)
inductive NsOk (X : Cx) : List ExceptHandler → List Cls3 → Prop
  | nil : NsOk X [] []
  | cons {x n : Str} {c : Value} {i : Nat} {ts : Addr → Value → Option Addr → TS} {b₀ : Stmt} {suite : List Stmt} {np p' : Pos} {hds : List ExceptHandler} {l : List Cls3} (hc : Names X x c) (hi : X.N[i]? = some n) (hl : X.env.kindOf n = some .local)
      (hsu : ∀ (a : Addr) (oe : Obj) (cls : Value) (d : Option Addr) (pn : List (Addr × Obj)), Zc cls d oe → (∃ vs, oe.data = .fields vs) → PSs (X.suite a ((a, oe) :: pn)) (b₀ :: suite) (ts a cls d)) (r : NsOk X hds l) :
      NsOk X (.ExceptHandler (some (.Name x np)) (some n) (b₀ :: suite) p' :: hds) ((c, i, ts) :: l)
section
variable {X : Cx} {body : List Stmt} {h₀ : ExceptHandler} {hds : List ExceptHandler} {l : List Cls3} {pos : Pos} {tb : WX → TS} {Wout : WX}
theorem ps_trys (hs : X.stack = X.env :: X.outer) (hf : X.env.frame = some X.env.locals) (hN : X.N.Nodup) (tk : Takes X Wout)
    (hb : ∀ (W : WX) (pn : List (Addr × Obj)) (xe : Value → Shared → Prop), Takes (X.tr pn xe) W → PassesOwn (model X.prog X.w) X.A X.env xe → PSs (X.tr pn xe) body (tb W))
    (hh : NsOk X (h₀ :: hds) l) : PS X (.Try body (h₀ :: hds) [] [] pos) (fun D σ H => tb (wNs X.K Wout D l) D σ H) := by
  refine ⟨fun pins s σ H D I h => ?_⟩
  have ok := I.ok
  have hfr : X.A.frames = some (X.env :: X.outer) := by rw [ok.frames, hs]
  let after := fun e s₁ => wpAny (model X.prog X.w) X.A (noteFrame e X.env) (fun _ s₂ => wpAny (model X.prog X.w) X.A (setFlight e none) (fun _ s₃ => wpAny (model X.prog X.w) X.A (handleBy e X.env (h₀ :: hds)) (SP X pins D) X.xe s₃) X.xe s₂) X.xe s₁
  refine wpAny_Try_except ?_
  refine wpAny_mono ((hb (wNs X.K Wout D l) (X.pn ++ pins) after (fun u s' xx => ?_) PassesOwn.looking).run [] s σ H D (I.toTry _) h) (fun f s1 hsp => ?_) (fun e s1 he => he)
  · obtain ⟨a, B, sI, pins', σ', H', cls, d, rfl, J', nb, up, sky, na, os, ag, w⟩ := xx
    have J : Inv X pins σ' H' sI := J'.ofTry ok
    have sky' : Sky B (X.env :: X.outer) a (Zc cls d) X.env.locals s'.heap := by rw [← hs]; exact sky
    show wpAny (model X.prog X.w) X.A (noteFrame (.ref a) X.env) _ _ _
    refine Sky.land Zc.steady hfr hf sky' fun h3 fl3 up3 => ?_
    have J3 : Inv X pins σ' H' { s' with heap := h3 } := J.landed nb fl3.1 (up.trans up3) os ag
    obtain ⟨oe3, vs3, he3, hz3, hd3⟩ := fl3.there
    have nfr : a ∉ frs (X.env :: X.outer) := fun hm => by
      obtain ⟨_, o', e', hnf⟩ := fl3.2.2.1.mem hm
      rw [he3] at e'
      cases e'
      exact hnf _ hd3
    have nL : a ≠ X.env.locals := fun z => nfr (List.mem_filterMap.mpr ⟨X.env, List.mem_cons_self, by rw [hf, z]⟩)
    have nF : a ∉ X.fs := fun hm => by
      obtain ⟨e, he, q⟩ := List.mem_filterMap.mp hm
      exact nfr (List.mem_filterMap.mpr ⟨e, List.mem_cons_of_mem _ he, q⟩)
    have S3 := J3.suite he3 hd3 na nL nF
    have walk : ∀ {hs' : List ExceptHandler} {l' : List Cls3}, NsOk X hs' l' → wNs X.K Wout D l' cls d σ' H' → wpAny (model X.prog X.w) X.A (handleBy (.ref a) X.env hs') (SP X pins D) X.xe { s' with heap := h3 } := by
      intro hs' l' hk
      induction hk with
      | nil =>
        intro w
        refine wpAny_handleBy_nil ?_
        obtain ⟨_, _, _, oe, vs, T, oT, _, he, hz, hd, h1, _⟩ := id fl3
        unfold PySem.passOn
        refine wpAny_bind (wpAny_field he hd h1 ?_)
        rw [if_neg (show ¬ ((Value.ref T == Value.none) = true) from by simp)]
        have fin : wpAny (model X.prog X.w) X.A (setFlight (.ref a) X.env.frame) (fun _ s4 => wpAny (model X.prog X.w) X.A (throw (.ref a) : Sem Flow) (SP X pins D) X.xe s4) X.xe { s' with heap := h3 } := by
          rw [hf]
          exact HandSPX.setFlight_upZ fl3 fun h4 hh4 up4 => wpAny_throw (tk _ _ ⟨a, B, sI, pins, σ', H', cls, d, rfl, J, nb, (up.trans up3).trans up4, .inr (.inr (by rw [hs]; exact hh4)), na, os, ag, w⟩)
        first
          | exact wpAny_bind (wpAny_pure (wpAny_bind fin))
          | exact wpAny_bind fin
      | @cons x n c i ts b₀ suite np p' hds2 l2 hc hi hln hsu _ ih =>
        rintro ⟨b, hb1, yes, no⟩
        refine wpAny_handleBy_cons (codeAny_handlers_test ?_) (by intro q; cases q)
        have LT : PySem.W.Looks (model X.prog X.w) h3 (typeOf (.ref a)) cls := fun A Q E s k q => wpAny_typeOf_ref (k _ _ he3) (by rw [hz3.1]; exact q)
        have LM := PySem.W.exm_one (M := model X.prog X.w) (J3.kIn) LT hb1
        have test : ∀ {Q : Value → Shared → Prop} {E : Value → Shared → Prop}, Q c { s' with heap := h3 } → wpAny (model X.prog X.w) (X.A.mark (some (.ref a))) (eval (.Name x np) X.env) Q E { s' with heap := h3 } := fun {Q E} q => by
          obtain ⟨hg, hdbg, hm | ⟨hm, hv, hnn⟩⟩ := hc
          · exact ld_glob (X := X.suite a ((a, oe3) :: (X.pn ++ pins))) S3 hg hm q hdbg
          · exact ld_blt (X := X.suite a ((a, oe3) :: (X.pn ++ pins))) S3 hg hm hv q hnn hdbg
        refine test (LM.here ?_)
        cases b with
        | false =>
          show wpAny _ X.A (handleBy (.ref a) X.env hds2) _ _ _
          exact ih (no rfl)
        | true =>
          refine codeAny_handlers_suite_as ?_
          refine HandSPX.lands_againZ fl3 fun h4 fl4 up4 => ?_
          have J4 : Inv X pins σ' H' { s' with heap := h4 } := J.landed nb fl4.1 ((up.trans up3).trans up4) os ag
          obtain ⟨oe4, vs4, he4, hz4, hd4⟩ := fl4.there
          have S4 := J4.suite he4 hd4 na nL nF
          refine store_ok (X := X.suite a ((a, oe4) :: (X.pn ++ pins))) (v := .ref a) S4 hN hi (.inl hln) rfl (fun s5 S5 => ?_) (.inr hln)
          refine wpAny_mono ((hsu a oe4 cls d (X.pn ++ pins) hz4 ⟨_, hd4⟩).run [] s5 _ H' _ S5 (yes rfl a na)) (fun f s6 hsp => ?_) (fun _ _ z => False.elim z)
          have gone : ∀ {σ6 : L2.St} {H6 : Hp} {Q : Shared → Prop}, Inv (X.suite a ((a, oe4) :: (X.pn ++ pins))) [] σ6 H6 s6 → (∀ s7, Inv X pins (σ6.set i none) H6 s7 → Q s7) →
              wpAny (model X.prog X.w) X.A (do bindName X.env n .none; unbindBehindTheSuite X.env n p') (fun _ s7 => Q s7) X.xe s6 := fun {σ6 H6 Q} S6 hq => gone_ok (S6.unsuite ok) hN hi hln hq
          cases f with
          | ret u =>
            obtain ⟨v6, σ6, H6, S6, r6, q6⟩ := hsp
            exact gone S6 fun s7 J7 => ⟨_, _, _, J7, r6, q6⟩
          | next =>
            obtain ⟨σ6, H6, S6, q6⟩ := hsp
            exact gone S6 fun s7 J7 => ⟨_, _, J7, q6⟩
          | brk =>
            obtain ⟨σ6, H6, S6, q6⟩ := hsp
            exact gone S6 fun s7 J7 => ⟨_, _, J7, q6⟩
          | cont =>
            obtain ⟨σ6, H6, S6, q6⟩ := hsp
            exact gone S6 fun s7 J7 => ⟨_, _, J7, q6⟩
    exact walk hh w
  · cases f with
    | ret u =>
      obtain ⟨v, σ', H', J', r, q⟩ := hsp
      exact ⟨v, σ', H', J'.ofTry ok, r, q⟩
    | next =>
      obtain ⟨σ', H', J', q⟩ := hsp
      exact wpAny_execs_nil ⟨σ', H', J'.ofTry ok, q⟩
    | brk =>
      obtain ⟨σ', H', J', q⟩ := hsp
      exact ⟨σ', H', J'.ofTry ok, q⟩
    | cont =>
      obtain ⟨σ', H', J', q⟩ := hsp
      exact ⟨σ', H', J'.ofTry ok, q⟩
end
end FL

set_option Elab.async false
set_option linter.all false
set_option maxRecDepth 100000
set_option maxHeartbeats 2000000
/-! G37: defs called while an exception is handled; a def whose exceptions have no context. -/
namespace FL
open PySem PySem.Spec L2 PyProof.Rows
open PySem.W (takerIn findIn typeIn exmOne)
open Evl (Ex)
open L2H (RoomH HotC FnH cxH PIH Hot1)
section
variable {P : Program} {w : World} {F : FX} {mg : Str → Option Value} {base : Heap}
/-- what is left of a body's meaning when the def is done -/
theorem def_end {z : Bool} {s : Option Addr} {G H : Hp} {Q : VK} {E : XK} {N : List Str} {body : SS} {c : CT} {ds : List FL.D} {vs : List V} (e : Ex G H) (vo : Vol F s c G H) (r : RepL F s G ds vs) (hl : vs.length ≤ N.length)
    (q : wpD F z s G H Q E (defF N.length body ds c)) : tS F (fun cls d _ H' => E cls d H') z body { nx := fun _ H' => Q .non H', rt := Q } (L2.start N vs) H := by
  refine ⟨⟨s, G, H⟩, s, _, G, c, co_start e vo r hl, ?_⟩
  unfold defF at q
  cases e2 : body (ds.map Sl.va ++ List.replicate (N.length - ds.length) Sl.no) c with
  | nx en c' => rw [e2] at q; exact fun s1 σ' G' H' a _ b => q s1 .non G' H' a b.bs rfl
  | rt d c' => rw [e2] at q; exact q
  | ro xs c' => rw [e2] at q; exact fun s1 p vs' G' H' a b c1 c2 c3 c4 c5 => q s1 p vs' G' H' a b c1 c2 c3 c4 c5
  | ex x en c' => rw [e2] at q; exact fun s1 C dx fs σ' G' H' a _ b d' f' g' => q s1 C dx fs G' H' a b d'.bs f' g'
  | bk en c' => rw [e2] at q; exact q.elim
  | ct en c' => rw [e2] at q; exact q.elim
  | bad => rw [e2] at q; exact q.elim
/-- a def called while an exception is handled -/
theorem def_okH {x qual : Str} {st : Stmt} {f : Addr} {fd : FuncData} {N ps : List Str} {k : Nat} {z : Bool} {body : SS} (Fn : Fun F.K x qual st f fd) (S : FnScope N ps (defScope st)) (hl : ps.length ≤ N.length)
    (hb : ∀ (cdv : Value) (A : Around) (outer : List Env) (s : Shared) (H : Hp) (E : XK) (p : Addr × Obj), RoomH k (A.deeper (envOfC qual (defScope st) s.heap.objs.size f cdv)) → HotC (cxH (L2.CX P w) P w F.K mg base N qual (defScope st) f cdv A outer s H E p) →
      Takes (cxH (L2.CX P w) P w F.K mg base N qual (defScope st) f cdv A outer s H E p) (fun cls d _ H' => E cls d H') →
      SB F (cxH (L2.CX P w) P w F.K mg base N qual (defScope st) f cdv A outer s H E p) (fun cls d _ H' => E cls d H') z (defBody st) body) :
    FnH P w F.K mg base (L2.CX P w) (k + 1) f fd ps (spF F z ps.length (defF N.length body)) := by
  obtain ⟨oc, od, kV, doc, pm, an, cdv, ct, osl, rfl, lk, hcd⟩ := Fn.ex
  refine L2H.fn_ofH lk hcd S (fun vs H Q E h => h.1) fun A outer s H vs Q E p hot hr h => ?_
  obtain ⟨hlen, s', G, c, ds, e, vo, r, q⟩ := h
  exact ⟨_, (hb cdv A outer s H E p hr ⟨p, hot, List.mem_cons_self⟩ (takes_of rfl rfl rfl rfl)).pss, def_end e vo r (by rw [hlen]; exact hl) q⟩
/-- a def whose exceptions have no context -/
theorem def_okN {x qual : Str} {st : Stmt} {f : Addr} {fd : FuncData} {N ps : List Str} {k : Nat} {z : Bool} {body : SS} (Fn : Fun F.K x qual st f fd) (S : FnScope N ps (defScope st)) (hl : ps.length ≤ N.length)
    (hb : ∀ (cdv : Value) (A : Around) (outer : List Env) (s : Shared) (H : Hp) (E : XK), Room k (A.deeper (envOfC qual (defScope st) s.heap.objs.size f cdv)) →
      L2N.Takes (cxOf (L2N.CX P w) P w F.K mg base N qual (defScope st) f cdv A outer s H E) (fun cls d _ H' => E cls d H') →
      SB F (cxOf (L2N.CX P w) P w F.K mg base N qual (defScope st) f cdv A outer s H E) (fun cls d _ H' => E cls d H') z (defBody st) body) :
    FnOk P w F.K mg base (L2N.CX P w) (k + 1) f fd ps (spF F z ps.length (defF N.length body)) := by
  obtain ⟨oc, od, kV, doc, pm, an, cdv, ct, osl, rfl, lk, hcd⟩ := Fn.ex
  refine fn_of lk hcd S (fun vs H Q E h => h.1) fun A outer s H vs Q E hr h => ?_
  obtain ⟨hlen, s', G, c, ds, e, vo, r, q⟩ := h
  exact ⟨_, (hb cdv A outer s H E hr (L2N.takes_of rfl rfl rfl rfl)).pss, def_end e vo r (by rw [hlen]; exact hl) q⟩
theorem FnH.more {k j : Nat} {f : Addr} {fd : FuncData} {ps : List Str} {sp : Sp} {CX : CXT} (h : FnH P w F.K mg base CX k f fd ps sp) (hkj : k ≤ j) : FnH P w F.K mg base CX j f fd ps sp :=
  ⟨h.len, fun A outer s H args us vs Q E p hr => h.run A outer s H args us vs Q E p (hr.mono hkj)⟩
end
theorem owns_cxH {P : Program} {w : World} {K : PySem.W.Frag} {mg : Str → Option Value} {base : Heap} {N : List Str} {qual : Str} {scope : Scope} {f : Addr} {cd : Value} {A : Around} {outer : List Env} {s : Shared} {H : Hp} {E : XK} {p : Addr × Obj} :
    PassesOwn (model P w) (cxH (L2.CX P w) P w K mg base N qual scope f cd A outer s H E p).A (cxH (L2.CX P w) P w K mg base N qual scope f cd A outer s H E p).env (cxH (L2.CX P w) P w K mg base N qual scope f cd A outer s H E p).xe :=
  passes_of (X := cxH (L2.CX P w) P w K mg base N qual scope f cd A outer s H E p) (K := fun e s'' => L2.CX P w outer H s E e s'') (E₁ := fun e s'' => L2.CX P w outer H s E e s'') rfl
theorem RoomH.units {k : Nat} {A : Around} (r : RoomH k A) : A.units + 64 < cLine := by
  have := r.un
  omega
section
variable {F : FX} {X : Cx} {W : WX} {z b : Bool} {k np : Nat} {f : Addr} {fd : FuncData} {ps : List Str} {g : DS} {x : Str} {e : Expr} {es : List Expr} {a : AS} {p pos : Pos} {tg : Expr}
theorem se_callH (Fo : FnH X.prog X.w X.K X.mg X.base (L2.CX X.prog X.w) k f fd ps (spF F false np g)) (hr : RoomH k X.A) (hc : HotC X) (hg : Gl X x) (hm : X.mg x = some (.ref f)) (hk : PySem.W.keepIn X.K (.ref f) = true) (hb : Binds X.K fd ps []) (tk : Takes X W)
    (ha : SA F X W false (e :: es) a) (hn : AL np a) (hdb : (x == ("__debug__" : Str)) = false := by decide) (he : starEach (e :: es) X.env = (false, eval e X.env) :: starEach es X.env := by rfl) (hpl : (backTo pos (starEach es X.env)).any (·.1) = false := by rfl) :
    SE F X W b (.Call (.Name x p) (e :: es) [] pos) (callE g a) := ⟨pe_imp (L2H.pe_callH Fo hr hc hg hm hk hb (fun σ => passAt tk σ) ha.pa hdb he hpl) fun _ _ _ h => tX_call hn h⟩
theorem se_callN (Fo : FnOk X.prog X.w X.K X.mg X.base (L2N.CX X.prog X.w) k f fd ps (spF F false np g)) (hr : Room k X.A) (hg : Gl X x) (hm : X.mg x = some (.ref f)) (hk : PySem.W.keepIn X.K (.ref f) = true) (hb : Binds X.K fd ps []) (tk : L2N.Takes X W)
    (ha : SA F X W false (e :: es) a) (hn : AL np a) (hdb : (x == ("__debug__" : Str)) = false := by decide) (he : starEach (e :: es) X.env = (false, eval e X.env) :: starEach es X.env := by rfl) (hpl : (backTo pos (starEach es X.env)).any (·.1) = false := by rfl) :
    SE F X W b (.Call (.Name x p) (e :: es) [] pos) (callE g a) := ⟨pe_imp (pe_callS Fo hr hg hm hk hb (fun σ => L2N.passAt tk σ) ha.pa hdb he hpl) fun _ _ _ h => tX_call hn h⟩
structure SIH (F : FX) (X : Cx) (W : WX) (tg iter : Expr) (f : AS) : Prop where
  pi : PIH X tg iter (tI F W f)
theorem pih_imp {iter : Expr} {t t' : TI} (h : PIH X tg iter t) (i : ∀ σ H R, t' σ H R → t σ H R) : PIH X tg iter t' := ⟨fun pins s σ H R I q => h.run pins s σ H R I (i σ H R q)⟩
theorem si_range1H {a : Expr} {f : AS} (hg : Gl X "range") (hm : X.mg "range" = none) (ha : SA F X W true [a] f) (hs : starEach [a] X.env = [(false, eval a X.env)] := by rfl) : SIH F X W tg (.Call (.Name "range" p) [a] [] pos) (rng1E f) := by
  refine ⟨pih_imp (L2H.pi_range1H hg hm ha.pa hs) fun σ H R ⟨B, s, env, G, c, co, q⟩ => ⟨B, s, env, G, c, co, wpR_mono (wpR_bnd q) (fun ds c1 h1 vs G1 H1 n1 r1 => ?_) fun _ _ x => x⟩⟩
  match ds, h1, r1 with
  | [.int j], h1, ⟨v, r, ev, h2, er⟩ =>
    cases (show r = [] from er)
    obtain rfl := h2.int
    by_cases hj : -(2 ^ 62) ≤ j ∧ j < 2 ^ 62
    · have h1 : wpR ((if -(2 ^ 62) ≤ j ∧ j < 2 ^ 62 then ret (rangeD 0 j.toNat) else bad) c1) _ _ := h1
      rw [if_pos hj] at h1
      exact ⟨j, ev, hj.1, hj.2, h1 _ _ G1 H1 n1 itd_range trivial⟩
    · have h1 : wpR ((if -(2 ^ 62) ≤ j ∧ j < 2 ^ 62 then ret (rangeD 0 j.toNat) else bad) c1) _ _ := h1
      rw [if_neg hj] at h1
      exact h1.elim
theorem ss_forH {iter : Expr} {body : List Stmt} {it : AS} {ts : List Nat} {t : Tg} {f : SS} (hp : PassesOwn (model X.prog X.w) X.A X.env X.xe) (hc : HotC X) (hi : SIH F X W tg iter it) (hg : STg F X tg ts t) (hb : SB F X W z body f)
    (hs : ∀ x, foldedSetIterable iter X.env x = pure x := by intro _; rfl) : SSt F X W z (.For tg iter body [] pos) (forS it t f) := ⟨ps_imp (L2H.ps_forH hp hc hi.pi hg.pg hb.pss hs) fun D σ H h => tS_for h⟩
end
end FL

set_option Elab.async false
set_option linter.all false
set_option maxRecDepth 100000
set_option maxHeartbeats 2000000
/-! G38: raising an own exception without a context. -/
namespace FL
section
open PySem PySem.Spec PySem.W PySem.Calls L2 PyProof.Rows Builtin Builtin.ObjectAttr
variable {X : Cx} {o e : Expr} {es : List Expr} {to te : TE} {ta : TA} {f : Str} {p p' pos : Pos}
theorem pmk_oxeN {CX : CXT} {x : Str} {C fI : Addr} {k : Nat} {fd : FuncData} {ps : List Str} {sp : Sp} (T : OexE X.K C) (iC : findIn X.K (.ref C) "__init__" = some (some (.ref fI))) (tI : typeIn X.K (.ref fI) = some (.type "function"))
    (F1 : FnOk X.prog X.w X.K X.mg X.base CX k fI fd ps sp) (hr : Room (k + 1) X.A) (hb : Binds X.K fd ps []) (hx : Passes CX X (fun _ _ _ => False)) (hg : Gl X x) (hm : X.mg x = some (.ref C)) (ha : PA X (e :: es) ta)
    (hdb : (x == ("__debug__" : Str)) = false := by decide) (he : starEach (e :: es) X.env = (false, eval e X.env) :: starEach es X.env := by rfl) (hpl : (backTo pos (starEach es X.env)).any (·.1) = false := by rfl) :
    L2N.PMk X (.Call (.Name x p) (e :: es) [] pos) (tMkE C sp ta) := by
  intro pins s σ H Q I h
  refine wpAny_Call_Name_kw (ld_glob I hg hm ?_ hdb)
  refine callWith_K (h₀ := X.base) I.ok.mod.kin T.kC (thn (ha.run pos pins s σ H _ I h) fun us s1 ⟨vs, H1, I1, r1, hz, q1⟩ => ⟨I1.kIn, ?_⟩) he hpl
  show wpAny _ _ (call (.ref C) us) _ _ _
  obtain ⟨nm, N, qn, bs, bm, hdct, sn, sub, ab, col, dd, k0, k1, k2, k3, k5, hC, hT⟩ := excInit_of I1.kIn T.ini
  obtain ⟨hp, g, dr, tk, os⟩ := s1
  have hsz : hp.objs.size ≤ hp.objs.size + 1 := Nat.le_succ _
  have hq := q1 (hp.objs.size + 1) (I1.hok.fresh hsz)
  have kk : ∀ b o, hp.get? b = some o → ((hp.push (kdv_tup us)).push (PySem.HandSPX.excO C hp.objs.size)).get? b = some o := fun b o e => Heap.get?_push_of_some _ (Heap.get?_push_of_some _ e)
  have hget : ((hp.push (kdv_tup us)).push (PySem.HandSPX.excO C hp.objs.size)).get? (hp.objs.size + 1) = some (PySem.HandSPX.excO C hp.objs.size) := by heap_get
  have I2 : Inv X pins σ (upd H1 (hp.objs.size + 1) (exo (hp.objs.size + 1) C none)) ⟨(hp.push (kdv_tup us)).push (PySem.HandSPX.excO C hp.objs.size), g, dr, tk, os⟩ :=
    I1.laid (t' := tk) (a := hp.objs.size + 1) (o := exo (hp.objs.size + 1) C none) (h' := (hp.push (kdv_tup us)).push (PySem.HandSPX.excO C hp.objs.size)) kk hsz (exo_ok hget)
  have r2 : Vals (V.ref (hp.objs.size + 1) :: vs) (Value.ref (hp.objs.size + 1) :: us) := .cons rfl r1
  have hl : (Value.ref (hp.objs.size + 1) :: us).length = ps.length := by
    have e := r2.length
    rw [F1.len _ _ _ _ hq] at e
    exact e.symm
  have hus : us.length ≤ sizeLine := by
    rw [← Paired.length r1, sizeLine_eq]
    omega
  have hb2 := hb _ (Value.ref (hp.objs.size + 1) :: us) I2.kIn (by rw [List.append_nil]; exact hl)
  rw [List.append_nil] at hb2
  refine wpAny_call (PySem.HandSPX.call_own PySem.F.excBase_Exception hT hC (looks_findIn I1.kIn iC) (fun self => bind_fn I1.kIn self tI) hus
    (codeAny_mono (F1.run _ X.stack _ _ ⟨Value.ref (hp.objs.size + 1) :: us, []⟩ (Value.ref (hp.objs.size + 1) :: us) _ _ (fun _ _ _ => False) (hr.make C us []) (I2.env0.make C us []) hb2 r2 hq) fun r s' hq' => ?_))
  cases r with
  | error er => exact hx pins σ _ _ er s' I2 hq'
  | ok fl =>
    cases fl with
    | ret u =>
      obtain ⟨v, H2, os2, bare2, un2, hok2, rv, ev, d, fs, ea, ed, hd1, q2⟩ := hq'
      subst ev
      obtain ⟨h2, g2, d2, t2, os'⟩ := s'
      obtain ⟨t0, G, J, kG, ge, hoe, na⟩ := mk_end0 (d2 := d2) (t2 := t2) I1 hsz kk un2 hok2 os2 bare2 ea ed hd1
      have ctx : PXN.CtxN ({ cls := .ref C, dict := some d, data := .fields #[.ref t0, .none, .none, .none, .bool false, .none] } : Obj) := fun vs hv => by cases hv; rfl
      exact ⟨rv, ⟨hp.objs.size + 1, _, _, ⟨G, g2, d2, t2, os'⟩, _, .ref C, some d, rfl, J, kG, ge, hoe, ⟨rfl, rfl, ctx⟩, rfl, rfl, na, rfl, bare2, raises_own T.exC T.tyC, q2⟩⟩
    | next => exact False.elim hq'
    | brk => exact False.elim hq'
    | cont => exact False.elim hq'
end
section
open PySem PySem.Spec L2 PyProof.Rows
open PySem.W (takerIn findIn typeIn)
open Evl (Ex)
variable {F : FX} {X : Cx} {W : WX} {z : Bool} {x : Str} {C fI : Addr} {k : Nat} {fd : FuncData} {ps fs : List Str} {e : Expr} {es : List Expr} {f : AS} {p pos pos' : Pos} {cls : Str}
theorem ss_raiseN (hc : X.calm = true) (tk : L2N.Takes X W) (hK : X.K = F.K) (T : OexE X.K C) (ht : ∀ f ∈ fs, takerIn X.K C f = some none) (iC : findIn X.K (.ref C) "__init__" = some (some (.ref fI))) (tI : typeIn X.K (.ref fI) = some (.type "function"))
    (F1 : FnOk X.prog X.w X.K X.mg X.base (L2.CX X.prog X.w) k fI fd ps (spI X.K fs)) (hr : Room (k + 1) X.A) (hb : Binds X.K fd ps []) (hg : Gl X x) (hm : X.mg x = some (.ref C)) (hcl : F.CL cls = some C) (hfs : fs.length ≤ 1000) (ha : SA F X W false (e :: es) f)
    (hdb : (x == ("__debug__" : Str)) = false := by decide) (he : starEach (e :: es) X.env = (false, eval e X.env) :: starEach es X.env := by rfl) (hpl : (backTo pos (starEach es X.env)).any (·.1) = false := by rfl) :
    SSt F X W z (.Raise (some (.Call (.Name x p) (e :: es) [] pos)) none pos') (raiseS cls fs f) := by
  have hx : Passes (L2.CX X.prog X.w) X (fun _ _ _ => False) := fun _ _ _ _ _ _ _ ⟨_, _, _, _, _, _, _, _, _, _, _, _, h⟩ => h.elim
  refine ⟨ps_imp (L2N.ps_raise hc tk (pmk_oxeN (CX := L2.CX X.prog X.w) T iC tI F1 hr hb hx hg hm ha.pa hdb he hpl)) fun D σ H ⟨B, s, env, G, c, co, q⟩ => ⟨B, s, env, G, c, co, exS_wp co q fun ds c' h vs G' H' n r => ?_⟩⟩
  have rs := r.strict
  by_cases hl : ds.length = fs.length
  · rw [if_pos hl] at h
    have hvl : vs.length = fs.length := by rw [rs.length]; exact hl
    refine ⟨by rw [hvl]; exact hfs, fun a na => ⟨a, C, vs, rfl, hvl, T, ht, upd_same, fun dx hdx ne => ⟨rfl, dx, _, upd_same, by rw [upd_ne ne, upd_same], ?_, ?_⟩⟩⟩
    · rw [upd_ne ne] at hdx
      exact hdx
    · rw [upd_ne ne] at hdx
      have ee : upd (del (upd (upd (upd H' a (exo a C none)) dx (exd dx (fs.zip vs).reverse)) a (exo a C (some dx))) a) dx (.xd (fs.zip vs).reverse) = upd H' dx (.xd (fs.zip vs).reverse) := by
        funext b
        by_cases hb : b = dx
        · rw [hb, upd_same, upd_same]
        · rw [upd_ne hb, upd_ne hb]
          by_cases hc : b = a
          · rw [hc, del_same, na]
          · rw [del_ne hc, upd_ne hc, upd_ne hb, upd_ne hc]
      rw [ee]
      have n2 := n.new (o := .xd (fs.zip vs).reverse) hdx
      refine h s C dx (fs.zip vs).reverse σ _ _ .rfl' n2.g hcl (co.nxt n2) upd_same ⟨?_, ?_⟩
      · rw [List.map_reverse, List.map_reverse, List.map_fst_zip (by omega), List.map_fst_zip (by omega)]
      · rw [List.map_reverse, List.map_reverse, List.map_snd_zip (by omega), List.map_snd_zip (by omega)]
        exact RepL.reverse (RepL.mono ((Nxt.refl n.gh n.vo).new (o := .xd (fs.zip vs).reverse) hdx).g (fun _ x => x) _ _ rs)
  · rw [if_neg hl] at h
    exact h.elim
end
section
open PySem PySem.Spec L2 PyProof.Rows
open Evl (Ex)
variable {F : FX} {X : Cx} {W : WX} {z : Bool} {x : Str} {fs : List Str} {st : Stmt} {e : Expr} {es : List Expr} {f : AS} {p pos pos' : Pos} {cls : Str}
theorem ss_raiseMN (h : ∃ C fI fd, ExcOk X.prog F X.mg X.base cls fs st C fI fd) (hi : ∀ C fI fd, ExcOk X.prog F X.mg X.base cls fs st C fI fd → FnOk X.prog X.w X.K X.mg X.base (L2.CX X.prog X.w) 1 fI fd (("self" : Str) :: fs) (spI X.K fs)) (hc : X.calm = true) (tk : L2N.Takes X W) (hK : X.K = F.K) (hr : Room 2 X.A)
    (hg : Gl X cls) (ha : SA F X W false (e :: es) f) (hfs : fs.length ≤ 1000 := by decide) (hdb : (cls == ("__debug__" : Str)) = false := by decide) (he : starEach (e :: es) X.env = (false, eval e X.env) :: starEach es X.env := by rfl) (hpl : (backTo pos (starEach es X.env)).any (·.1) = false := by rfl) :
    SSt F X W z (.Raise (some (.Call (.Name cls p) (e :: es) [] pos)) none pos') (raiseS cls fs f) := by
  obtain ⟨C, fI, fd, E⟩ := h
  exact ss_raiseN hc tk hK (by rw [hK]; exact E.oe) (by rw [hK]; exact E.tk) (by rw [hK]; exact E.ini) (by rw [hK]; exact E.ty) (hi C fI fd E) hr (by rw [hK]; exact E.bi) hg E.mg E.cl hfs ha hdb he hpl
end
end FL

set_option Elab.async false
set_option linter.all false
set_option maxRecDepth 100000
set_option maxHeartbeats 2000000
/-! G39: an except suite that asks its exception: isinstance, fields, calls and loops; the exception stands in its slot as data. -/
namespace FL
open PySem PySem.Spec L2 PyProof.Rows
open PySem.W (findIn specialIn takesIn mroIn kitOne exmOne)
open Evl (Ex)
open L2H (RoomH HotC FnH cxH PIH Hot1)
/-! ### what is known of the classes -/
def excCB (K : PySem.W.Frag) (D : Addr) : Bool := xfB K D && (decide (findIn K (.ref D) "__class__" = some (some (.builtin "object.__class__"))) && (decide (specialIn K (.builtin "object.__class__") "__get__" = some (some (.builtin "getset_descriptor.__get__"))) &&
  (decide (takesIn K (.builtin "object.__class__") = some true) && decide (mroIn K D (.type "object") = some true))))
theorem excCB_ok {K : PySem.W.Frag} {D : Addr} (h : excCB K D = true) : ExcC K D := by
  obtain ⟨h1, h⟩ := Bool.and_eq_true_iff.mp h
  obtain ⟨h2, h⟩ := Bool.and_eq_true_iff.mp h
  obtain ⟨h3, h⟩ := Bool.and_eq_true_iff.mp h
  obtain ⟨h4, h5⟩ := Bool.and_eq_true_iff.mp h
  have q := xfB_ok h1
  exact ⟨q.ga, q.gg, q.exC, q.hdC, of_decide_eq_true h2, of_decide_eq_true h3, of_decide_eq_true h4, of_decide_eq_true h5⟩
theorem excC_xf {K : PySem.W.Frag} {D : Addr} (h : ExcC K D) : XfC K D := ⟨h.hg, h.hk, h.hs, h.hd⟩
/-- the built-in classes that are asked for -/
def isTs : List String := ["ValueError", "LookupError", "ArithmeticError"]
/-- the fields -/
def isFs : List Str := ["at", "layer", "word"]
def kxB (m : Md) (K : PySem.W.Frag) : Bool := m.ecs.all fun p => excCB K (He.ga K p.1) && (isFs.all (fun n => decide (findIn K (.ref (He.ga K p.1)) n = some none)) && (m.ecs.all (fun q => decide (kitOne K (.ref (He.ga K p.1)) (.ref (He.ga K q.1)) = some (decide (p.1 = q.1)))) &&
  isTs.all fun t => decide (kitOne K (.ref (He.ga K p.1)) (.type t) = some false)))
structure KXs (m : Md) (F : FX) : Prop where
  ex : ∀ x C, F.CL x = some C → ExcC F.K C
  no : ∀ x C, F.CL x = some C → ∀ n ∈ isFs, findIn F.K (.ref C) n = some none
  ki : ∀ x y C C2, F.CL x = some C → F.CL y = some C2 → kitOne F.K (.ref C) (.ref C2) = some (decide (x = y))
  kt : ∀ x C, F.CL x = some C → ∀ t ∈ isTs, kitOne F.K (.ref C) (.type t) = some false
  nm : ∀ x C, F.CL x = some C → ∃ p ∈ m.ecs, p.1 = x
theorem kxs_of {m : Md} {F : FX} {K : PySem.W.Frag} (hK : F.K = K) (hC : F.CL = m.cl K) (h : kxB m K = true) : KXs m F := by
  obtain ⟨K', TL, CL, w⟩ := F
  have hK : K' = K := hK
  have hC : CL = m.cl K := hC
  subst hK
  subst hC
  have at_ : ∀ x C, m.cl K' x = some C → ∃ p ∈ m.ecs, p.1 = x ∧ C = He.ga K' p.1 := fun x C e => by
    unfold Md.cl at e
    by_cases hm : (m.ecs.map (·.1)).contains x = true
    · rw [if_pos hm] at e
      obtain ⟨p, hp, rfl⟩ : ∃ p ∈ m.ecs, p.1 = x := by simpa using hm
      exact ⟨p, hp, rfl, (Option.some.inj e).symm⟩
    · rw [if_neg hm] at e
      cases e
  have key : ∀ p ∈ m.ecs, excCB K' (He.ga K' p.1) = true ∧ (∀ n ∈ isFs, findIn K' (.ref (He.ga K' p.1)) n = some none) ∧ (∀ q ∈ m.ecs, kitOne K' (.ref (He.ga K' p.1)) (.ref (He.ga K' q.1)) = some (decide (p.1 = q.1))) ∧ ∀ t ∈ isTs, kitOne K' (.ref (He.ga K' p.1)) (.type t) = some false := fun p hp => by
    have q := List.all_eq_true.mp h p hp
    obtain ⟨q1, q⟩ := Bool.and_eq_true_iff.mp q
    obtain ⟨q2, q⟩ := Bool.and_eq_true_iff.mp q
    obtain ⟨q3, q4⟩ := Bool.and_eq_true_iff.mp q
    exact ⟨q1, fun n hn => of_decide_eq_true (List.all_eq_true.mp q2 n hn), fun n hn => of_decide_eq_true (List.all_eq_true.mp q3 n hn), fun n hn => of_decide_eq_true (List.all_eq_true.mp q4 n hn)⟩
  refine ⟨fun x C e => ?_, fun x C e => ?_, fun x y C C2 e e2 => ?_, fun x C e => ?_, fun x C e => ?_⟩
  · obtain ⟨p, hp, rfl, rfl⟩ := at_ x C e
    exact excCB_ok (key p hp).1
  · obtain ⟨p, hp, rfl, rfl⟩ := at_ x C e
    exact (key p hp).2.1
  · obtain ⟨p, hp, rfl, rfl⟩ := at_ x C e
    obtain ⟨p2, hp2, rfl, rfl⟩ := at_ y C2 e2
    exact (key p hp).2.2.1 p2 hp2
  · obtain ⟨p, hp, rfl, rfl⟩ := at_ x C e
    exact (key p hp).2.2.2
  · obtain ⟨p, hp, rfl, rfl⟩ := at_ x C e
    exact ⟨p, hp, rfl⟩
/-! ### the slot -/
def exnE (i : Nat) (a dd : Addr) (k : Str → List Str → List FL.D → M FL.D) : ES := fun env c => match env[i]? with
  | some (Sl.va (.exn a' dd' x ns ds)) => if a' = a ∧ dd' = dd then k x ns ds c else .bad
  | _ => .bad
theorem exnE_wp {F : FX} {B : St0} {s : Option Addr} {env : En} {σ : L2.St} {G H : Hp} {c : CT} {i : Nat} {a dd : Addr} {k : Str → List Str → List FL.D → M FL.D} {P : FL.D → CT → Prop} {E : Exn → CT → Prop} (co : Co F B s env σ G H c) (h : wpR (exnE i a dd k env c) P E) :
    ∃ x ns ds fs, σ[i]? = some (some (V.ref a)) ∧ G dd = some (.xd fs) ∧ fs.map (fun p => p.1) = ns ∧ RepL F s G ds (fs.map fun p => p.2) ∧ wpR (k x ns ds c) P E := by
  unfold exnE at h
  split at h
  · rename_i a' dd' x ns ds e
    by_cases q : a' = a ∧ dd' = dd
    · rw [if_pos q] at h
      obtain ⟨rfl, rfl⟩ := q
      obtain ⟨v, e1, e2, fs, e3, e4, e5⟩ := co.va _ _ e
      subst e2
      exact ⟨x, ns, ds, fs, e1, e3, e4, e5, h⟩
    · rw [if_neg q] at h
      exact h.elim
  · exact h.elim
def isxE (i : Nat) (a dd : Addr) (b : Bool) : ES := exnE i a dd fun _ _ _ => ret (.bl b)
def xfE (i : Nat) (a dd : Addr) (n : Str) : ES := exnE i a dd fun _ ns ds => lft ((ns.zip ds).lookup n)
/-- isinstance(e, c), e the exception that the suite holds, its dict at dd -/
def rIsX (K : PySem.W.Frag) (C a dd : Addr) : List V → Hp → VK → Prop := fun xs H Q => ∃ (c : V) (cv : Value) (b : Bool) (fs : List (Str × V)), xs = [.ref a, c] ∧ (∀ u, RelV c u → u = cv) ∧ kitOne K (.ref C) cv = some b ∧ H dd = some (.xd fs) ∧ Q (.bl b) H
theorem call_isX {X : Cx} {a C dd : Addr} {oe : Obj} {pn : List (Addr × Obj)} (T : ExcC X.K C) (hz : Zc (.ref C) (some dd) oe) (hf : ∃ vs, oe.data = .fields vs) : CallR (X.suite a ((a, oe) :: pn)) (.builtin "isinstance") (rIsX X.K C a dd) := by
  intro pins s σ H xs us Q I r h
  obtain ⟨c, cv, b, fs, rfl, hcv, e, ea, q⟩ := h
  cases r with
  | cons rx rr =>
    cases rr with
    | cons rt rr =>
      cases rr
      cases rx
      have ec := hcv _ rt
      subst ec
      obtain ⟨hget, _⟩ := I.pin (a, oe) (List.mem_append.mpr (.inl List.mem_cons_self))
      obtain ⟨vs, hv⟩ := hf
      have hx : ObjOk X.prog X.w H s.heap dd (.xd fs) := I.hok dd _ ea
      obtain ⟨mA, hns, hr⟩ := hx
      obtain ⟨od, ho, hl⟩ := lookIn_ns hns
      have J : PySem.W.InstAt s.heap a oe C (some od) := ⟨hget, hz.1, by unfold PySem.W.notCls; rw [hv] <;> rfl, by rw [hz.2]; exact ho⟩
      have hcl : (PySem.W.clsIn X.K C).isSome = true := by
        obtain ⟨cd, hc, _⟩ := PySem.W.any_some T.hd
        rw [hc]; rfl
      exact PySem.W.kia_one (PySem.W.kitx_exc hcl T.hg T.hk T.hs T.ha T.hn T.ht T.hm) I.kIn J e (fun z => nomatch z) fun tk => ⟨.bl b, H, I.kept (t' := tk) fun _ _ z => z, rfl, q⟩
section
variable {F : FX} {X : Cx} {W : WX} {b : Bool} {m : Md} {i : Nat} {a C dd : Addr} {oe : Obj} {pn : List (Addr × Obj)} {x : Str} {n y : Str} {p p1 p2 pos : Pos}
/-- isinstance(e, c), by what the class's name gives -/
theorem se_isX0 {cv : V} {u : Value} {b' : Bool} (T : ExcC X.K C) (hz : Zc (.ref C) (some dd) oe) (hf : ∃ vs, oe.data = .fields vs) (hu : ∀ w, RelV cv w → w = u) (hk : kitOne X.K (.ref C) u = some b') (hg : Gl (X.suite a ((a, oe) :: pn)) "isinstance") (hm : X.mg "isinstance" = none)
    (he : PE (X.suite a ((a, oe) :: pn)) (.Name n p1) (tVar i)) (h2 : PE (X.suite a ((a, oe) :: pn)) (.Name y p2) (tC cv)) : SE F (X.suite a ((a, oe) :: pn)) W b (.Call (.Name "isinstance" p) [.Name n p1, .Name y p2] [] pos) (isxE i a dd b') :=
  ⟨pe_imp (pe_callB (call_isX T hz hf) hg hm boot_isinstance (pa_cons he (pa_cons h2 pa_nil rfl) rfl) (by decide) (by decide) rfl rfl) fun σ H Q ⟨B, s, env, G, c, co, q⟩ => by
    obtain ⟨x, ns, ds, fs, e1, e2, e3, e4, q⟩ := exnE_wp co q
    exact ⟨.ref a, e1, cv, u, b', fs, rfl, hu, hk, co.bs.gh _ _ e2, q _ _ _ co.rfl (.inl rfl)⟩⟩
theorem se_isXc (q : Str × List Str × Nat) {st : Stmt} (h : ∃ C2 fI fd, ExcOk X.prog F X.mg X.base q.1 q.2.1 st C2 fI fd) (Y : KXs m F) (hK : X.K = F.K) (hz : L2N.Zn (.ref C) (some dd) oe) (hf : ∃ vs, oe.data = .fields vs) (hx : F.CL x = some C)
    (hg : Gl (X.suite a ((a, oe) :: pn)) "isinstance") (hm : X.mg "isinstance" = none) (hgc : Gl (X.suite a ((a, oe) :: pn)) q.1) (he : PE (X.suite a ((a, oe) :: pn)) (.Name n p1) (tVar i)) (hdb : (q.1 == ("__debug__" : Str)) = false := by decide) :
    SE F (X.suite a ((a, oe) :: pn)) W b (.Call (.Name "isinstance" p) [.Name n p1, .Name q.1 p2] [] pos) (isxE i a dd (decide (x = q.1))) := by
  obtain ⟨C2, fI, fd, E⟩ := h
  exact se_isX0 (cv := .ref C2) (u := .ref C2) (by rw [hK]; exact Y.ex x C hx) hz.zc hf (fun w r => r) (by rw [hK]; exact Y.ki x q.1 C C2 hx E.cl) hg hm he (pe_glob hgc E.mg rfl hdb)
theorem se_isXt (t : String) (Y : KXs m F) (hK : X.K = F.K) (hz : L2N.Zn (.ref C) (some dd) oe) (hf : ∃ vs, oe.data = .fields vs) (hx : F.CL x = some C) (ht : t ∈ isTs)
    (hg : Gl (X.suite a ((a, oe) :: pn)) "isinstance") (hm : X.mg "isinstance" = none) (hgc : Gl (X.suite a ((a, oe) :: pn)) y) (hmc : X.mg y = none) (hv : bootBuiltins y = some (.type t)) (he : PE (X.suite a ((a, oe) :: pn)) (.Name n p1) (tVar i)) (hn : y ≠ "__name__" := by decide) (hdb : (y == ("__debug__" : Str)) = false := by decide) :
    SE F (X.suite a ((a, oe) :: pn)) W b (.Call (.Name "isinstance" p) [.Name n p1, .Name y p2] [] pos) (isxE i a dd false) :=
  se_isX0 (cv := .ty t) (u := .type t) (by rw [hK]; exact Y.ex x C hx) hz.zc hf (fun w r => r) (by rw [hK]; exact Y.kt x C hx t ht) hg hm he (pe_bltn hgc hmc hv rfl hn hdb)
/-- e.n -/
theorem se_xfX {f : Str} (Y : KXs m F) (hK : X.K = F.K) (hz : L2N.Zn (.ref C) (some dd) oe) (hf : ∃ vs, oe.data = .fields vs) (hx : F.CL x = some C) (hn : f ∈ isFs) (he : PE (X.suite a ((a, oe) :: pn)) (.Name n p1) (tVar i))
    (hb : attributeBase (.Name n p1) f X.env (eval (.Name n p1) X.env) = eval (.Name n p1) X.env := by rfl) : SE F (X.suite a ((a, oe) :: pn)) W b (.Attribute (.Name n p1) f pos) (xfE i a dd f) :=
  ⟨pe_imp (pe_xf (by rw [hK]; exact excC_xf (Y.ex x C hx)) (by rw [hK]; exact Y.no x C hx f hn) hz.zc hf he hb) fun σ H Q ⟨B, s, env, G, c, co, q⟩ => by
    obtain ⟨x', ns, ds, fs, e1, e2, e3, e4, q⟩ := exnE_wp co q
    obtain ⟨d, e, q⟩ := wpR_lft q
    have hl : ns.length = ds.length := by rw [← e3, List.length_map, ← RepL.length e4, List.length_map]
    have rf : RepF F s G (ns.zip ds) fs := by
      refine ⟨?_, ?_⟩
      · rw [List.map_fst_zip (by omega)]
        exact e3
      · rw [List.map_snd_zip (by omega)]
        exact e4
    obtain ⟨v, l, r⟩ := repF_get rf e
    exact ⟨.ref a, e1, rfl, rfl, dd, fs, v, rfl, co.bs.gh _ _ e2, l, q _ _ _ co.rfl (.inl r)⟩⟩
end
/-! ### the try -/
open Classical in
noncomputable def endR (h : Addr → Addr → SR) : SR := if q : ∃ p : FL.D × CT, ∀ a dd, h a dd = .rt p.1 p.2 then .rt (Classical.choose q).1 (Classical.choose q).2 else .bad
theorem endR_of {h : Addr → Addr → SR} {d : FL.D} {c : CT} (e : ∀ a dd, h a dd = .rt d c) : endR h = .rt d c := by
  have q : ∃ p : FL.D × CT, ∀ a dd, h a dd = .rt p.1 p.2 := ⟨(d, c), e⟩
  unfold endR
  rw [dif_pos q, ← Classical.choose_spec q 0 0]
  exact e 0 0
theorem endR_at {h : Addr → Addr → SR} (q : endR h ≠ .bad) : ∃ d c, endR h = .rt d c ∧ ∀ a dd, h a dd = .rt d c := by
  unfold endR at q ⊢
  by_cases z : ∃ p : FL.D × CT, ∀ a dd, h a dd = .rt p.1 p.2
  · rw [dif_pos z] at q ⊢
    exact ⟨_, _, rfl, Classical.choose_spec z⟩
  · rw [dif_neg z] at q
    exact absurd rfl q
/-- try: g, except a class as slot i: f; the suite returns, and what it gives does not hang on where the exception lies -/
noncomputable def tryNS (g : SS) (i : Nat) (f : Addr → Addr → Str → SS) : SS := fun env c => match g env c with
  | .ex x e c' => if i < e.length then endR fun a dd => f a dd x.cls (e.set i (Sl.va (.exn a dd x.cls (x.fs.map (·.1)) (x.fs.map (·.2))))) c' else .bad
  | r => r
abbrev noW : WX := fun _ _ _ _ => False
theorem tk_no {X : Cx} : Takes X noW := fun _ _ h => by
  obtain ⟨_, _, _, _, _, _, _, _, _, _, _, _, _, _, _, _, h⟩ := h
  exact h.elim
theorem tk_noN {X : Cx} : L2N.Takes X noW := fun _ _ h => by
  obtain ⟨_, _, _, _, _, _, _, _, _, _, _, _, _, _, _, _, h⟩ := h
  exact h.elim
section
variable {F : FX} {X : Cx} {W : WX} {z : Bool} {m : Md} {k : Nat} {x n n2 : Str} {i : Nat} {body suite : List Stmt} {b₀ : Stmt} {np pos pos' : Pos} {g : SS} {f : Addr → Addr → Str → SS}
theorem ss_tryN (hct : ∃ C2, X.mg n2 = some (.ref C2) ∧ ∀ p ∈ m.ecs, ∀ C, F.CL p.1 = some C → exmOne F.K (.ref C) (.ref C2) = some (catB p.1 n2)) (hall : ∀ p ∈ m.ecs, catB p.1 n2 = true) (Y : KXs m F) (hK : X.K = F.K) (hr : Room k X.A)
    (hs : X.stack = X.env :: X.outer) (hf : X.env.frame = some X.env.locals) (hN : X.N.Nodup) (hi : X.N[i]? = some n) (hln : X.env.kindOf n = some .local) (hg : Gl X n2) (hdb : (n2 == ("__debug__" : Str)) = false)
    (hb : ∀ (W' : WX) (pn : List (Addr × Obj)) (xe : Value → Shared → Prop), L2N.Takes (X.tr pn xe) W' → PassesOwn (model X.prog X.w) X.A X.env xe → SB F (X.tr pn xe) W' z body g)
    (hsu : ∀ (a : Addr) (oe : Obj) (dd C : Addr) (x : Str) (pn : List (Addr × Obj)), L2N.Zn (.ref C) (some dd) oe → (∃ vs, oe.data = .fields vs) → F.CL x = some C → HotC (X.suite a ((a, oe) :: pn)) → RoomH k (X.suite a ((a, oe) :: pn)).A → SB F (X.suite a ((a, oe) :: pn)) noW z (b₀ :: suite) (f a dd x)) :
    SSt F X W z (.Try body [.ExceptHandler (some (.Name n2 np)) (some n) (b₀ :: suite) pos'] [] [] pos) (tryNS g i f) := by
  obtain ⟨C2, hm, hct⟩ := hct
  refine ⟨ps_imp (L2N.ps_try_as (c := .ref C2) (Wout := noW) (tb := fun W' => tS F W' z g) (ts := fun a cls d => fun D σ H => ∃ C dx x, cls = .ref C ∧ d = some dx ∧ F.CL x = some C ∧ tS F noW z (f a dx x) D σ H) hs hf hN hi hln ⟨hg, hdb, .inl hm⟩ tk_noN (fun W' pn xe tk' po => (hb W' pn xe tk' po).pss)
    fun a oe cls d pn hz hf' => ⟨fun pins s σ H D I ⟨C, dx, x, e1, e2, e3, h⟩ => ?_⟩) fun D σ H ⟨B, s, env, G, c0, co, q⟩ => ⟨B, s, env, G, c0, co, ?_⟩⟩
  · subst e1 e2
    have hot : HotC (X.suite a ((a, oe) :: pn)) := by
      obtain ⟨vs, hv⟩ := hf'
      exact ⟨(a, oe), ⟨rfl, vs, hv, hz.2.2 vs hv⟩, List.mem_cons_self⟩
    exact (hsu a oe dx C x pn hz hf' e3 hot ⟨hr.dp, hr.un⟩).pss.run pins s σ H D I h
  · unfold tryNS at q
    cases ef : g env c0 with
    | nx en c' => rw [ef] at q; exact q
    | bk en c' => rw [ef] at q; exact q
    | ct en c' => rw [ef] at q; exact q
    | rt d c' => rw [ef] at q; exact q
    | ro ds c' => rw [ef] at q; exact q
    | bad => rw [ef] at q; exact q
    | ex xx en c' =>
      rw [ef] at q
      intro s' C dx fs σ' G' H' hso hgg hC co' hdx hrf
      obtain ⟨p, hp, epn⟩ := Y.nm _ _ hC
      by_cases hlt : i < en.length
      · have q : wpS F W z B s G D (if i < en.length then endR fun a dd => f a dd xx.cls (en.set i (Sl.va (.exn a dd xx.cls (xx.fs.map (·.1)) (xx.fs.map (·.2))))) c' else .bad) := q
        rw [if_pos hlt] at q
        refine ⟨true, ?_, fun _ a na => ?_, fun z => by cases z⟩
        · have e := hct p hp C (by rw [epn]; exact hC)
          rw [hall p hp] at e
          rw [hK]
          exact e
        · have nb : (endR fun a dd => f a dd xx.cls (en.set i (Sl.va (.exn a dd xx.cls (xx.fs.map (·.1)) (xx.fs.map (·.2))))) c') ≠ .bad := fun z => by rw [z] at q; exact q
          obtain ⟨d, c2, e1, e2⟩ := endR_at nb
          rw [e1] at q
          refine ⟨C, dx, xx.cls, rfl, rfl, hC, B, s', _, G', c', co'.set (d := .exn a dx xx.cls (xx.fs.map (·.1)) (xx.fs.map (·.2))) (v := .ref a) hlt ⟨rfl, fs, hdx, hrf.1, hrf.2⟩, ?_⟩
          rw [e2 a dx]
          exact fun s2 v G2 H2 o2 n2 r2 => q s2 v G2 H2 (hso.trans o2) n2 r2
      · have q : wpS F W z B s G D (if i < en.length then endR fun a dd => f a dd xx.cls (en.set i (Sl.va (.exn a dd xx.cls (xx.fs.map (·.1)) (xx.fs.map (·.2))))) c' else .bad) := q
        rw [if_neg hlt] at q
        exact q.elim
end
theorem fnH_bad {P : Program} {w : World} {F : FX} {mg : Str → Option Value} {base : Heap} {k np : Nat} {f : Addr} {fd : FuncData} {ps : List Str} (hn : ps.length = np) : FnH P w F.K mg base (L2.CX P w) k f fd ps (spF F false np fun _ _ => .bad) :=
  ⟨fun vs H Q E h => by rw [hn]; exact h.1, fun A outer s H args us vs Q E p hr hot pk e0 hb r h => by
    obtain ⟨_, _, _, _, _, _, _, _, h⟩ := h
    exact h.elim⟩
/-- THE END: a law of the module, by what its meaning gives at every script -/
theorem law_atK {l : PySem.W.OpenLaw} {m : Md} {w : World} {K : PySem.W.Frag} {mg : Str → Option Value} {h : Heap} {i k n : Nat} {mm : DS} (X : K.In h) (G : h.Ns mainGlobals mg) (c' : He.SaysX m.fa m.fn m.ts m.tf (fun K => m.ex K && kxB m K) w h K) (hb : m.binds) (hbI : m.bindsI) (ht : ∀ i ∈ m.tabs, i ∈ m.ids) (hi : i ∈ m.ids) (hps : m.pars i = [("script" : Str)])
    (hok : ∀ (F : FX) (base : Heap) (ad : Nat → Addr) (fdt : Nat → FuncData) (co ta : Nat → Addr), KXs m F → Mo m F mg base ad fdt co ta → FnOk l.prog F.w F.K mg base (L2.CX l.prog F.w) k (ad i) (fdt i) [("script" : Str)] (spF F true 1 mm))
    (hm : ∀ ns : List Int, ns.length ≤ n → (∀ z ∈ ns, Builtin.Int.intBits z ≤ 1048576) → ∃ c', mm [.scr ns] none = .va (.bl true) c') :
    LamX.LawAtS l w K (L2.CX l.prog w) k n "script" mg (He.ga K (m.name i)) h := by
  have c : He.SaysX m.fa m.fn m.ts m.tf m.ex w h K := ⟨c'.t, (Bool.and_eq_true_iff.mp c'.more).1, c'.hd, c'.out, c'.empty⟩
  obtain ⟨fdt, co, ta, t1, t2, t3, t4, mo⟩ := mo_of X G c hb hbI ht
  refine ⟨fdt i, m.tabs.map fun i => (co i, ta i), spF ⟨K, m.tabs.map ta, m.cl K, w⟩ true 1 mm, fun p hp => ?_, fun p hp => ?_, fun p hp => ?_, fun s u => ?_, fun H a ns hl hbits hH hS => ?_, fun base hK hns hTB => ?_⟩
  · obtain ⟨j, hj, rfl⟩ := List.mem_map.mp hp
    exact t1 j hj
  · obtain ⟨j, hj, rfl⟩ := List.mem_map.mp hp
    exact t2 j hj
  · obtain ⟨j, hj, rfl⟩ := List.mem_map.mp hp
    exact t3 j hj
  · have z := t4 i hi s [u] (by rw [hps]; rfl)
    rw [hps] at z
    exact z
  · have hT : ∀ P ∈ m.tabs.map ta, H P = some (.tbl #[]) := fun P hP => by
      obtain ⟨j, hj, rfl⟩ := List.mem_map.mp hP
      exact hH (co j, ta j) (List.mem_map.mpr ⟨j, hj, rfl⟩)
    obtain ⟨e1, v1⟩ := vol_start (w := w) (K := K) (CL := m.cl K) hT
    obtain ⟨c2, e⟩ := hm ns hl hbits
    refine ⟨rfl, none, _, none, [.scr ns], e1, v1, ⟨.ref a, [], rfl, ⟨a, rfl, ?_⟩, rfl⟩, ?_⟩
    · rcases hS with q | q
      · have na : a ∉ m.tabs.map ta := fun z => by
          have := hT a z
          rcases q with q | ⟨o, q⟩ <;> (rw [q] at this; cases this)
        refine .inl ?_
        rcases q with q | ⟨o, q⟩
        · exact .inl ((if_neg na).trans q)
        · exact .inr ⟨o, (if_neg na).trans q⟩
      · exact .inr q
    · rw [e]
      intro s' v G' H' _ _ r
      exact r
  · exact hok _ base _ fdt co ta (kxs_of rfl rfl (Bool.and_eq_true_iff.mp c'.more).2) (mo base fun j hj => by
      have z := hTB (co j, ta j) (List.mem_map.mpr ⟨j, hj, rfl⟩)
      exact ⟨z.code, z.bm, z.gP⟩)
end FL

set_option Elab.async false
set_option linter.all false
set_option maxRecDepth 100000
set_option maxHeartbeats 4000000
namespace K00
open PySem PySem.Spec L2 PyProof.Rows FL
def top (i : Nat) : Stmt := PySem.Challenge.pw_layeredwords_k00_errors.main.body.getD i (.Pass ⟨0, 0, 0, 0⟩)
def md : Md where
  top := top
  ids := [7, 8, 9, 10, 11, 12, 13]
  name := fun
    | 7 => "_law_so"
    | 8 => "_law_numbers"
    | 9 => "_law_draw"
    | 10 => "_law_take"
    | 11 => "_law_wide"
    | 12 => "_law_raised"
    | 13 => "law"
    | _ => ""
  pars := fun
    | 7 => ["found", "meant"]
    | 8 => ["script"]
    | 9 => ["row", "at", "limit"]
    | 10 => ["row", "spot", "limit"]
    | 11 => ["row", "spot", "limit"]
    | 12 => ["kind", "value"]
    | 13 => ["script"]
    | _ => []
  frees := ["ArithmeticError", "LookupError", "ValueError", "bool", "int", "isinstance", "len", "range", "str", "tuple"]
  tabs := []
  consts := []
  ecs := [("BadValue", ["at"], 2), ("BadLine", ["layer", "at"], 3), ("TooMany", ["word"], 4), ("BadSyntax", ["at"], 5)]
  cats := ["LayerError"]
  dics := []
section
variable {P : Program} {F : FX} {mg : Str → Option Value} {base : Heap} {ad : Nat → Addr} {fdt : Nat → FuncData} {co ta : Nat → Addr}
theorem si_BadValue : FnScope ["self", "at"] ["self", "at"] (defScope (initOf (top 2))) := ⟨rfl, rfl, rfl, by decide +kernel, rfl, by decide +kernel, by decide +kernel⟩
theorem xi_BadValue {C fI : Addr} {fd : FuncData} (E : ExcOk P F mg base "BadValue" ["at"] (initOf (top 2)) C fI fd) : FnOk P F.w F.K mg base (L2.CX P F.w) (0 + 1) fI fd ["self", "at"] (spI F.K ["at"]) := ini_one E.fn si_BadValue rfl (fun cdv A outer s H E => ⟨pv 0, pv 1⟩) (fun _ => rfl)
theorem si_BadLine : FnScope ["self", "layer", "at"] ["self", "layer", "at"] (defScope (initOf (top 3))) := ⟨rfl, rfl, rfl, by decide +kernel, rfl, by decide +kernel, by decide +kernel⟩
theorem xi_BadLine {C fI : Addr} {fd : FuncData} (E : ExcOk P F mg base "BadLine" ["layer", "at"] (initOf (top 3)) C fI fd) : FnOk P F.w F.K mg base (L2.CX P F.w) (0 + 1) fI fd ["self", "layer", "at"] (spI F.K ["layer", "at"]) := ini_two E.fn si_BadLine rfl (fun cdv A outer s H E => ⟨⟨pv 0, pv 1⟩, pv 0, pv 2⟩) (fun _ => ⟨rfl, rfl⟩)
theorem si_TooMany : FnScope ["self", "word"] ["self", "word"] (defScope (initOf (top 4))) := ⟨rfl, rfl, rfl, by decide +kernel, rfl, by decide +kernel, by decide +kernel⟩
theorem xi_TooMany {C fI : Addr} {fd : FuncData} (E : ExcOk P F mg base "TooMany" ["word"] (initOf (top 4)) C fI fd) : FnOk P F.w F.K mg base (L2.CX P F.w) (0 + 1) fI fd ["self", "word"] (spI F.K ["word"]) := ini_one E.fn si_TooMany rfl (fun cdv A outer s H E => ⟨pv 0, pv 1⟩) (fun _ => rfl)
theorem si_BadSyntax : FnScope ["self", "at"] ["self", "at"] (defScope (initOf (top 5))) := ⟨rfl, rfl, rfl, by decide +kernel, rfl, by decide +kernel, by decide +kernel⟩
theorem xi_BadSyntax {C fI : Addr} {fd : FuncData} (E : ExcOk P F mg base "BadSyntax" ["at"] (initOf (top 5)) C fI fd) : FnOk P F.w F.K mg base (L2.CX P F.w) (0 + 1) fI fd ["self", "at"] (spI F.K ["at"]) := ini_one E.fn si_BadSyntax rfl (fun cdv A outer s H E => ⟨pv 0, pv 1⟩) (fun _ => rfl)
/-! _law_so -/
def b__law_so (rec_ : DS) : SS := seqS (ifS (asB (opE isND (varE 1) (kE .non))) (retS (opE isND (varE 0) (kE .non))) (nxS)) (seqS (ifS (truT (caE isiD (aCons (varE 1) (aCons (kE (.ty "tuple")) (aNil))))) (seqS (ifS (orT (notT (truT (caE isiD (aCons (varE 0) (aCons (kE (.ty "tuple")) (aNil)))))) (asB (opE neD (caE lenD (aCons (varE 0) (aNil))) (caE lenD (aCons (varE 1) (aNil)))))) (retS (kE (.bl false))) (nxS)) (seqS (forS (rng1E (aCons (caE lenD (aCons (varE 1) (aNil))) (aNil))) (setT 2) (ifS (notT (truT (callE rec_ (aCons (opE ixD (varE 0) (varE 2)) (aCons (opE ixD (varE 1) (varE 2)) (aNil)))))) (retS (kE (.bl false))) (nxS))) (retS (kE (.bl true))))) (nxS)) (seqS (ifS (orT (truT (caE isiD (aCons (varE 1) (aCons (kE (.ty "bool")) (aNil))))) (truT (caE isiD (aCons (varE 0) (aCons (kE (.ty "bool")) (aNil)))))) (retS (andE (caE isiD (aCons (varE 1) (aCons (kE (.ty "bool")) (aNil)))) (andE (caE isiD (aCons (varE 0) (aCons (kE (.ty "bool")) (aNil)))) (opE eqD (varE 0) (varE 1))))) (nxS)) (seqS (ifS (truT (caE isiD (aCons (varE 1) (aCons (kE (.ty "int")) (aNil))))) (retS (andE (caE isiD (aCons (varE 0) (aCons (kE (.ty "int")) (aNil)))) (opE eqD (varE 0) (varE 1)))) (nxS)) (retS (andE (caE isiD (aCons (varE 1) (aCons (kE (.ty "str")) (aNil)))) (andE (caE isiD (aCons (varE 0) (aCons (kE (.ty "str")) (aNil)))) (opE eqD (varE 0) (varE 1))))))))
def m__law_so : Nat → DS
  | 0 => fun _ _ => .bad
  | n + 1 => defF 3 (b__law_so (m__law_so n))
theorem sc__law_so : FnScope ["found", "meant", "k"] ["found", "meant"] (defScope (top 7)) := ⟨rfl, rfl, rfl, by decide +kernel, rfl, by decide +kernel, by decide +kernel⟩
theorem ok__law_so (M : Mo md F mg base ad fdt co ta) : ∀ n : Nat, L2H.FnH P F.w F.K mg base (L2.CX P F.w) (n + 1) (ad 7) (fdt 7) ["found", "meant"] (spF F false 2 (m__law_so n))
  | 0 => fnH_bad rfl
  | n + 1 => by
    have ih := ok__law_so M n
    have z : L2H.FnH P F.w F.K mg base (L2.CX P F.w) (n + 1 + 1) (ad 7) (fdt 7) ["found", "meant"] (spF F false 2 (m__law_so (n + 1))) := def_okH (M.fn 7 rfl) sc__law_so (by decide) fun cdv A outer s H E p hr hot tk =>
      sb_cons (ss_if (st_cmp (op_isN) od_isN (v_ 1) (se_non) (by with_unfolding_all rfl)) (sb_one (ss_ret (se_cmp (op_isN) od_isN (v_ 0) (se_non) (by with_unfolding_all rfl)))) (sb_nil)) (sb_cons (ss_if (st_truth rfl (se_callB call_isiG cd_isi rfl (M.free "isinstance" (by decide)) boot_isinstance (sa_cons (v_ 1) (sa_cons (se_ty (pe_bltn rfl (M.free "tuple" (by decide)) boot_tuple rfl)) (sa_nil))))) (sb_cons (ss_if (st_w (sw_or (st_not (st_truth rfl (se_callB call_isiG cd_isi rfl (M.free "isinstance" (by decide)) boot_isinstance (sa_cons (v_ 0) (sa_cons (se_ty (pe_bltn rfl (M.free "tuple" (by decide)) boot_tuple rfl)) (sa_nil)))))) (sw_or1 (st_cmp (op_neG (FL.RoomH.units hr)) od_ne (se_callB call_len cd_len rfl (M.free "len" (by decide)) boot_len (sa_cons (v_ 0) (sa_nil))) (se_callB call_len cd_len rfl (M.free "len" (by decide)) boot_len (sa_cons (v_ 1) (sa_nil))) (by with_unfolding_all rfl))))) (sb_one (ss_ret (se_bl))) (sb_nil)) (sb_cons (ss_forH owns_cxH hot (si_range1H rfl (M.free "range" (by decide)) (sa_cons (se_callB call_len cd_len rfl (M.free "len" (by decide)) boot_len (sa_cons (v_ 1) (sa_nil))) (sa_nil))) (stg_name (n_ sc__law_so.nd 2)) (sb_one (ss_if (st_not (st_truth rfl (se_callH ih hr hot rfl (M.glo 7 rfl) (M.kp 7 rfl) (M.bi 7 rfl) tk (sa_cons (se_ix rfl (v_ 0) (v_ 2)) (sa_cons (se_ix rfl (v_ 1) (v_ 2)) (sa_nil))) (al_cons (al_cons (al_nil)))))) (sb_one (ss_ret (se_bl))) (sb_nil)))) (sb_one (ss_ret (se_bl))))) (sb_nil)) (sb_cons (ss_if (st_w (sw_or (st_truth rfl (se_callB call_isiG cd_isi rfl (M.free "isinstance" (by decide)) boot_isinstance (sa_cons (v_ 1) (sa_cons (se_ty (pe_bltn rfl (M.free "bool" (by decide)) boot_bool rfl)) (sa_nil))))) (sw_or1 (st_truth rfl (se_callB call_isiG cd_isi rfl (M.free "isinstance" (by decide)) boot_isinstance (sa_cons (v_ 0) (sa_cons (se_ty (pe_bltn rfl (M.free "bool" (by decide)) boot_bool rfl)) (sa_nil)))))))) (sb_one (ss_ret (se_and (se_callB call_isiG cd_isi rfl (M.free "isinstance" (by decide)) boot_isinstance (sa_cons (v_ 1) (sa_cons (se_ty (pe_bltn rfl (M.free "bool" (by decide)) boot_bool rfl)) (sa_nil)))) (se_and (se_callB call_isiG cd_isi rfl (M.free "isinstance" (by decide)) boot_isinstance (sa_cons (v_ 0) (sa_cons (se_ty (pe_bltn rfl (M.free "bool" (by decide)) boot_bool rfl)) (sa_nil)))) (se_one (se_cmp (op_eqG (FL.RoomH.units hr)) od_eq (v_ 0) (v_ 1) (by with_unfolding_all rfl))))))) (sb_nil)) (sb_cons (ss_if (st_truth rfl (se_callB call_isiG cd_isi rfl (M.free "isinstance" (by decide)) boot_isinstance (sa_cons (v_ 1) (sa_cons (se_ty (pe_bltn rfl (M.free "int" (by decide)) boot_int rfl)) (sa_nil))))) (sb_one (ss_ret (se_and (se_callB call_isiG cd_isi rfl (M.free "isinstance" (by decide)) boot_isinstance (sa_cons (v_ 0) (sa_cons (se_ty (pe_bltn rfl (M.free "int" (by decide)) boot_int rfl)) (sa_nil)))) (se_one (se_cmp (op_eqG (FL.RoomH.units hr)) od_eq (v_ 0) (v_ 1) (by with_unfolding_all rfl)))))) (sb_nil)) (sb_one (ss_ret (se_and (se_callB call_isiG cd_isi rfl (M.free "isinstance" (by decide)) boot_isinstance (sa_cons (v_ 1) (sa_cons (se_ty (pe_bltn rfl (M.free "str" (by decide)) boot_str rfl)) (sa_nil)))) (se_and (se_callB call_isiG cd_isi rfl (M.free "isinstance" (by decide)) boot_isinstance (sa_cons (v_ 0) (sa_cons (se_ty (pe_bltn rfl (M.free "str" (by decide)) boot_str rfl)) (sa_nil)))) (se_one (se_cmp (op_eqG (FL.RoomH.units hr)) od_eq (v_ 0) (v_ 1) (by with_unfolding_all rfl))))))))))
    exact FL.FnH.more z (by omega)
/-! _law_numbers -/
def b__law_numbers : SS := seqS (asgO 1 (lsE (aNil))) (seqS (forS (itE (slE (varE 0) (noP) (soP (kE (.int 63))))) (setT 2) (ifS (asB (opE geD (varE 2) (opE powD (kE (.int 10)) (kE (.int 18))))) (seqS (asgS 3 (varE 2)) (forS (rng1E (aCons (kE (.int 60)) (aNil))) (setT 4) (seqS (ifS (asB (opE eqD (varE 3) (kE (.int 0)))) (bkS) (nxS)) (seqS (appS 1 (opE modD (caE intD (aCons (varE 3) (aNil))) (kE (.int 997)))) (asgS 3 (opE fdivD (varE 3) (kE (.int 997)))))))) (forS (rng1E (aCons (kE (.int 4)) (aNil))) (setT 4) (seqS (asgS 5 (opE modD (caE intD (aCons (opE addD (opE addD (opE mulD (varE 2) (kE (.int 48271))) (opE mulD (varE 4) (kE (.int 69621)))) (kE (.int 11))) (aNil))) (kE (.int 2147483647)))) (appS 1 (opE modD (caE intD (aCons (opE addD (opE mulD (varE 5) (kE (.int 16807))) (varE 4)) (aNil))) (kE (.int 2147483629)))))))) (seqS (ifS (asB (opE eqD (caE lenD (aCons (varB 1) (aNil))) (kE (.int 0)))) (appS 1 (kE (.int 0))) (nxS)) (retO 1)))
def m__law_numbers : DS := defF 6 b__law_numbers
theorem sc__law_numbers : FnScope ["script", "row", "cell", "left", "k", "mixed"] ["script"] (defScope (top 8)) := ⟨rfl, rfl, rfl, by decide +kernel, rfl, by decide +kernel, by decide +kernel⟩
theorem ok__law_numbers (M : Mo md F mg base ad fdt co ta) : FnOk P F.w F.K mg base (L2.CX P F.w) (0 + 1) (ad 8) (fdt 8) ["script"] (spF F false 1 m__law_numbers) :=
  def_ok (M.fn 8 rfl) sc__law_numbers (by decide) fun cdv A outer s H E hr tk =>
    sb_cons (o_ sc__law_numbers.nd 1 (so_lst (sa_nil))) (sb_cons (ss_for owns_cx rfl (si_seq rfl (se_sl rfl (v_ 0) (sp_no) (sp_so (se_int)))) (stg_name (n_ sc__law_numbers.nd 2)) (sb_one (ss_if (st_cmp (op_geG) od_ord (v_ 2) (se_op op_pow od_pow (se_int) (se_int)) (by with_unfolding_all rfl)) (sb_cons (a_ sc__law_numbers.nd 3 (v_ 2)) (sb_one (ss_for owns_cx rfl (si_range1 rfl (M.free "range" (by decide)) (sa_cons (se_int) (sa_nil))) (stg_name (n_ sc__law_numbers.nd 4)) (sb_cons (ss_if (st_cmp (op_eqG hr.units) od_eq (v_ 3) (se_int) (by with_unfolding_all rfl)) (sb_one (ss_break)) (sb_nil)) (sb_cons (app_ rfl (pv 1) (se_op op_mod od_mod (se_callTy call_int1 cd_int rfl (M.free "int" (by decide)) boot_int (sa_cons (v_ 3) (sa_nil))) (se_int)) (fun a b => pe_bm PySem.F.plainAttrs_list PySem.F.slot_list_append PySem.F.type_list_append mt_append a (pa_cons b pa_nil))) (sb_one (a_ sc__law_numbers.nd 3 (se_op op_fdiv od_fdiv (v_ 3) (se_int))))))))) (sb_one (ss_for owns_cx rfl (si_range1 rfl (M.free "range" (by decide)) (sa_cons (se_int) (sa_nil))) (stg_name (n_ sc__law_numbers.nd 4)) (sb_cons (a_ sc__law_numbers.nd 5 (se_op op_mod od_mod (se_callTy call_int1 cd_int rfl (M.free "int" (by decide)) boot_int (sa_cons (se_op op_addG od_add (se_op op_addG od_add (se_op op_mul od_mul (v_ 2) (se_int)) (se_op op_mul od_mul (v_ 4) (se_int))) (se_int)) (sa_nil))) (se_int))) (sb_one (app_ rfl (pv 1) (se_op op_mod od_mod (se_callTy call_int1 cd_int rfl (M.free "int" (by decide)) boot_int (sa_cons (se_op op_addG od_add (se_op op_mul od_mul (v_ 5) (se_int)) (v_ 4)) (sa_nil))) (se_int)) (fun a b => pe_bm PySem.F.plainAttrs_list PySem.F.slot_list_append PySem.F.type_list_append mt_append a (pa_cons b pa_nil)))))))))) (sb_cons (ss_if (st_cmp (op_eqG hr.units) od_eq (se_callB call_len cd_len rfl (M.free "len" (by decide)) boot_len (sa_cons (w_ 1) (sa_nil))) (se_int) (by with_unfolding_all rfl)) (sb_one (app_ rfl (pv 1) (se_int) (fun a b => pe_bm PySem.F.plainAttrs_list PySem.F.slot_list_append PySem.F.type_list_append mt_append a (pa_cons b pa_nil)))) (sb_nil)) (sb_one (ss_retO (pv 1)))))
/-! _law_draw -/
def b__law_draw : SS := seqS (ifS (asB (opE ltD (varE 1) (caE lenD (aCons (varE 0) (aNil))))) (retS (opE modD (caE intD (aCons (opE ixD (varE 0) (varE 1)) (aNil))) (varE 2))) (nxS)) (seqS (asgS 3 (opE modD (caE intD (aCons (opE addD (opE addD (opE mulD (opE ixD (varE 0) (opE modD (caE intD (aCons (varE 1) (aNil))) (caE lenD (aCons (varE 0) (aNil))))) (kE (.int 40692))) (opE mulD (varE 1) (kE (.int 7919)))) (kE (.int 3))) (aNil))) (kE (.int 2147483399)))) (retS (opE modD (caE intD (aCons (opE modD (caE intD (aCons (opE addD (opE mulD (varE 3) (kE (.int 48271))) (varE 1)) (aNil))) (kE (.int 2147483647))) (aNil))) (varE 2))))
def m__law_draw : DS := defF 4 b__law_draw
theorem sc__law_draw : FnScope ["row", "at", "limit", "mixed"] ["row", "at", "limit"] (defScope (top 9)) := ⟨rfl, rfl, rfl, by decide +kernel, rfl, by decide +kernel, by decide +kernel⟩
theorem ok__law_draw (M : Mo md F mg base ad fdt co ta) : FnOk P F.w F.K mg base (L2.CX P F.w) (0 + 1) (ad 9) (fdt 9) ["row", "at", "limit"] (spF F false 3 m__law_draw) :=
  def_ok (M.fn 9 rfl) sc__law_draw (by decide) fun cdv A outer s H E hr tk =>
    sb_cons (ss_if (st_cmp (op_ltG) od_ord (v_ 1) (se_callB call_len cd_len rfl (M.free "len" (by decide)) boot_len (sa_cons (v_ 0) (sa_nil))) (by with_unfolding_all rfl)) (sb_one (ss_ret (se_op op_mod od_mod (se_callTy call_int1 cd_int rfl (M.free "int" (by decide)) boot_int (sa_cons (se_ix rfl (v_ 0) (v_ 1)) (sa_nil))) (v_ 2)))) (sb_nil)) (sb_cons (a_ sc__law_draw.nd 3 (se_op op_mod od_mod (se_callTy call_int1 cd_int rfl (M.free "int" (by decide)) boot_int (sa_cons (se_op op_addG od_add (se_op op_addG od_add (se_op op_mul od_mul (se_ix rfl (v_ 0) (se_op op_mod od_mod (se_callTy call_int1 cd_int rfl (M.free "int" (by decide)) boot_int (sa_cons (v_ 1) (sa_nil))) (se_callB call_len cd_len rfl (M.free "len" (by decide)) boot_len (sa_cons (v_ 0) (sa_nil))))) (se_int)) (se_op op_mul od_mul (v_ 1) (se_int))) (se_int)) (sa_nil))) (se_int))) (sb_one (ss_ret (se_op op_mod od_mod (se_callTy call_int1 cd_int rfl (M.free "int" (by decide)) boot_int (sa_cons (se_op op_mod od_mod (se_callTy call_int1 cd_int rfl (M.free "int" (by decide)) boot_int (sa_cons (se_op op_addG od_add (se_op op_mul od_mul (v_ 3) (se_int)) (v_ 1)) (sa_nil))) (se_int)) (sa_nil))) (v_ 2)))))
/-! _law_take -/
def b__law_take : SS := seqS (spotS 1 (opE addD (opE ixD (varE 1) (kE (.int 0))) (kE (.int 1)))) (retS (callE m__law_draw (aCons (varE 0) (aCons (opE subD (opE ixD (varE 1) (kE (.int 0))) (kE (.int 1))) (aCons (varE 2) (aNil))))))
def m__law_take : DS := defF 3 b__law_take
theorem sc__law_take : FnScope ["row", "spot", "limit"] ["row", "spot", "limit"] (defScope (top 10)) := ⟨rfl, rfl, rfl, by decide +kernel, rfl, by decide +kernel, by decide +kernel⟩
theorem ok__law_take (M : Mo md F mg base ad fdt co ta) : FnOk P F.w F.K mg base (L2.CX P F.w) (1 + 1) (ad 10) (fdt 10) ["row", "spot", "limit"] (spF F false 3 m__law_take) :=
  def_ok (M.fn 10 rfl) sc__law_take (by decide) fun cdv A outer s H E hr tk =>
    sb_cons (spot_ (pv 1) (se_op op_addG od_add (se_ix rfl (v_ 1) (se_int)) (se_int)) (fun a => pg_sub a pe_int set_list)) (sb_one (ss_ret (se_call ((ok__law_draw M).mono (by omega)) hr rfl (M.glo 9 rfl) (M.kp 9 rfl) (M.bi 9 rfl) tk (sa_cons (v_ 0) (sa_cons (se_op op_sub od_sub (se_ix rfl (v_ 1) (se_int)) (se_int)) (sa_cons (v_ 2) (sa_nil)))) (al_cons (al_cons (al_cons (al_nil)))))))
/-! _law_wide -/
def b__law_wide : SS := seqS (asgS 3 (callE m__law_take (aCons (varE 0) (aCons (varE 1) (aCons (kE (.int 997)) (aNil)))))) (seqS (asgS 4 (callE m__law_take (aCons (varE 0) (aCons (varE 1) (aCons (kE (.int 997)) (aNil)))))) (seqS (asgS 5 (callE m__law_take (aCons (varE 0) (aCons (varE 1) (aCons (kE (.int 997)) (aNil)))))) (retS (opE modD (caE intD (aCons (opE addD (opE addD (opE mulD (varE 3) (kE (.int 994009))) (opE mulD (varE 4) (kE (.int 997)))) (varE 5)) (aNil))) (varE 2)))))
def m__law_wide : DS := defF 6 b__law_wide
theorem sc__law_wide : FnScope ["row", "spot", "limit", "first", "second", "third"] ["row", "spot", "limit"] (defScope (top 11)) := ⟨rfl, rfl, rfl, by decide +kernel, rfl, by decide +kernel, by decide +kernel⟩
theorem ok__law_wide (M : Mo md F mg base ad fdt co ta) : FnOk P F.w F.K mg base (L2.CX P F.w) (2 + 1) (ad 11) (fdt 11) ["row", "spot", "limit"] (spF F false 3 m__law_wide) :=
  def_ok (M.fn 11 rfl) sc__law_wide (by decide) fun cdv A outer s H E hr tk =>
    sb_cons (a_ sc__law_wide.nd 3 (se_call ((ok__law_take M).mono (by omega)) hr rfl (M.glo 10 rfl) (M.kp 10 rfl) (M.bi 10 rfl) tk (sa_cons (v_ 0) (sa_cons (v_ 1) (sa_cons (se_int) (sa_nil)))) (al_cons (al_cons (al_cons (al_nil)))))) (sb_cons (a_ sc__law_wide.nd 4 (se_call ((ok__law_take M).mono (by omega)) hr rfl (M.glo 10 rfl) (M.kp 10 rfl) (M.bi 10 rfl) tk (sa_cons (v_ 0) (sa_cons (v_ 1) (sa_cons (se_int) (sa_nil)))) (al_cons (al_cons (al_cons (al_nil)))))) (sb_cons (a_ sc__law_wide.nd 5 (se_call ((ok__law_take M).mono (by omega)) hr rfl (M.glo 10 rfl) (M.kp 10 rfl) (M.bi 10 rfl) tk (sa_cons (v_ 0) (sa_cons (v_ 1) (sa_cons (se_int) (sa_nil)))) (al_cons (al_cons (al_cons (al_nil)))))) (sb_one (ss_ret (se_op op_mod od_mod (se_callTy call_int1 cd_int rfl (M.free "int" (by decide)) boot_int (sa_cons (se_op op_addG od_add (se_op op_addG od_add (se_op op_mul od_mul (v_ 3) (se_int)) (se_op op_mul od_mul (v_ 4) (se_int))) (v_ 5)) (sa_nil))) (v_ 2))))))
/-! _law_raised -/
def b__law_raised : SS := seqS (ifS (asB (opE eqD (varE 0) (kE (.int 0)))) (raiseS "BadValue" ["at"] (aCons (varE 1) (aNil))) (nxS)) (seqS (ifS (asB (opE eqD (varE 0) (kE (.int 1)))) (raiseS "BadSyntax" ["at"] (aCons (varE 1) (aNil))) (nxS)) (seqS (ifS (asB (opE eqD (varE 0) (kE (.int 2)))) (raiseS "BadLine" ["layer", "at"] (aCons (opE ixD (varE 1) (kE (.int 0))) (aCons (opE ixD (varE 1) (kE (.int 1))) (aNil)))) (nxS)) (raiseS "TooMany" ["word"] (aCons (varE 1) (aNil)))))
def m__law_raised : DS := defF 2 b__law_raised
theorem sc__law_raised : FnScope ["kind", "value"] ["kind", "value"] (defScope (top 12)) := ⟨rfl, rfl, rfl, by decide +kernel, rfl, by decide +kernel, by decide +kernel⟩
theorem ok__law_raised (M : Mo md F mg base ad fdt co ta) : FnOk P F.w F.K mg base (L2N.CX P F.w) (2 + 1) (ad 12) (fdt 12) ["kind", "value"] (spF F false 2 m__law_raised) :=
  def_okN (M.fn 12 rfl) sc__law_raised (by decide) fun cdv A outer s H E hr tk =>
    sb_cons (ss_if (st_cmp (op_eqG hr.units) od_eq (v_ 0) (se_int) (by with_unfolding_all rfl)) (sb_one (ss_raiseMN (M.exc P ("BadValue", ["at"], 2) (by simp [md])) (fun C fI fd E => xi_BadValue E) rfl tk rfl (hr.mono (by omega)) rfl (sa_cons (v_ 1) (sa_nil)))) (sb_nil)) (sb_cons (ss_if (st_cmp (op_eqG hr.units) od_eq (v_ 0) (se_int) (by with_unfolding_all rfl)) (sb_one (ss_raiseMN (M.exc P ("BadSyntax", ["at"], 5) (by simp [md])) (fun C fI fd E => xi_BadSyntax E) rfl tk rfl (hr.mono (by omega)) rfl (sa_cons (v_ 1) (sa_nil)))) (sb_nil)) (sb_cons (ss_if (st_cmp (op_eqG hr.units) od_eq (v_ 0) (se_int) (by with_unfolding_all rfl)) (sb_one (ss_raiseMN (M.exc P ("BadLine", ["layer", "at"], 3) (by simp [md])) (fun C fI fd E => xi_BadLine E) rfl tk rfl (hr.mono (by omega)) rfl (sa_cons (se_ix rfl (v_ 1) (se_int)) (sa_cons (se_ix rfl (v_ 1) (se_int)) (sa_nil))))) (sb_nil)) (sb_one (ss_raiseMN (M.exc P ("TooMany", ["word"], 4) (by simp [md])) (fun C fI fd E => xi_TooMany E) rfl tk rfl (hr.mono (by omega)) rfl (sa_cons (v_ 1) (sa_nil))))))
/-! law -/
noncomputable def b_law : SS := seqS (asgS 1 (callE m__law_numbers (aCons (varE 0) (aNil)))) (seqS (newSpot 2 0) (seqS (asgS 3 (callE m__law_take (aCons (varE 1) (aCons (varE 2) (aCons (kE (.int 4)) (aNil)))))) (seqS (asgS 4 (opE subD (callE m__law_wide (aCons (varE 1) (aCons (varE 2) (aCons (opE powD (kE (.int 10)) (kE (.int 9))) (aNil))))) (opE mulD (kE (.int 5)) (opE powD (kE (.int 10)) (kE (.int 8)))))) (seqS (ifS (asB (opE eqD (varE 3) (kE (.int 2)))) (asgS 4 (tupE (aCons (varE 4) (aCons (callE m__law_wide (aCons (varE 1) (aCons (varE 2) (aCons (kE (.int 2000)) (aNil))))) (aNil))))) (nxS)) (seqS (ifS (asB (opE eqD (varE 3) (kE (.int 3)))) (asgS 4 (opE ixD (lstE (lsE (aCons (kE (.str "layers")) (aCons (kE (.str "lines")) (aCons (kE (.str "readers")) (aNil)))))) (callE m__law_take (aCons (varE 1) (aCons (varE 2) (aCons (kE (.int 3)) (aNil))))))) (nxS)) (seqS (tryNS (dropS (callE m__law_raised (aCons (varE 3) (aCons (varE 4) (aNil))))) 7 (fun a dd x => seqS (asgS 5 (lstE (lsE (aCons (isxE 7 a dd (decide (x = ("BadValue" : Str)))) (aCons (isxE 7 a dd (decide (x = ("BadSyntax" : Str)))) (aCons (isxE 7 a dd (decide (x = ("BadLine" : Str)))) (aCons (isxE 7 a dd (decide (x = ("TooMany" : Str)))) (aNil)))))))) (seqS (forS (rng1E (aCons (kE (.int 4)) (aNil))) (setT 6) (ifS (asB (opE neD (opE ixD (varE 5) (varE 6)) (opE eqD (varE 6) (varE 3)))) (retS (kE (.bl false))) (nxS))) (seqS (ifS (orT (truT (isxE 7 a dd false)) (orT (truT (isxE 7 a dd false)) (truT (isxE 7 a dd false)))) (retS (kE (.bl false))) (nxS)) (seqS (ifS (asB (opE eqD (varE 3) (kE (.int 3)))) (retS (callE (m__law_so 12) (aCons (xfE 7 a dd ("word" : Str)) (aCons (varE 4) (aNil))))) (nxS)) (seqS (ifS (asB (opE eqD (varE 3) (kE (.int 2)))) (retS (callE (m__law_so 12) (aCons (tupE (aCons (xfE 7 a dd ("layer" : Str)) (aCons (xfE 7 a dd ("at" : Str)) (aNil)))) (aCons (varE 4) (aNil))))) (nxS)) (retS (callE (m__law_so 12) (aCons (xfE 7 a dd ("at" : Str)) (aCons (varE 4) (aNil))))))))))) (retS (kE (.bl false)))))))))
noncomputable def m_law : DS := defF 8 b_law
theorem sc_law : FnScope ["script", "row", "spot", "kind", "value", "own", "k", "error"] ["script"] (defScope (top 13)) := ⟨rfl, rfl, rfl, by decide +kernel, rfl, by decide +kernel, by decide +kernel⟩
theorem ok_law (Y : KXs md F) (M : Mo md F mg base ad fdt co ta) : FnOk P F.w F.K mg base (L2.CX P F.w) (13 + 1) (ad 13) (fdt 13) ["script"] (spF F true 1 m_law) :=
  def_ok (M.fn 13 rfl) sc_law (by decide) fun cdv A outer s H E hr tk =>
    sb_cons (a_ sc_law.nd 1 (se_call ((ok__law_numbers M).mono (by omega)) hr rfl (M.glo 8 rfl) (M.kp 8 rfl) (M.bi 8 rfl) tk (sa_cons (v_ 0) (sa_nil)) (al_cons (al_nil)))) (sb_cons (ss_newSpot (ps_set (i := 2) sc_law.nd rfl (.inl rfl) (pe_lst (pa_cons pe_int pa_nil)))) (sb_cons (a_ sc_law.nd 3 (se_call ((ok__law_take M).mono (by omega)) hr rfl (M.glo 10 rfl) (M.kp 10 rfl) (M.bi 10 rfl) tk (sa_cons (v_ 1) (sa_cons (v_ 2) (sa_cons (se_int) (sa_nil)))) (al_cons (al_cons (al_cons (al_nil)))))) (sb_cons (a_ sc_law.nd 4 (se_op op_sub od_sub (se_call ((ok__law_wide M).mono (by omega)) hr rfl (M.glo 11 rfl) (M.kp 11 rfl) (M.bi 11 rfl) tk (sa_cons (v_ 1) (sa_cons (v_ 2) (sa_cons (se_op op_pow od_pow (se_int) (se_int)) (sa_nil)))) (al_cons (al_cons (al_cons (al_nil))))) (se_op op_mul od_mul (se_int) (se_op op_pow od_pow (se_int) (se_int))))) (sb_cons (ss_if (st_cmp (op_eqG hr.units) od_eq (v_ 3) (se_int) (by with_unfolding_all rfl)) (sb_one (a_ sc_law.nd 4 (se_tup (sa_cons (v_ 4) (sa_cons (se_call ((ok__law_wide M).mono (by omega)) hr rfl (M.glo 11 rfl) (M.kp 11 rfl) (M.bi 11 rfl) tk (sa_cons (v_ 1) (sa_cons (v_ 2) (sa_cons (se_int) (sa_nil)))) (al_cons (al_cons (al_cons (al_nil))))) (sa_nil)))))) (sb_nil)) (sb_cons (ss_if (st_cmp (op_eqG hr.units) od_eq (v_ 3) (se_int) (by with_unfolding_all rfl)) (sb_one (a_ sc_law.nd 4 (se_ix rfl (se_own (so_lst (sa_cons (se_str) (sa_cons (se_str) (sa_cons (se_str) (sa_nil)))))) (se_call ((ok__law_take M).mono (by omega)) hr rfl (M.glo 10 rfl) (M.kp 10 rfl) (M.bi 10 rfl) tk (sa_cons (v_ 1) (sa_cons (v_ 2) (sa_cons (se_int) (sa_nil)))) (al_cons (al_cons (al_cons (al_nil)))))))) (sb_nil)) (sb_cons (ss_tryN (m := md) (M.cat "LayerError" (by simp [md])) (by decide) Y rfl hr rfl rfl sc_law.nd rfl rfl rfl (by decide) (fun W' pn xe tkN po => sb_one (ss_expr (se_callN ((ok__law_raised M).mono (by omega)) hr rfl (M.glo 12 rfl) (M.kp 12 rfl) (M.bi 12 rfl) tkN (sa_cons (v_ 3) (sa_cons (v_ 4) (sa_nil))) (al_cons (al_cons (al_nil)))))) (fun a oe dd C x pn hz hf hx hot hrm => sb_cons (a_ sc_law.nd 5 (se_own (so_lst (sa_cons (se_isXc ("BadValue", ["at"], 2) (M.exc P ("BadValue", ["at"], 2) (by simp [md])) Y rfl hz hf hx rfl (M.free "isinstance" (by decide)) rfl (pv 7)) (sa_cons (se_isXc ("BadSyntax", ["at"], 5) (M.exc P ("BadSyntax", ["at"], 5) (by simp [md])) Y rfl hz hf hx rfl (M.free "isinstance" (by decide)) rfl (pv 7)) (sa_cons (se_isXc ("BadLine", ["layer", "at"], 3) (M.exc P ("BadLine", ["layer", "at"], 3) (by simp [md])) Y rfl hz hf hx rfl (M.free "isinstance" (by decide)) rfl (pv 7)) (sa_cons (se_isXc ("TooMany", ["word"], 4) (M.exc P ("TooMany", ["word"], 4) (by simp [md])) Y rfl hz hf hx rfl (M.free "isinstance" (by decide)) rfl (pv 7)) (sa_nil)))))))) (sb_cons (ss_forH PassesOwn.never hot (si_range1H rfl (M.free "range" (by decide)) (sa_cons (se_int) (sa_nil))) (stg_name (n_ sc_law.nd 6)) (sb_one (ss_if (st_cmp (op_neG (FL.RoomH.units hrm)) od_ne (se_ix rfl (v_ 5) (v_ 6)) (se_cmp (op_eqG (FL.RoomH.units hrm)) od_eq (v_ 6) (v_ 3) (by with_unfolding_all rfl)) (by with_unfolding_all rfl)) (sb_one (ss_ret (se_bl))) (sb_nil)))) (sb_cons (ss_if (st_w (sw_or (st_truth rfl (se_isXt "ValueError" Y rfl hz hf hx (by decide) rfl (M.free "isinstance" (by decide)) rfl (M.free "ValueError" (by decide)) (by decide +kernel) (pv 7))) (sw_or (st_truth rfl (se_isXt "LookupError" Y rfl hz hf hx (by decide) rfl (M.free "isinstance" (by decide)) rfl (M.free "LookupError" (by decide)) (by decide +kernel) (pv 7))) (sw_or1 (st_truth rfl (se_isXt "ArithmeticError" Y rfl hz hf hx (by decide) rfl (M.free "isinstance" (by decide)) rfl (M.free "ArithmeticError" (by decide)) (by decide +kernel) (pv 7))))))) (sb_one (ss_ret (se_bl))) (sb_nil)) (sb_cons (ss_if (st_cmp (op_eqG (FL.RoomH.units hrm)) od_eq (v_ 3) (se_int) (by with_unfolding_all rfl)) (sb_one (ss_ret (se_callH (FL.FnH.more (ok__law_so M 12) (by omega)) hrm hot rfl (M.glo 7 rfl) (M.kp 7 rfl) (M.bi 7 rfl) tk_no (sa_cons (se_xfX (f := ("word" : Str)) Y rfl hz hf hx (by decide) (pv 7)) (sa_cons (v_ 4) (sa_nil))) (al_cons (al_cons (al_nil)))))) (sb_nil)) (sb_cons (ss_if (st_cmp (op_eqG (FL.RoomH.units hrm)) od_eq (v_ 3) (se_int) (by with_unfolding_all rfl)) (sb_one (ss_ret (se_callH (FL.FnH.more (ok__law_so M 12) (by omega)) hrm hot rfl (M.glo 7 rfl) (M.kp 7 rfl) (M.bi 7 rfl) tk_no (sa_cons (se_tup (sa_cons (se_xfX (f := ("layer" : Str)) Y rfl hz hf hx (by decide) (pv 7)) (sa_cons (se_xfX (f := ("at" : Str)) Y rfl hz hf hx (by decide) (pv 7)) (sa_nil)))) (sa_cons (v_ 4) (sa_nil))) (al_cons (al_cons (al_nil)))))) (sb_nil)) (sb_one (ss_ret (se_callH (FL.FnH.more (ok__law_so M 12) (by omega)) hrm hot rfl (M.glo 7 rfl) (M.kp 7 rfl) (M.bi 7 rfl) tk_no (sa_cons (se_xfX (f := ("at" : Str)) Y rfl hz hf hx (by decide) (pv 7)) (sa_cons (v_ 4) (sa_nil))) (al_cons (al_cons (al_nil)))))))))))) (sb_one (ss_ret (se_bl)))))))))
end
end K00

set_option Elab.async false
set_option linter.all false
set_option maxRecDepth 100000
set_option maxHeartbeats 0

namespace K00
open PySem PySem.Spec L2 PyProof.Rows FL
abbrev R : PySem.W.OpenRow := PySem.W.OpenLaw.row PySem.Challenge.rw_layeredwords_k00_errors
def exK (K : PySem.W.Frag) : Bool := md.ex K && kxB md K
abbrev hk : PySem.W.Hook := HY.hookY 2500 md.fa md.fn md.ts md.tf exK
def ob (s : PySem.W.SharedT) : He.AlX := HY.obsY 2500 md.fa md.fn md.ts md.tf exK (HandSHeadRun.getT s)
theorem ob_eq (s : PySem.W.SharedT) : ob s = hk.obs s.abs := HY.obsY_eq (HandSHeadRun.getT_eq s)
def loose : List Str := [("_law_so" : Str), ("_law_numbers" : Str), ("_law_draw" : Str), ("_law_take" : Str), ("_law_wide" : Str), ("_law_raised" : Str), ("LayerError" : Str), ("BadValue" : Str), ("BadLine" : Str), ("TooMany" : Str), ("BadSyntax" : Str)]
theorem run (w : World) : HandSHeadRun.RunEq R (PySem.W.view R.prog [13]) hk ob 3000 loose w := by
  intro os
  kernel_rfl
theorem bindsI : md.bindsI := by
  intro p hp
  have hp : p = (("BadValue" : Str), [("at" : Str)], 2) ∨ p = (("BadLine" : Str), [("layer" : Str), ("at" : Str)], 3) ∨ p = (("TooMany" : Str), [("word" : Str)], 4) ∨ p = (("BadSyntax" : Str), [("at" : Str)], 5) := by simpa [md] using hp
  rcases hp with rfl | rfl | rfl | rfl
  · exact fun _ _ _ _ _ _ us hl => match us, hl with | [_, _], _ => rfl
  · exact fun _ _ _ _ _ _ us hl => match us, hl with | [_, _, _], _ => rfl
  · exact fun _ _ _ _ _ _ us hl => match us, hl with | [_, _], _ => rfl
  · exact fun _ _ _ _ _ _ us hl => match us, hl with | [_, _], _ => rfl
theorem binds : md.binds := by
  intro i hi
  have hi : i = 7 ∨ i = 8 ∨ i = 9 ∨ i = 10 ∨ i = 11 ∨ i = 12 ∨ i = 13 := by simpa [md] using hi
  rcases hi with rfl | rfl | rfl | rfl | rfl | rfl | rfl
  · exact fun _ _ _ _ _ _ us hl => match us, hl with | [_, _], _ => rfl
  · exact fun _ _ _ _ _ _ us hl => match us, hl with | [_], _ => rfl
  · exact fun _ _ _ _ _ _ us hl => match us, hl with | [_, _, _], _ => rfl
  · exact fun _ _ _ _ _ _ us hl => match us, hl with | [_, _, _], _ => rfl
  · exact fun _ _ _ _ _ _ us hl => match us, hl with | [_, _, _], _ => rfl
  · exact fun _ _ _ _ _ _ us hl => match us, hl with | [_, _], _ => rfl
  · exact fun _ _ _ _ _ _ us hl => match us, hl with | [_], _ => rfl
end K00
open PySem PySem.W PySem.Calls PyProof.Rows
theorem K00_holds (hm : ∀ ns : List Int, ns.length ≤ 63 → (∀ z ∈ ns, Builtin.Int.intBits z ≤ 1048576) → ∃ c', K00.m_law [.scr ns] none = .va (.bl true) c') : PySem.Challenge.rw_layeredwords_k00_errors.Holds := by
  w_on; o_law
  refine HandSHeadRun.head_any (r := OpenLaw.row PySem.Challenge.rw_layeredwords_k00_errors) (q := view (OpenLaw.row PySem.Challenge.rw_layeredwords_k00_errors).prog [13]) (H := K00.hk) (ob := K00.ob) (M := 3000) (loose := K00.loose) (d := HandSHeadRun.topDef (OpenLaw.row PySem.Challenge.rw_layeredwords_k00_errors).prog 13) (kwd := []) K00.ob_eq
    (by kernel_rfl) (fun s => by kernel_rfl) K00.run (by kernel_rfl) (by kernel_rfl) (by kernel_rfl) (by rfl) (by first | assumption | decide +kernel) (by decide +kernel) ⟨rfl, rfl, rfl, rfl, rfl, by decide +kernel⟩ ?hw ?hc
  case hw => w_witness2
  case hc =>
    refine LamX.walk_ofTsE (l := PySem.Challenge.rw_layeredwords_k00_errors) (n := 63) (k := 14) (x := "script") (CX := L2.CX (PySem.Challenge.rw_layeredwords_k00_errors).prog) rfl (by decide) (by kernel_rfl) ⟨rfl, by decide, by decide⟩ ?F (fun w H s e s' z => by
      obtain ⟨_, _, _, _, _, _, _, _, _, _, _, _, hW⟩ := z
      exact hW)
    intro w mg fa h Y G hmg0
    obtain ⟨K, KX, c⟩ := Y
    have hmg : mg ("law" : PySem.Str) = some (.ref fa) := by
      have e : (HandSHeadRun.topDef (OpenLaw.row PySem.Challenge.rw_layeredwords_k00_errors).prog 13).name = ("law" : PySem.Str) := by kernel_rfl
      rw [← e]
      exact hmg0
    have e0 : mg ("law" : PySem.Str) = some (.ref (He.ga K "law")) := He.glo_ok KX G (c.t.d.facts (f := .glo "law") (by simp [FL.Md.fa, K00.md]))
    rw [e0] at hmg
    cases hmg
    exact ⟨K, KX, FL.law_atK (l := PySem.Challenge.rw_layeredwords_k00_errors) (m := K00.md) (i := 13) KX G c K00.binds K00.bindsI (by decide) (by decide) rfl (fun F base ad fdt co ta Y M => K00.ok_law Y M) hm⟩

set_option Elab.async false
set_option linter.all false
set_option maxRecDepth 100000
set_option maxHeartbeats 1000000
namespace K00
open PySem PySem.Spec L2 PyProof.Rows FL
local macro_rules
  | `(tactic| simp_arith [$as,*] $[$loc]?) => `(tactic| simp only [ev_bnd, ev_bndR_ok, ev_bndR_ex, ev_bndR_bad, ev_ret, ev_lft_some, ev_lft_none, ev_k, ev_var0, ev_varS, ev_varB0, ev_varB0o, ev_varBS, ev_op, ev_un, ev_ca, ev_aNil, ev_aCons, ev_call, ev_callR_va, ev_callR_ow, ev_callR_ex, ev_tup, ev_lst, ev_ls, ev_listO, ev_listR1, ev_listR2, ev_itE, ev_itR1, ev_itR2, ev_itR3, ev_asB, ev_asR, ev_truT, ev_andT, ev_andR1, ev_andR2, ev_orT, ev_orR1, ev_orR2, ev_notT, ev_andE, ev_andER1, ev_andER2, ev_orE, ev_orER1, ev_orER2, ev_notE, ev_notER, ev_ifE, ev_ifER1, ev_ifER2, ev_sl, ev_noP, ev_soP, ev_soR, ev_ch, ev_chR1, ev_chR2, ev_ex, ev_exR, ev_exRx, ev_retS, ev_asg, ev_asgO, ev_drop, ev_if, ev_ifR1, ev_ifR2, ev_seq, ev_seqR1, ev_seqR2, ev_seqR3, ev_seqR4, ev_seqR5, ev_seqR6, ev_nx, ev_bk, ev_ct, ev_def, ev_defR1, ev_defR2, ev_defR3, ev_defR4, ev_retO0, ev_retOS, ev_forS, ev_loop0, ev_loopR1, ev_loopR2, ev_loopR3, ev_loopR4, ev_addI, ev_subI, ev_ltI, ev_leI, ev_gtI, ev_geI, ev_ltS, ev_intI, ev_lenT, ev_lenL, ev_tupT, ev_tupL, ev_lstT, ev_lstL, ev_eqI, ev_eqS, ev_neI, ev_neS, ev_truB, ev_truT1, ev_truL1, ev_truN, ev_isN0, ev_isNT, ev_isNL, ev_isNS, ev_isNI, ev_isNB, ev_noN0, ev_noNT, ev_line, ev_m1, ev_m1R, ev_asgT, ev_lcE, ev_quE, ev_wipe0, ev_wipe1, ev_yes, List.map_cons, List.map_nil, List.length_cons, List.length_nil, List.cons_append, List.nil_append, List.replicate_succ, List.replicate_zero, Nat.reduceSub, Nat.reduceAdd, Nat.reduceLT, Nat.reduceLeDiff, List.getElem?_cons_zero, List.getElem?_cons_succ, List.set_cons_zero, List.set_cons_succ, List.length_set, List.length_map, if_true, if_false, reduceIte, Option.map_some, Option.map_none, Bool.false_eq_true, Bool.not_true, Bool.not_false, Nat.zero_add, Nat.zero_lt_succ, Nat.sub_self, decide_true, decide_false, $as,*] $[$loc]?)
/-! ### draws -/
theorem atI_int {α : Type} {l : List α} {n : Int} (h0 : 0 ≤ n) (h : n < (l.length : Int)) : ∃ a, atI l n = some a ∧ a ∈ l := by
  have hl : n.toNat < l.length := by omega
  refine ⟨l[n.toNat], ?_, List.getElem_mem hl⟩
  unfold atI ixN
  rw [if_pos h0, if_pos h]
  show l[n.toNat]? = _
  rw [List.getElem?_eq_getElem hl]
theorem ix_row {l : List Int} {n : Int} (h0 : 0 ≤ n) (h : n < (l.length : Int)) : ∃ v : Int, ∀ c : CT, ixD c (.lst (l.map .int)) (.int n) = some (.int v) := by
  obtain ⟨a, h1, h2⟩ := atI_int (l := l.map FL.D.int) h0 (by simpa using h)
  obtain ⟨v, _, rfl⟩ := List.mem_map.mp h2
  exact ⟨v, fun c => h1⟩
theorem mul_ok {c : CT} {i j : Int} (h : decide (-(2 ^ 64) < j ∧ j < 2 ^ 64) = true) : mulD c (.int i) (.int j) = some (.int (i * j)) := by
  unfold mulD iiD
  exact if_pos (decide_eq_true (.inr (of_decide_eq_true h)))
theorem mod_ok {c : CT} {i j : Int} (h : 0 < j) : modD c (.int i) (.int j) = some (.int (i % j)) := by
  unfold modD iiD
  exact if_pos (decide_eq_true h)
theorem fdiv_ok {c : CT} {i j : Int} (h : decide (0 < j ∧ j < 1073741824) = true) : fdivD c (.int i) (.int j) = some (.int (i / j)) := by
  unfold fdivD iiD
  exact if_pos h
theorem m_40692 (c : CT) (i : Int) : mulD c (.int i) (.int 40692) = some (.int (i * 40692)) := mul_ok (by decide)
theorem m_7919 (c : CT) (i : Int) : mulD c (.int i) (.int 7919) = some (.int (i * 7919)) := mul_ok (by decide)
theorem m_48271 (c : CT) (i : Int) : mulD c (.int i) (.int 48271) = some (.int (i * 48271)) := mul_ok (by decide)
theorem d_399 (c : CT) (i : Int) : modD c (.int i) (.int 2147483399) = some (.int (i % 2147483399)) := mod_ok (by decide)
theorem d_647 (c : CT) (i : Int) : modD c (.int i) (.int 2147483647) = some (.int (i % 2147483647)) := mod_ok (by decide)
theorem draw1 {l : List Int} {n L v : Int} (c : CT) (e : decide (n < (l.length : Int)) = true) (hx : ∀ c : CT, ixD c (.lst (l.map .int)) (.int n) = some (.int v)) (d : ∀ (c : CT) (i : Int), modD c (.int i) (.int L) = some (.int (i % L))) : m__law_draw [.lst (l.map .int), .int n, .int L] c = .va (.int (v % L)) c := by
  unfold m__law_draw b__law_draw
  simp_arith [e, hx, d]
theorem draw2 {l : List Int} {n L v : Int} (c : CT) (e : decide (n < (l.length : Int)) = false) (d3 : ∀ c : CT, modD c (.int n) (.int (l.length : Int)) = some (.int (n % (l.length : Int)))) (hx : ∀ c : CT, ixD c (.lst (l.map .int)) (.int (n % (l.length : Int))) = some (.int v)) (d : ∀ (c : CT) (i : Int), modD c (.int i) (.int L) = some (.int (i % L))) :
    m__law_draw [.lst (l.map .int), .int n, .int L] c = .va (.int ((((v * 40692 + n * 7919 + 3) % 2147483399 * 48271 + n) % 2147483647) % L)) c := by
  unfold m__law_draw b__law_draw
  simp_arith [e, hx, d, d3, m_40692, m_7919, m_48271, d_399, d_647]
theorem draw_ok {l : List Int} (hl : l ≠ []) {n L : Int} (hn : 0 ≤ n) (hL : 0 < L) (c : CT) : ∃ k, 0 ≤ k ∧ k < L ∧ m__law_draw [.lst (l.map .int), .int n, .int L] c = .va (.int k) c := by
  have h0 : 0 < l.length := List.length_pos_iff.mpr hl
  have hlt : (0 : Int) < (l.length : Int) := by omega
  by_cases h : n < (l.length : Int)
  · obtain ⟨v, hv⟩ := ix_row hn h
    exact ⟨_, Int.emod_nonneg _ (by omega), Int.emod_lt_of_pos _ hL, draw1 c (decide_eq_true h) hv fun c i => mod_ok hL⟩
  · obtain ⟨v, hv⟩ := ix_row (l := l) (n := n % (l.length : Int)) (Int.emod_nonneg _ (by omega)) (Int.emod_lt_of_pos _ hlt)
    exact ⟨_, Int.emod_nonneg _ (by omega), Int.emod_lt_of_pos _ hL, draw2 c (decide_eq_false h) (fun c => mod_ok hlt) hv fun c i => mod_ok hL⟩
theorem spot_ix (n : Int) : ixD (some n) .spt (.int 0) = some (.int n) := rfl
theorem take1 {r : FL.D} {n L : Int} {k : Int} (h : m__law_draw [r, .int (n + 1 - 1), .int L] (some (n + 1)) = .va (.int k) (some (n + 1))) : m__law_take [r, .spt, .int L] (some n) = .va (.int k) (some (n + 1)) := by
  unfold m__law_take b__law_take
  have e1 : spotS 1 (opE addD (opE ixD (varE 1) (kE (.int 0))) (kE (.int 1))) [Sl.va r, Sl.va .spt, Sl.va (.int L)] (some n) = .nx [Sl.va r, Sl.va .spt, Sl.va (.int L)] (some (n + 1)) := ev_spot (n := n) rfl (by simp_arith [spot_ix])
  simp_arith [e1, spot_ix, h]
/-- a draw: some number below L; the counter is one further -/
theorem take_ok {l : List Int} (hl : l ≠ []) {n L : Int} (hn : 0 ≤ n) (hL : 0 < L) : ∃ k, 0 ≤ k ∧ k < L ∧ m__law_take [.lst (l.map .int), .spt, .int L] (some n) = .va (.int k) (some (n + 1)) := by
  obtain ⟨k, h1, h2, h3⟩ := draw_ok hl (n := n + 1 - 1) (L := L) (by omega) hL (some (n + 1))
  exact ⟨k, h1, h2, take1 h3⟩
/-! ### loops -/
/-- a loop whose turns keep P (the count of turns goes up), or break off keeping it -/
theorem loop_keeps {t : Tg} {body : SS} {c : CT} (K : Nat) (P : Nat → En → Prop) : ∀ (ds : List FL.D) (k : Nat) (env : En), k + ds.length ≤ K → P k env → (∀ d ∈ ds, ∀ k env, k < K → P k env → ∃ env1 env2, t d env = some env1 ∧ (body env1 c = .nx env2 c ∨ body env1 c = .bk env2 c) ∧ P (k + 1) env2) →
    ∃ k' env', k' ≤ k + ds.length ∧ loopS t body ds env c = .nx env' c ∧ P k' env'
  | [], k, env, _, h, _ => ⟨k, env, Nat.le_refl _, rfl, h⟩
  | d :: ds, k, env, hK, h, st => by
    rw [List.length_cons] at hK
    obtain ⟨env1, env2, h1, h2, h3⟩ := st d List.mem_cons_self k env (by omega) h
    rw [ev_loop1 h1]
    rcases h2 with h2 | h2
    · rw [h2, ev_loopR1]
      obtain ⟨k', env', q1, q2, q3⟩ := loop_keeps K P ds (k + 1) env2 (by omega) h3 fun d hd => st d (List.mem_cons_of_mem _ hd)
      exact ⟨k', env', by rw [List.length_cons]; omega, q2, q3⟩
    · rw [h2]
      exact ⟨k + 1, env2, by rw [List.length_cons]; omega, rfl, h3⟩
theorem appR_ok {i : Nat} {xs : List FL.D} {env : En} {d : FL.D} {c : CT} (h : xs.length < sizeLine) : appR i xs env (.ok d c) = .nx (env.set i (Sl.ow (xs ++ [d]))) c := if_pos h
theorem eqD_int {c : CT} {a b : Int} : eqD c (.int a) (.int b) = some (.bl (decide (a = b))) := rfl
theorem d_997 (c : CT) (i : Int) : modD c (.int i) (.int 997) = some (.int (i % 997)) := mod_ok (by decide)
theorem q_997 (c : CT) (i : Int) : fdivD c (.int i) (.int 997) = some (.int (i / 997)) := fdiv_ok (by decide)
theorem d_629 (c : CT) (i : Int) : modD c (.int i) (.int 2147483629) = some (.int (i % 2147483629)) := mod_ok (by decide)
theorem m_69621 (c : CT) (i : Int) : mulD c (.int i) (.int 69621) = some (.int (i * 69621)) := mul_ok (by decide)
theorem m_16807 (c : CT) (i : Int) : mulD c (.int i) (.int 16807) = some (.int (i * 16807)) := mul_ok (by decide)
theorem pow18 (c : CT) : powD c (.int 10) (.int 18) = some (.int 1000000000000000000) := by
  unfold powD iiD
  rfl
theorem app_env {s x2 x3 x4 x5 : Sl} {l : List Int} {v : Int} : [s, Sl.ow (l.map .int), x2, x3, x4, x5].set 1 (Sl.ow (l.map .int ++ [.int v])) = [s, Sl.ow ((l ++ [v]).map .int), x2, x3, x4, x5] := by
  rw [List.map_append]
  rfl
theorem small_line {n : Nat} (h : n < 5000) : n < sizeLine := by
  rw [sizeLine_eq]
  omega
def bodyA : SS := seqS (ifS (asB (opE eqD (varE 3) (kE (.int 0)))) bkS nxS) (seqS (appS 1 (opE modD (caE FL.intD (aCons (varE 3) aNil)) (kE (.int 997)))) (asgS 3 (opE fdivD (varE 3) (kE (.int 997)))))
def bodyB : SS := seqS (asgS 5 (opE modD (caE FL.intD (aCons (opE addD (opE addD (opE mulD (varE 2) (kE (.int 48271))) (opE mulD (varE 4) (kE (.int 69621)))) (kE (.int 11))) aNil)) (kE (.int 2147483647)))) (appS 1 (opE modD (caE FL.intD (aCons (opE addD (opE mulD (varE 5) (kE (.int 16807))) (varE 4)) aNil)) (kE (.int 2147483629))))
theorem bodyA_0 {s x2 x4 x5 : Sl} {l : List Int} {left : Int} (c : CT) (h : left = 0) : bodyA [s, Sl.ow (l.map .int), x2, Sl.va (.int left), x4, x5] c = .bk [s, Sl.ow (l.map .int), x2, Sl.va (.int left), x4, x5] c := by
  have e : decide (left = 0) = true := decide_eq_true h
  unfold bodyA
  simp_arith [eqD_int, e]
theorem bodyA_1 {s x2 x4 x5 : Sl} {l : List Int} {left : Int} (c : CT) (h : left ≠ 0) (hl : l.length < 5000) : bodyA [s, Sl.ow (l.map .int), x2, Sl.va (.int left), x4, x5] c = .nx [s, Sl.ow ((l ++ [left % 997]).map .int), x2, Sl.va (.int (left / 997)), x4, x5] c := by
  have e : decide (left = 0) = false := decide_eq_false h
  have hs : (l.map FL.D.int).length < sizeLine := by rw [List.length_map]; exact small_line hl
  have e2 : appS 1 (opE modD (caE FL.intD (aCons (varE 3) aNil)) (kE (.int 997))) [s, Sl.ow (l.map .int), x2, Sl.va (.int left), x4, x5] c = .nx [s, Sl.ow ((l ++ [left % 997]).map .int), x2, Sl.va (.int left), x4, x5] c := by
    rw [ev_app rfl]
    have e3 : opE modD (caE FL.intD (aCons (varE 3) aNil)) (kE (.int 997)) [s, Sl.ow (l.map .int), x2, Sl.va (.int left), x4, x5] c = .ok (.int (left % 997)) c := by simp_arith [d_997]
    rw [e3]
    show (if _ then _ else _) = _
    rw [if_pos hs, app_env]
  unfold bodyA
  simp_arith [eqD_int, e, e2, q_997]
theorem bodyB_1 {s x3 x5 : Sl} {l : List Int} {cell k : Int} (c : CT) (hl : l.length < 5000) : ∃ v w : Int, bodyB [s, Sl.ow (l.map .int), Sl.va (.int cell), x3, Sl.va (.int k), x5] c = .nx [s, Sl.ow ((l ++ [v]).map .int), Sl.va (.int cell), x3, Sl.va (.int k), Sl.va (.int w)] c := by
  have hs : (l.map FL.D.int).length < sizeLine := by rw [List.length_map]; exact small_line hl
  refine ⟨((cell * 48271 + k * 69621 + 11) % 2147483647 * 16807 + k) % 2147483629, (cell * 48271 + k * 69621 + 11) % 2147483647, ?_⟩
  generalize hw : (cell * 48271 + k * 69621 + 11) % 2147483647 = w
  have e1 : asgS 5 (opE modD (caE FL.intD (aCons (opE addD (opE addD (opE mulD (varE 2) (kE (.int 48271))) (opE mulD (varE 4) (kE (.int 69621)))) (kE (.int 11))) aNil)) (kE (.int 2147483647))) [s, Sl.ow (l.map .int), Sl.va (.int cell), x3, Sl.va (.int k), x5] c = .nx [s, Sl.ow (l.map .int), Sl.va (.int cell), x3, Sl.va (.int k), Sl.va (.int w)] c := by simp_arith [m_48271, m_69621, d_647, hw]
  have e2 : appS 1 (opE modD (caE FL.intD (aCons (opE addD (opE mulD (varE 5) (kE (.int 16807))) (varE 4)) aNil)) (kE (.int 2147483629))) [s, Sl.ow (l.map .int), Sl.va (.int cell), x3, Sl.va (.int k), Sl.va (.int w)] c = .nx [s, Sl.ow ((l ++ [(w * 16807 + k) % 2147483629]).map .int), Sl.va (.int cell), x3, Sl.va (.int k), Sl.va (.int w)] c := by
    rw [ev_app rfl]
    have e3 : opE modD (caE FL.intD (aCons (opE addD (opE mulD (varE 5) (kE (.int 16807))) (varE 4)) aNil)) (kE (.int 2147483629)) [s, Sl.ow (l.map .int), Sl.va (.int cell), x3, Sl.va (.int k), Sl.va (.int w)] c = .ok (.int ((w * 16807 + k) % 2147483629)) c := by simp_arith [m_16807, d_629]
    rw [e3]
    show (if _ then _ else _) = _
    rw [if_pos hs, app_env]
  unfold bodyB
  simp_arith [e1, e2, m_48271, m_69621, d_647, hw]
def bodyN : SS := ifS (asB (opE geD (varE 2) (opE powD (kE (.int 10)) (kE (.int 18))))) (seqS (asgS 3 (varE 2)) (forS (rng1E (aCons (kE (.int 60)) aNil)) (setT 4) bodyA)) (forS (rng1E (aCons (kE (.int 4)) aNil)) (setT 4) bodyB)
theorem rng_60 (env : En) (c : CT) : rng1E (aCons (kE (.int 60)) aNil) env c = .ok (rangeD 0 60) c := rfl
theorem rng_4 (env : En) (c : CT) : rng1E (aCons (kE (.int 4)) aNil) env c = .ok (rangeD 0 4) c := rfl
theorem rangeD_mem {d : FL.D} {n : Nat} (h : d ∈ rangeD 0 n) : ∃ k : Int, 0 ≤ k ∧ k < n ∧ d = .int k := by
  unfold rangeD at h
  obtain ⟨i, hi, rfl⟩ := List.mem_map.mp h
  have := List.mem_range.mp hi
  exact ⟨_, by omega, by omega, rfl⟩
theorem rangeD_len (n : Nat) : (rangeD 0 n).length = n := by
  unfold rangeD
  simp
theorem set4 {s x1 x2 x3 x4 x5 : Sl} {d : FL.D} : setT 4 d [s, x1, x2, x3, x4, x5] = some [s, x1, x2, x3, Sl.va d, x5] := rfl
theorem rng_60' {env : En} {t : Tg} {b : SS} {c : CT} : forS (rng1E (aCons (kE (.int 60)) aNil)) t b env c = loopS t b (rangeD 0 60) env c := by rw [ev_forS, rng_60]; rfl
theorem rng_4' {env : En} {t : Tg} {b : SS} {c : CT} : forS (rng1E (aCons (kE (.int 4)) aNil)) t b env c = loopS t b (rangeD 0 4) env c := by rw [ev_forS, rng_4]; rfl
theorem bodyN_1 {s x3 x4 x5 : Sl} {l : List Int} {cell : Int} (c : CT) (hl : l.length + 60 < 5000) : ∃ (l' : List Int) (y3 y4 y5 : Sl), l'.length ≤ l.length + 60 ∧ bodyN [s, Sl.ow (l.map .int), Sl.va (.int cell), x3, x4, x5] c = .nx [s, Sl.ow (l'.map .int), Sl.va (.int cell), y3, y4, y5] c := by
  by_cases hb : cell ≥ 1000000000000000000
  · obtain ⟨k', env', q1, q2, l', y3, y4, y5, rfl, q3⟩ := loop_keeps (t := setT 4) (body := bodyA) (c := c) 60 (fun k env => ∃ (l' : List Int) (y3 : Int) (y4 y5 : Sl), env = [s, Sl.ow (l'.map .int), Sl.va (.int cell), Sl.va (.int y3), y4, y5] ∧ l'.length ≤ l.length + k)
      (rangeD 0 60) 0 [s, Sl.ow (l.map .int), Sl.va (.int cell), Sl.va (.int cell), x4, x5] (by rw [rangeD_len]; omega) ⟨l, cell, x4, x5, rfl, Nat.le_refl _⟩ (fun d hd k env hk ⟨l', y3, y4, y5, he, h1⟩ => by
        subst he
        by_cases h0 : y3 = 0
        · exact ⟨_, _, set4, .inr (bodyA_0 c h0), l', y3, _, y5, rfl, by omega⟩
        · exact ⟨_, _, set4, .inl (bodyA_1 c h0 (by omega)), l' ++ [y3 % 997], y3 / 997, _, y5, rfl, by rw [List.length_append]; show _ + 1 ≤ _; omega⟩)
    have e : decide ((1000000000000000000 : Int) ≤ cell) = true := decide_eq_true hb
    refine ⟨l', Sl.va (.int y3), y4, y5, by rw [rangeD_len] at q1; omega, ?_⟩
    unfold bodyN
    simp_arith [pow18, e, rng_60, q2]
  · obtain ⟨k', env', q1, q2, l', y3, y4, y5, rfl, q3⟩ := loop_keeps (t := setT 4) (body := bodyB) (c := c) 4 (fun k env => ∃ (l' : List Int) (y3 y4 y5 : Sl), env = [s, Sl.ow (l'.map .int), Sl.va (.int cell), y3, y4, y5] ∧ l'.length ≤ l.length + k)
      (rangeD 0 4) 0 [s, Sl.ow (l.map .int), Sl.va (.int cell), x3, x4, x5] (by rw [rangeD_len]; omega) ⟨l, x3, x4, x5, rfl, Nat.le_refl _⟩ (fun d hd k env hk ⟨l', y3, y4, y5, he, h1⟩ => by
        subst he
        obtain ⟨j, _, _, rfl⟩ := rangeD_mem hd
        obtain ⟨v, w, e⟩ := bodyB_1 (s := s) (x3 := y3) (x5 := y5) (l := l') (cell := cell) (k := j) c (by omega)
        exact ⟨_, _, set4, .inl e, l' ++ [v], y3, _, _, rfl, by rw [List.length_append]; show _ + 1 ≤ _; omega⟩)
    have e : decide ((1000000000000000000 : Int) ≤ cell) = false := decide_eq_false hb
    refine ⟨l', y3, y4, y5, by rw [rangeD_len] at q1; omega, ?_⟩
    unfold bodyN
    simp_arith [pow18, e, rng_4, q2]
theorem cut63 (ns : List Int) (h : ns.length ≤ 63) : slD (.scr ns) none (some 63) = some (.lst (ns.map .int)) := by
  show some (FL.D.lst ((FL.cutD ns none (some 63)).map .int)) = _
  have e : FL.cutD ns none (some 63) = ns := by
    unfold FL.cutD
    rw [HT.sIx_none]
    rw [show HT.sIx ns.length ns.length (some 63) = min 63 ns.length from HT.sIx_nat ns.length ns.length 63]
    rw [show min 63 ns.length = ns.length by omega]
    simp
  rw [e]
theorem set2 {s x1 x2 x3 x4 x5 : Sl} {d : FL.D} : setT 2 d [s, x1, x2, x3, x4, x5] = some [s, x1, Sl.va d, x3, x4, x5] := rfl
theorem numbers_ok {ns : List Int} (h : ns.length ≤ 63) (c : CT) : ∃ l : List Int, l ≠ [] ∧ m__law_numbers [.scr ns] c = .ow (l.map .int) c := by
  obtain ⟨k', env', q1, q2, l', x2, x3, x4, x5, rfl, q3⟩ := loop_keeps (t := setT 2) (body := bodyN) (c := c) 63 (fun k env => ∃ (l' : List Int) (x2 x3 x4 x5 : Sl), env = [Sl.va (.scr ns), Sl.ow (l'.map .int), x2, x3, x4, x5] ∧ l'.length ≤ 60 * k)
      (ns.map .int) 0 [Sl.va (.scr ns), Sl.ow [], Sl.no, Sl.no, Sl.no, Sl.no] (by rw [List.length_map]; omega) ⟨[], _, _, _, _, rfl, Nat.le_refl _⟩ (fun d hd k env hk ⟨l', y2, y3, y4, y5, he, h1⟩ => by
        subst he
        obtain ⟨j, _, rfl⟩ := List.mem_map.mp hd
        obtain ⟨l2, z3, z4, z5, hz, e⟩ := bodyN_1 (s := Sl.va (.scr ns)) (x3 := y3) (x4 := y4) (x5 := y5) (l := l') (cell := j) c (by omega)
        exact ⟨_, _, set2, .inl e, l2, _, z3, z4, z5, rfl, by omega⟩)
  have e0 : bodyN = ifS (asB (opE geD (varE 2) (opE powD (kE (.int 10)) (kE (.int 18))))) (seqS (asgS 3 (varE 2)) (forS (rng1E (aCons (kE (.int 60)) aNil)) (setT 4) bodyA)) (forS (rng1E (aCons (kE (.int 4)) aNil)) (setT 4) bodyB) := rfl
  have it : itE (slE (varE 0) noP (soP (kE (.int 63)))) [Sl.va (.scr ns), Sl.ow [], Sl.no, Sl.no, Sl.no, Sl.no] c = .ok (ns.map .int) c := by simp_arith [cut63 ns h, ev_lft_some]
  have lp : forS (itE (slE (varE 0) noP (soP (kE (.int 63))))) (setT 2) bodyN [Sl.va (.scr ns), Sl.ow [], Sl.no, Sl.no, Sl.no, Sl.no] c = .nx [Sl.va (.scr ns), Sl.ow (l'.map .int), x2, x3, x4, x5] c := by
    rw [ev_forS, it]
    exact q2
  have z0 : (0 : Nat) ≤ sizeLine := Nat.zero_le _
  have key : ∀ b : SS, b = seqS (asgO 1 (lsE aNil)) (seqS (forS (itE (slE (varE 0) noP (soP (kE (.int 63))))) (setT 2) bodyN) (seqS (ifS (asB (opE eqD (caE FL.lenD (aCons (varB 1) aNil)) (kE (.int 0)))) (appS 1 (kE (.int 0))) nxS) (retO 1))) → ∃ l : List Int, l ≠ [] ∧ defF 6 b [.scr ns] c = .ow (l.map .int) c := fun b hb => by
    subst hb
    by_cases hn : l' = []
    · subst hn
      refine ⟨[0], by simp, ?_⟩
      have ea : appS 1 (kE (.int 0)) [Sl.va (.scr ns), Sl.ow [], x2, x3, x4, x5] c = .nx [Sl.va (.scr ns), Sl.ow [.int 0], x2, x3, x4, x5] c := by
        rw [ev_app rfl, ev_k, appR_ok (small_line (by decide))]
        rfl
      have lp' : forS (itE (slE (varE 0) noP (soP (kE (.int 63))))) (setT 2) bodyN [Sl.va (.scr ns), Sl.ow [], Sl.no, Sl.no, Sl.no, Sl.no] c = .nx [Sl.va (.scr ns), Sl.ow [], x2, x3, x4, x5] c := lp
      have as : asgO 1 (lsE aNil) [Sl.va (.scr ns), Sl.no, Sl.no, Sl.no, Sl.no, Sl.no] c = .nx [Sl.va (.scr ns), Sl.ow [], Sl.no, Sl.no, Sl.no, Sl.no] c := rfl
      have ti : asB (opE eqD (caE FL.lenD (aCons (varB 1) aNil)) (kE (.int 0))) [Sl.va (.scr ns), Sl.ow [], x2, x3, x4, x5] c = .ok true c := rfl
      show defR ((seqS (asgO 1 (lsE aNil)) _) [Sl.va (.scr ns), Sl.no, Sl.no, Sl.no, Sl.no, Sl.no] c) = _
      rw [ev_seq, as, ev_seqR1, ev_seq, lp', ev_seqR1, ev_seq, ev_if, ti, ev_ifR1, ea, ev_seqR1]
      rfl
    · refine ⟨l', hn, ?_⟩
      have hlen : 0 < l'.length := List.length_pos_iff.mpr hn
      have as : asgO 1 (lsE aNil) [Sl.va (.scr ns), Sl.no, Sl.no, Sl.no, Sl.no, Sl.no] c = .nx [Sl.va (.scr ns), Sl.ow [], Sl.no, Sl.no, Sl.no, Sl.no] c := rfl
      have d0 : decide (((l'.map FL.D.int).length : Int) = 0) = false := decide_eq_false (by rw [List.length_map]; omega)
      have ti : asB (opE eqD (caE FL.lenD (aCons (varB 1) aNil)) (kE (.int 0))) [Sl.va (.scr ns), Sl.ow (l'.map .int), x2, x3, x4, x5] c = .ok false c := by
        show asR (.bl (decide (((l'.map FL.D.int).length : Int) = 0))) c = _
        rw [d0]
        rfl
      show defR ((seqS (asgO 1 (lsE aNil)) _) [Sl.va (.scr ns), Sl.no, Sl.no, Sl.no, Sl.no, Sl.no] c) = _
      rw [ev_seq, as, ev_seqR1, ev_seq, lp, ev_seqR1, ev_seq, ev_if, ti, ev_ifR2, ev_nx, ev_seqR1]
      rfl
  exact key _ rfl
theorem rng1_int {f : AS} {env : En} {c c' : CT} {m : Nat} (h : f env c = .ok [.int (m : Int)] c') (hm : m < 1000) : rng1E f env c = .ok (rangeD 0 m) c' := by
  unfold rng1E
  rw [ev_bnd, h, ev_bndR_ok]
  have e : -(2 ^ 62) ≤ ((m : Nat) : Int) ∧ ((m : Nat) : Int) < 2 ^ 62 := by omega
  simp only [if_pos e, Int.toNat_natCast]
  rfl
end K00

set_option Elab.async false
set_option linter.all false
set_option maxRecDepth 100000
set_option maxHeartbeats 1000000
namespace K00
open PySem PySem.Spec L2 PyProof.Rows FL
local macro_rules
  | `(tactic| simp_arith [$as,*] $[$loc]?) => `(tactic| simp only [ev_bnd, ev_bndR_ok, ev_bndR_ex, ev_bndR_bad, ev_ret, ev_lft_some, ev_lft_none, ev_k, ev_var0, ev_varS, ev_varB0, ev_varB0o, ev_varBS, ev_op, ev_un, ev_ca, ev_aNil, ev_aCons, ev_call, ev_callR_va, ev_callR_ow, ev_callR_ex, ev_tup, ev_lst, ev_ls, ev_listO, ev_listR1, ev_listR2, ev_itE, ev_itR1, ev_itR2, ev_itR3, ev_asB, ev_asR, ev_truT, ev_andT, ev_andR1, ev_andR2, ev_orT, ev_orR1, ev_orR2, ev_notT, ev_andE, ev_andER1, ev_andER2, ev_orE, ev_orER1, ev_orER2, ev_notE, ev_notER, ev_ifE, ev_ifER1, ev_ifER2, ev_sl, ev_noP, ev_soP, ev_soR, ev_ch, ev_chR1, ev_chR2, ev_ex, ev_exR, ev_exRx, ev_retS, ev_asg, ev_asgO, ev_drop, ev_if, ev_ifR1, ev_ifR2, ev_seq, ev_seqR1, ev_seqR2, ev_seqR3, ev_seqR4, ev_seqR5, ev_seqR6, ev_nx, ev_bk, ev_ct, ev_def, ev_defR1, ev_defR2, ev_defR3, ev_defR4, ev_retO0, ev_retOS, ev_forS, ev_loop0, ev_loopR1, ev_loopR2, ev_loopR3, ev_loopR4, ev_addI, ev_subI, ev_ltI, ev_leI, ev_gtI, ev_geI, ev_ltS, ev_intI, ev_lenT, ev_lenL, ev_tupT, ev_tupL, ev_lstT, ev_lstL, ev_eqI, ev_eqS, ev_neI, ev_neS, ev_truB, ev_truT1, ev_truL1, ev_truN, ev_isN0, ev_isNT, ev_isNL, ev_isNS, ev_isNI, ev_isNB, ev_noN0, ev_noNT, ev_line, ev_m1, ev_m1R, ev_asgT, ev_lcE, ev_quE, ev_wipe0, ev_wipe1, ev_yes, List.map_cons, List.map_nil, List.length_cons, List.length_nil, List.cons_append, List.nil_append, List.replicate_succ, List.replicate_zero, Nat.reduceSub, Nat.reduceAdd, Nat.reduceLT, Nat.reduceLeDiff, List.getElem?_cons_zero, List.getElem?_cons_succ, List.set_cons_zero, List.set_cons_succ, List.length_set, List.length_map, if_true, if_false, reduceIte, Option.map_some, Option.map_none, Bool.false_eq_true, Bool.not_true, Bool.not_false, Nat.zero_add, Nat.zero_lt_succ, Nat.sub_self, decide_true, decide_false, $as,*] $[$loc]?)
/-- a loop that gives False at the first item that fails -/
theorem loop_all {t : Tg} {body : SS} {c : CT} (P : En → Prop) (p : FL.D → Bool) : ∀ (ds : List FL.D) (env : En), P env → (∀ d ∈ ds, ∀ env, P env → ∃ env1, t d env = some env1 ∧ ((p d = true ∧ ∃ env2, body env1 c = .nx env2 c ∧ P env2) ∨ (p d = false ∧ body env1 c = .rt (.bl false) c))) →
    (ds.all p = true ∧ ∃ env', loopS t body ds env c = .nx env' c ∧ P env') ∨ (ds.all p = false ∧ loopS t body ds env c = .rt (.bl false) c)
  | [], env, h, _ => .inl ⟨rfl, env, rfl, h⟩
  | d :: ds, env, h, st => by
    obtain ⟨env1, h1, h2⟩ := st d List.mem_cons_self env h
    rw [ev_loop1 h1, List.all_cons]
    rcases h2 with ⟨q, env2, h2, h3⟩ | ⟨q, h2⟩
    · rw [h2, ev_loopR1, q, Bool.true_and]
      exact loop_all P p ds env2 h3 fun d hd => st d (List.mem_cons_of_mem _ hd)
    · rw [h2, q]
      exact .inr ⟨rfl, rfl⟩
/-! ### so: what is the same -/
/-- data without lists, at most n deep -/
def soD : Nat → FL.D → Bool
  | _, .non => true
  | _, .bl _ => true
  | _, .int _ => true
  | _, .str _ => true
  | n + 1, .tup xs => decide (xs.length < 900) && xs.all (soD n)
  | _, _ => false
theorem soD_tup {n : Nat} {xs : List FL.D} (h : soD n (.tup xs) = true) : ∃ m, n = m + 1 ∧ xs.length < 900 ∧ ∀ d ∈ xs, soD m d = true := by
  cases n with
  | zero => cases h
  | succ m =>
    obtain ⟨h1, h2⟩ := Bool.and_eq_true_iff.mp (show (decide (xs.length < 900) && xs.all (soD m)) = true from h)
    exact ⟨m, rfl, of_decide_eq_true h1, List.all_eq_true.mp h2⟩
theorem set2so {x0 x1 x2 : Sl} {d : FL.D} : setT 2 d [x0, x1, x2] = some [x0, x1, Sl.va d] := rfl
theorem so_non (k : Nat) (c : CT) : m__law_so (k + 1) [.non, .non] c = .va (.bl true) c := by
  show defF 3 (b__law_so (m__law_so k)) _ c = _
  unfold b__law_so
  simp_arith [ev_bnd]
theorem so_bl (k : Nat) (b : Bool) (c : CT) : m__law_so (k + 1) [.bl b, .bl b] c = .va (.bl true) c := by
  have i : ∀ c, FL.isiD c [.bl b, .ty "tuple"] = some (.bl false) := fun c => rfl
  have j : ∀ c, FL.isiD c [.bl b, .ty "bool"] = some (.bl true) := fun c => rfl
  have e : ∀ c, eqD c (.bl b) (.bl b) = some (.bl true) := fun c => by cases b <;> rfl
  show defF 3 (b__law_so (m__law_so k)) _ c = _
  unfold b__law_so
  simp_arith [i, j, e]
theorem so_int (k : Nat) (b : Int) (c : CT) : m__law_so (k + 1) [.int b, .int b] c = .va (.bl true) c := by
  have i : ∀ c, FL.isiD c [.int b, .ty "tuple"] = some (.bl false) := fun c => rfl
  have j : ∀ c, FL.isiD c [.int b, .ty "bool"] = some (.bl false) := fun c => rfl
  have j2 : ∀ c, FL.isiD c [.int b, .ty "int"] = some (.bl true) := fun c => rfl
  have e : ∀ c, eqD c (.int b) (.int b) = some (.bl true) := fun c => by rw [ev_eqI, decide_eq_true rfl]
  show defF 3 (b__law_so (m__law_so k)) _ c = _
  unfold b__law_so
  simp_arith [i, j, j2, e]
theorem so_str (k : Nat) (b : Str) (c : CT) : m__law_so (k + 1) [.str b, .str b] c = .va (.bl true) c := by
  have i : ∀ c, FL.isiD c [.str b, .ty "tuple"] = some (.bl false) := fun c => rfl
  have j : ∀ c, FL.isiD c [.str b, .ty "bool"] = some (.bl false) := fun c => rfl
  have j2 : ∀ c, FL.isiD c [.str b, .ty "int"] = some (.bl false) := fun c => rfl
  have j3 : ∀ c, FL.isiD c [.str b, .ty "str"] = some (.bl true) := fun c => rfl
  have e : ∀ c, eqD c (.str b) (.str b) = some (.bl true) := fun c => by rw [ev_eqS, decide_eq_true rfl]
  show defF 3 (b__law_so (m__law_so k)) _ c = _
  unfold b__law_so
  simp_arith [i, j, j2, j3, e]
theorem so_go {k : Nat} {T : FL.D} {L : Int} {ds : List FL.D} {x2 : Sl} {c : CT} (n : ∀ c, isND c T .non = some (.bl false)) (i : ∀ c, FL.isiD c [T, .ty "tuple"] = some (.bl true)) (ln : ∀ c, FL.lenD c [T] = some (.int L)) (ne : ∀ c, neD c (.int L) (.int L) = some (.bl false))
    (rg : rng1E (aCons (caE FL.lenD (aCons (varE 1) aNil)) aNil) [Sl.va T, Sl.va T, Sl.no] c = .ok ds c)
    (lp : loopS (setT 2) (ifS (notT (truT (callE (m__law_so k) (aCons (opE ixD (varE 0) (varE 2)) (aCons (opE ixD (varE 1) (varE 2)) aNil))))) (retS (kE (.bl false))) nxS) ds [Sl.va T, Sl.va T, Sl.no] c = .nx [Sl.va T, Sl.va T, x2] c) : m__law_so (k + 1) [T, T] c = .va (.bl true) c := by
  show defF 3 (b__law_so (m__law_so k)) _ c = _
  unfold b__law_so
  simp_arith [n, i, ln, ne, rg, lp]
theorem so_tup {k n : Nat} (xs : List FL.D) (ih : ∀ (n : Nat) (d : FL.D), n < k → soD n d = true → ∀ c : CT, m__law_so k [d, d] c = .va (.bl true) c) (hk : n < k + 1) (h : soD n (.tup xs) = true) (c : CT) : m__law_so (k + 1) [.tup xs, .tup xs] c = .va (.bl true) c := by
  obtain ⟨m, rfl, hl, hm⟩ := soD_tup h
  obtain ⟨L, hL⟩ : ∃ L : Int, L = (xs.length : Int) := ⟨_, rfl⟩
  have ln : ∀ c, FL.lenD c [.tup xs] = some (.int L) := fun c => by rw [hL]; rfl
  have ne : ∀ c, neD c (.int L) (.int L) = some (.bl false) := fun c => by rw [ev_neI, decide_eq_true rfl]; rfl
  have at_ : ∀ j : Int, 0 ≤ j → j < (xs.length : Int) → ∃ d ∈ xs, ∀ c, ixD c (.tup xs) (.int j) = some d := fun j h0 h1 => by
    obtain ⟨a, e, ha⟩ := atI_int (l := xs) h0 h1
    exact ⟨a, ha, fun c => e⟩
  obtain ⟨_, env', lp, x2, rfl⟩ | ⟨q, _⟩ := loop_all (t := setT 2) (body := ifS (notT (truT (callE (m__law_so k) (aCons (opE ixD (varE 0) (varE 2)) (aCons (opE ixD (varE 1) (varE 2)) aNil))))) (retS (kE (.bl false))) nxS) (c := c)
    (fun env => ∃ x2, env = [Sl.va (.tup xs), Sl.va (.tup xs), x2]) (fun _ => true) (rangeD 0 xs.length) [Sl.va (.tup xs), Sl.va (.tup xs), Sl.no] ⟨_, rfl⟩ (fun d hd env ⟨x2, he⟩ => by
      subst he
      obtain ⟨j, j0, j1, rfl⟩ := rangeD_mem hd
      obtain ⟨d, hd, ix⟩ := at_ j j0 j1
      have ih' := fun c => ih m d (by omega) (hm d hd) c
      refine ⟨_, set2so, .inl ⟨rfl, [Sl.va (.tup xs), Sl.va (.tup xs), Sl.va (.int j)], ?_, _, rfl⟩⟩
      simp_arith [ix, ih'])
  · exact so_go (fun c => rfl) (fun c => rfl) ln ne (rng1_int (m := xs.length) rfl (by omega)) lp
  · rw [List.all_eq_true.mpr fun _ _ => rfl] at q
    cases q
theorem so_step {k : Nat} {d : FL.D} {n : Nat} (ih : ∀ (n : Nat) (d : FL.D), n < k → soD n d = true → ∀ c : CT, m__law_so k [d, d] c = .va (.bl true) c) (hk : n < k + 1) (h : soD n d = true) (c : CT) : m__law_so (k + 1) [d, d] c = .va (.bl true) c := by
  cases d with
  | non => exact so_non k  c
  | bl b => exact so_bl k b c
  | int b => exact so_int k b c
  | str b => exact so_str k b c
  | tup xs => exact so_tup xs ih hk h c
  | _ => cases n <;> cases h
theorem so_refl : ∀ (k n : Nat) (d : FL.D), n < k → soD n d = true → ∀ c : CT, m__law_so k [d, d] c = .va (.bl true) c
  | 0, n, _, h, _, _ => absurd h (Nat.not_lt_zero n)
  | k + 1, n, d, hk, h, c => so_step (fun n d => so_refl k n d) hk h c
theorem soD_str (n : Nat) (x : Str) : soD n (.str x) = true := by cases n <;> rfl
theorem soD_bl (n : Nat) (x : Bool) : soD n (.bl x) = true := by cases n <;> rfl
theorem soD_non (n : Nat) : soD n .non = true := by cases n <;> rfl
/-! ### statement by statement -/
theorem step_nx {f g : SS} {env env' : En} {c c' : CT} {r : DR} (h : f env c = .nx env' c') (k : defR (g env' c') = r) : defR (seqS f g env c) = r := by
  rw [ev_seq, h, ev_seqR1]
  exact k
end K00

set_option Elab.async false
set_option linter.all false
set_option maxRecDepth 100000
set_option maxHeartbeats 1000000
namespace K00
open PySem PySem.Spec L2 PyProof.Rows FL
local macro_rules
  | `(tactic| simp_arith [$as,*] $[$loc]?) => `(tactic| simp only [ev_bnd, ev_bndR_ok, ev_bndR_ex, ev_bndR_bad, ev_ret, ev_lft_some, ev_lft_none, ev_k, ev_var0, ev_varS, ev_varB0, ev_varB0o, ev_varBS, ev_op, ev_un, ev_ca, ev_aNil, ev_aCons, ev_call, ev_callR_va, ev_callR_ow, ev_callR_ex, ev_tup, ev_lst, ev_ls, ev_listO, ev_listR1, ev_listR2, ev_itE, ev_itR1, ev_itR2, ev_itR3, ev_asB, ev_asR, ev_truT, ev_andT, ev_andR1, ev_andR2, ev_orT, ev_orR1, ev_orR2, ev_notT, ev_andE, ev_andER1, ev_andER2, ev_orE, ev_orER1, ev_orER2, ev_notE, ev_notER, ev_ifE, ev_ifER1, ev_ifER2, ev_sl, ev_noP, ev_soP, ev_soR, ev_ch, ev_chR1, ev_chR2, ev_ex, ev_exR, ev_exRx, ev_retS, ev_asg, ev_asgO, ev_drop, ev_if, ev_ifR1, ev_ifR2, ev_seq, ev_seqR1, ev_seqR2, ev_seqR3, ev_seqR4, ev_seqR5, ev_seqR6, ev_nx, ev_bk, ev_ct, ev_def, ev_defR1, ev_defR2, ev_defR3, ev_defR4, ev_retO0, ev_retOS, ev_forS, ev_loop0, ev_loopR1, ev_loopR2, ev_loopR3, ev_loopR4, ev_addI, ev_subI, ev_ltI, ev_leI, ev_gtI, ev_geI, ev_ltS, ev_intI, ev_lenT, ev_lenL, ev_tupT, ev_tupL, ev_lstT, ev_lstL, ev_eqI, ev_eqS, ev_neI, ev_neS, ev_truB, ev_truT1, ev_truL1, ev_truN, ev_isN0, ev_isNT, ev_isNL, ev_isNS, ev_isNI, ev_isNB, ev_noN0, ev_noNT, ev_line, ev_m1, ev_m1R, ev_asgT, ev_lcE, ev_quE, ev_wipe0, ev_wipe1, ev_yes, List.map_cons, List.map_nil, List.length_cons, List.length_nil, List.cons_append, List.nil_append, List.replicate_succ, List.replicate_zero, Nat.reduceSub, Nat.reduceAdd, Nat.reduceLT, Nat.reduceLeDiff, List.getElem?_cons_zero, List.getElem?_cons_succ, List.set_cons_zero, List.set_cons_succ, List.length_set, List.length_map, if_true, if_false, reduceIte, Option.map_some, Option.map_none, Bool.false_eq_true, Bool.not_true, Bool.not_false, Nat.zero_add, Nat.zero_lt_succ, Nat.sub_self, decide_true, decide_false, $as,*] $[$loc]?)
/-! ### the errors -/
theorem m_994009 (c : CT) (i : Int) : mulD c (.int i) (.int 994009) = some (.int (i * 994009)) := mul_ok (by decide)
theorem m_997 (c : CT) (i : Int) : mulD c (.int i) (.int 997) = some (.int (i * 997)) := mul_ok (by decide)
theorem wide_eq {r : FL.D} {n L a b d : Int} (h1 : m__law_take [r, .spt, .int 997] (some n) = .va (.int a) (some (n + 1))) (h2 : m__law_take [r, .spt, .int 997] (some (n + 1)) = .va (.int b) (some (n + 1 + 1))) (h3 : m__law_take [r, .spt, .int 997] (some (n + 1 + 1)) = .va (.int d) (some (n + 1 + 1 + 1)))
    (dm : ∀ (c : CT) (i : Int), modD c (.int i) (.int L) = some (.int (i % L))) : m__law_wide [r, .spt, .int L] (some n) = .va (.int ((a * 994009 + b * 997 + d) % L)) (some (n + 1 + 1 + 1)) := by
  unfold m__law_wide b__law_wide
  simp_arith [h1, h2, h3, m_994009, m_997, dm]
theorem wide_ok {l : List Int} (hl : l ≠ []) {n L : Int} (hn : 0 ≤ n) (hL : 0 < L) : ∃ k n' : Int, 0 ≤ n' ∧ m__law_wide [.lst (l.map .int), .spt, .int L] (some n) = .va (.int k) (some n') := by
  obtain ⟨a, _, _, h1⟩ := take_ok hl (n := n) (L := 997) hn (by omega)
  obtain ⟨b, _, _, h2⟩ := take_ok hl (n := n + 1) (L := 997) (by omega) (by omega)
  obtain ⟨d, _, _, h3⟩ := take_ok hl (n := n + 1 + 1) (L := 997) (by omega) (by omega)
  exact ⟨_, n + 1 + 1 + 1, by omega, wide_eq h1 h2 h3 fun c i => mod_ok hL⟩
def xBV (d : FL.D) : Exn := ⟨("BadValue" : Str), [(("at" : Str), d)]⟩
def xBS (d : FL.D) : Exn := ⟨("BadSyntax" : Str), [(("at" : Str), d)]⟩
def xBL (d e : FL.D) : Exn := ⟨("BadLine" : Str), [(("at" : Str), e), (("layer" : Str), d)]⟩
def xTM (d : FL.D) : Exn := ⟨("TooMany" : Str), [(("word" : Str), d)]⟩
theorem r_0 (v : FL.D) (c : CT) : m__law_raised [.int 0, v] c = .ex (xBV v) c := rfl
theorem r_1 (v : FL.D) (c : CT) : m__law_raised [.int 1, v] c = .ex (xBS v) c := rfl
theorem r_2 (v w : FL.D) (c : CT) : m__law_raised [.int 2, .tup [v, w]] c = .ex (xBL v w) c := rfl
theorem r_3 (v : FL.D) (c : CT) : m__law_raised [.int 3, v] c = .ex (xTM v) c := rfl
theorem try_ev {g : SS} {i : Nat} {f : Addr → Addr → Str → SS} {env e : En} {c c' c2 : CT} {x : Exn} {d : FL.D} (h : g env c = .ex x e c') (hi : i < e.length) (hs : ∀ a dd, f a dd x.cls (e.set i (Sl.va (.exn a dd x.cls (x.fs.map (·.1)) (x.fs.map (·.2))))) c' = .rt d c2) : tryNS g i f env c = .rt d c2 := by
  unfold tryNS
  rw [h]
  show (if i < e.length then _ else _) = _
  rw [if_pos hi]
  exact endR_of hs
section
variable {s0 s1 s2 s3 s4 s5 s6 : Sl} {a dd : Addr} {x : Str} {ns : List Str} {ds : List FL.D} {b : Bool} {c : CT} {d : FL.D} {n : Str}
theorem isx8 : isxE 7 a dd b [s0, s1, s2, s3, s4, s5, s6, Sl.va (.exn a dd x ns ds)] c = .ok (.bl b) c := by
  show (if a = a ∧ dd = dd then R.ok (FL.D.bl b) c else .bad) = _
  rw [if_pos ⟨rfl, rfl⟩]
theorem xf8 (h : (ns.zip ds).lookup n = some d) : xfE 7 a dd n [s0, s1, s2, s3, s4, s5, s6, Sl.va (.exn a dd x ns ds)] c = .ok d c := by
  show (if a = a ∧ dd = dd then lft ((ns.zip ds).lookup n) c else .bad) = _
  rw [if_pos ⟨rfl, rfl⟩, h]
  rfl
theorem set6 {y : Sl} : setT 6 d [s0, s1, s2, s3, s4, s5, s6, y] = some [s0, s1, s2, s3, s4, s5, Sl.va d, y] := rfl
end
def bodyS : SS := ifS (asB (opE neD (opE ixD (varE 5) (varE 6)) (opE eqD (varE 6) (varE 3)))) (retS (kE (.bl false))) (nxS)
theorem ne_bl (b : Bool) (c : CT) : neD c (.bl b) (.bl b) = some (.bl false) := by cases b <;> rfl
theorem bodyS_ok {s0 s1 s2 v s7 : Sl} {own : List FL.D} {j kd : Int} {c : CT} (hx : ∀ c, ixD c (.lst own) (.int j) = some (.bl (decide (j = kd)))) :
    bodyS [s0, s1, s2, Sl.va (.int kd), v, Sl.va (.lst own), Sl.va (.int j), s7] c = .nx [s0, s1, s2, Sl.va (.int kd), v, Sl.va (.lst own), Sl.va (.int j), s7] c := by
  unfold bodyS
  simp_arith [hx, eqD_int, ne_bl]
theorem loopS_ok {s0 s1 s2 v s6 s7 : Sl} {kd : Int} {c : CT} {b0 b1 b2 b3 : Bool} (h0 : b0 = decide ((0 : Int) = kd)) (h1 : b1 = decide ((1 : Int) = kd)) (h2 : b2 = decide ((2 : Int) = kd)) (h3 : b3 = decide ((3 : Int) = kd)) :
    forS (rng1E (aCons (kE (.int 4)) (aNil))) (setT 6) bodyS [s0, s1, s2, Sl.va (.int kd), v, Sl.va (.lst [.bl b0, .bl b1, .bl b2, .bl b3]), s6, s7] c = .nx [s0, s1, s2, Sl.va (.int kd), v, Sl.va (.lst [.bl b0, .bl b1, .bl b2, .bl b3]), Sl.va (.int 3), s7] c := by
  subst h0 h1 h2 h3
  rw [rng_4']
  show loopS _ _ [.int 0, .int 1, .int 2, .int 3] _ _ = _
  rw [ev_loop1 set6, bodyS_ok (j := 0) (fun c => rfl), ev_loopR1, ev_loop1 set6, bodyS_ok (j := 1) (fun c => rfl), ev_loopR1, ev_loop1 set6, bodyS_ok (j := 2) (fun c => rfl), ev_loopR1, ev_loop1 set6, bodyS_ok (j := 3) (fun c => rfl), ev_loopR1]
  rfl
def A1 (a dd : Addr) (x : Str) : SS := asgS 5 (lstE (lsE (aCons (isxE 7 a dd (decide (x = ("BadValue" : Str)))) (aCons (isxE 7 a dd (decide (x = ("BadSyntax" : Str)))) (aCons (isxE 7 a dd (decide (x = ("BadLine" : Str)))) (aCons (isxE 7 a dd (decide (x = ("TooMany" : Str)))) (aNil)))))))
def A3 (a dd : Addr) : SS := ifS (orT (truT (isxE 7 a dd false)) (orT (truT (isxE 7 a dd false)) (truT (isxE 7 a dd false)))) (retS (kE (.bl false))) (nxS)
def A4 (a dd : Addr) : SS := seqS (ifS (asB (opE eqD (varE 3) (kE (.int 3)))) (retS (callE (m__law_so 12) (aCons (xfE 7 a dd ("word" : Str)) (aCons (varE 4) (aNil))))) (nxS)) (seqS (ifS (asB (opE eqD (varE 3) (kE (.int 2)))) (retS (callE (m__law_so 12) (aCons (tupE (aCons (xfE 7 a dd ("layer" : Str)) (aCons (xfE 7 a dd ("at" : Str)) (aNil)))) (aCons (varE 4) (aNil))))) (nxS)) (retS (callE (m__law_so 12) (aCons (xfE 7 a dd ("at" : Str)) (aCons (varE 4) (aNil))))))
def suS (a dd : Addr) (x : Str) : SS := seqS (A1 a dd x) (seqS (forS (rng1E (aCons (kE (.int 4)) (aNil))) (setT 6) bodyS) (seqS (A3 a dd) (A4 a dd)))
theorem so12 {d : FL.D} (h : soD 1 d = true) (c : CT) : m__law_so 12 [d, d] c = .va (.bl true) c := so_refl 12 1 d (by decide) h c
section
variable {s0 s1 s2 s5 s6 : Sl} {a dd : Addr} {c : CT} {v : FL.D}
theorem A1_ok {x : Str} {kd : Int} {ns : List Str} {ds : List FL.D} : A1 a dd x [s0, s1, s2, Sl.va (.int kd), Sl.va v, s5, s6, Sl.va (.exn a dd x ns ds)] c =
    .nx [s0, s1, s2, Sl.va (.int kd), Sl.va v, Sl.va (.lst [.bl (decide (x = ("BadValue" : Str))), .bl (decide (x = ("BadSyntax" : Str))), .bl (decide (x = ("BadLine" : Str))), .bl (decide (x = ("TooMany" : Str)))]), s6, Sl.va (.exn a dd x ns ds)] c := by
  unfold A1
  simp_arith [isx8]
theorem A3_ok {x : Str} {s3 s4 : Sl} {ns : List Str} {ds : List FL.D} : A3 a dd [s0, s1, s2, s3, s4, s5, s6, Sl.va (.exn a dd x ns ds)] c = .nx [s0, s1, s2, s3, s4, s5, s6, Sl.va (.exn a dd x ns ds)] c := by
  unfold A3
  simp_arith [isx8]
theorem su_0 {x : Str} {kd : Int} {ns : List Str} {ds : List FL.D} {r : SR} (h0 : decide (x = ("BadValue" : Str)) = decide ((0 : Int) = kd)) (h1 : decide (x = ("BadSyntax" : Str)) = decide ((1 : Int) = kd)) (h2 : decide (x = ("BadLine" : Str)) = decide ((2 : Int) = kd)) (h3 : decide (x = ("TooMany" : Str)) = decide ((3 : Int) = kd))
    (h : ∀ s5 s6, A4 a dd [s0, s1, s2, Sl.va (.int kd), Sl.va v, s5, s6, Sl.va (.exn a dd x ns ds)] c = r) : suS a dd x [s0, s1, s2, Sl.va (.int kd), Sl.va v, s5, s6, Sl.va (.exn a dd x ns ds)] c = r := by
  unfold suS
  rw [ev_seq, A1_ok, ev_seqR1, ev_seq, loopS_ok h0 h1 h2 h3, ev_seqR1, ev_seq, A3_ok, ev_seqR1]
  exact h _ _
theorem A4_1 {x : Str} {kd : Int} (e3 : decide (kd = 3) = false) (e2 : decide (kd = 2) = false) (hv : soD 1 v = true) : A4 a dd [s0, s1, s2, Sl.va (.int kd), Sl.va v, s5, s6, Sl.va (.exn a dd x [("at" : Str)] [v])] c = .rt (.bl true) c := by
  have q : ∀ c, xfE 7 a dd ("at" : Str) [s0, s1, s2, Sl.va (.int kd), Sl.va v, s5, s6, Sl.va (.exn a dd x [("at" : Str)] [v])] c = .ok v c := fun c => xf8 rfl
  unfold A4
  simp_arith [eqD_int, e3, e2, q, so12 hv]
theorem A4_3 {x : Str} (hv : soD 1 v = true) : A4 a dd [s0, s1, s2, Sl.va (.int 3), Sl.va v, s5, s6, Sl.va (.exn a dd x [("word" : Str)] [v])] c = .rt (.bl true) c := by
  have q : ∀ c, xfE 7 a dd ("word" : Str) [s0, s1, s2, Sl.va (.int 3), Sl.va v, s5, s6, Sl.va (.exn a dd x [("word" : Str)] [v])] c = .ok v c := fun c => xf8 rfl
  have e3 : decide ((3 : Int) = 3) = true := rfl
  unfold A4
  simp_arith [eqD_int, e3, q, so12 hv]
theorem A4_2 {x : Str} {w : FL.D} (hv : soD 1 (.tup [v, w]) = true) : A4 a dd [s0, s1, s2, Sl.va (.int 2), Sl.va (.tup [v, w]), s5, s6, Sl.va (.exn a dd x [("at" : Str), ("layer" : Str)] [w, v])] c = .rt (.bl true) c := by
  have q : ∀ c, xfE 7 a dd ("at" : Str) [s0, s1, s2, Sl.va (.int 2), Sl.va (.tup [v, w]), s5, s6, Sl.va (.exn a dd x [("at" : Str), ("layer" : Str)] [w, v])] c = .ok w c := fun c => xf8 rfl
  have q2 : ∀ c, xfE 7 a dd ("layer" : Str) [s0, s1, s2, Sl.va (.int 2), Sl.va (.tup [v, w]), s5, s6, Sl.va (.exn a dd x [("at" : Str), ("layer" : Str)] [w, v])] c = .ok v c := fun c => xf8 rfl
  have e3 : decide ((2 : Int) = 3) = false := rfl
  have e2 : decide ((2 : Int) = 2) = true := rfl
  unfold A4
  simp_arith [eqD_int, e3, e2, q, q2, so12 hv]
end
def tryB : SS := dropS (callE m__law_raised (aCons (varE 3) (aCons (varE 4) (aNil))))
theorem try_all {s0 s1 s2 : Sl} {c : CT} {kd : Int} {v : FL.D} (hv : (kd = 0 ∨ kd = 1) ∧ soD 1 v = true ∨ kd = 3 ∧ soD 1 v = true ∨ kd = 2 ∧ ∃ u w, v = .tup [u, w] ∧ soD 1 v = true) :
    tryNS tryB 7 suS [s0, s1, s2, Sl.va (.int kd), Sl.va v, Sl.no, Sl.no, Sl.no] c = .rt (.bl true) c := by
  rcases hv with ⟨rfl | rfl, hv⟩ | ⟨rfl, hv⟩ | ⟨rfl, u, w, rfl, hv⟩
  · refine try_ev (x := xBV v) (e := [s0, s1, s2, Sl.va (.int 0), Sl.va v, Sl.no, Sl.no, Sl.no]) (c' := c) ?_ (show 7 < 8 by decide) fun a dd => ?_
    · unfold tryB
      simp_arith [r_0] <;> rfl
    · exact su_0 (x := ("BadValue" : Str)) (by decide) (by decide) (by decide) (by decide) fun s5 s6 => A4_1 rfl rfl hv
  · refine try_ev (x := xBS v) (e := [s0, s1, s2, Sl.va (.int 1), Sl.va v, Sl.no, Sl.no, Sl.no]) (c' := c) ?_ (show 7 < 8 by decide) fun a dd => ?_
    · unfold tryB
      simp_arith [r_1] <;> rfl
    · exact su_0 (x := ("BadSyntax" : Str)) (by decide) (by decide) (by decide) (by decide) fun s5 s6 => A4_1 rfl rfl hv
  · refine try_ev (x := xTM v) (e := [s0, s1, s2, Sl.va (.int 3), Sl.va v, Sl.no, Sl.no, Sl.no]) (c' := c) ?_ (show 7 < 8 by decide) fun a dd => ?_
    · unfold tryB
      simp_arith [r_3] <;> rfl
    · exact su_0 (x := ("TooMany" : Str)) (by decide) (by decide) (by decide) (by decide) fun s5 s6 => A4_3 hv
  · refine try_ev (x := xBL u w) (e := [s0, s1, s2, Sl.va (.int 2), Sl.va (.tup [u, w]), Sl.no, Sl.no, Sl.no]) (c' := c) ?_ (show 7 < 8 by decide) fun a dd => ?_
    · unfold tryB
      simp_arith [r_2] <;> rfl
    · exact su_0 (x := ("BadLine" : Str)) (by decide) (by decide) (by decide) (by decide) fun s5 s6 => A4_2 hv
/-! ### the law -/
def L1 : SS := asgS 1 (callE m__law_numbers (aCons (varE 0) (aNil)))
def L3 : SS := asgS 3 (callE m__law_take (aCons (varE 1) (aCons (varE 2) (aCons (kE (.int 4)) (aNil)))))
def L4 : SS := asgS 4 (opE subD (callE m__law_wide (aCons (varE 1) (aCons (varE 2) (aCons (opE powD (kE (.int 10)) (kE (.int 9))) (aNil))))) (opE mulD (kE (.int 5)) (opE powD (kE (.int 10)) (kE (.int 8)))))
def L5 : SS := ifS (asB (opE eqD (varE 3) (kE (.int 2)))) (asgS 4 (tupE (aCons (varE 4) (aCons (callE m__law_wide (aCons (varE 1) (aCons (varE 2) (aCons (kE (.int 2000)) (aNil))))) (aNil))))) (nxS)
def L6 : SS := ifS (asB (opE eqD (varE 3) (kE (.int 3)))) (asgS 4 (opE ixD (lstE (lsE (aCons (kE (.str "layers")) (aCons (kE (.str "lines")) (aCons (kE (.str "readers")) (aNil)))))) (callE m__law_take (aCons (varE 1) (aCons (varE 2) (aCons (kE (.int 3)) (aNil))))))) (nxS)
theorem blaw_eq : b_law = seqS L1 (seqS (newSpot 2 0) (seqS L3 (seqS L4 (seqS L5 (seqS L6 (seqS (tryNS tryB 7 suS) (retS (kE (.bl false))))))))) := rfl
theorem pow9 (c : CT) : powD c (.int 10) (.int 9) = some (.int 1000000000) := by
  unfold powD iiD
  rfl
theorem pow8 (c : CT) : powD c (.int 10) (.int 8) = some (.int 100000000) := by
  unfold powD iiD
  rfl
theorem m_5 (c : CT) : mulD c (.int 5) (.int 100000000) = some (.int 500000000) := mul_ok (by decide)
section
variable {s0 s1 s2 s3 s4 s5 s6 s7 : Sl} {r : FL.D} {n n' kd k : Int} {c : CT} {v : FL.D}
theorem L4_ok (h : m__law_wide [r, .spt, .int 1000000000] (some n) = .va (.int k) (some n')) : L4 [s0, Sl.va r, Sl.va .spt, s3, s4, s5, s6, s7] (some n) = .nx [s0, Sl.va r, Sl.va .spt, s3, Sl.va (.int (k - 500000000)), s5, s6, s7] (some n') := by
  unfold L4
  simp_arith [pow9, pow8, m_5, h]
theorem L5_no (e : decide (kd = 2) = false) : L5 [s0, s1, s2, Sl.va (.int kd), s4, s5, s6, s7] c = .nx [s0, s1, s2, Sl.va (.int kd), s4, s5, s6, s7] c := by
  unfold L5
  simp_arith [eqD_int, e]
theorem L5_2 (h : m__law_wide [r, .spt, .int 2000] (some n) = .va (.int k) (some n')) : L5 [s0, Sl.va r, Sl.va .spt, Sl.va (.int 2), Sl.va v, s5, s6, s7] (some n) = .nx [s0, Sl.va r, Sl.va .spt, Sl.va (.int 2), Sl.va (.tup [v, .int k]), s5, s6, s7] (some n') := by
  have e2 : decide ((2 : Int) = 2) = true := rfl
  unfold L5
  simp_arith [eqD_int, e2, h]
theorem L6_no (e : decide (kd = 3) = false) : L6 [s0, s1, s2, Sl.va (.int kd), s4, s5, s6, s7] c = .nx [s0, s1, s2, Sl.va (.int kd), s4, s5, s6, s7] c := by
  unfold L6
  simp_arith [eqD_int, e]
theorem L6_3 (h : m__law_take [r, .spt, .int 3] (some n) = .va (.int k) (some n')) {w : Str} (hx : ∀ c, ixD c (.lst [.str "layers", .str "lines", .str "readers"]) (.int k) = some (.str w)) :
    L6 [s0, Sl.va r, Sl.va .spt, Sl.va (.int 3), s4, s5, s6, s7] (some n) = .nx [s0, Sl.va r, Sl.va .spt, Sl.va (.int 3), Sl.va (.str w), s5, s6, s7] (some n') := by
  have e3 : decide ((3 : Int) = 3) = true := rfl
  unfold L6
  simp_arith [eqD_int, e3, h, hx]
end
theorem fin_ok {s0 s1 s2 : Sl} {c : CT} {kd : Int} {v : FL.D} (hv : (kd = 0 ∨ kd = 1) ∧ soD 1 v = true ∨ kd = 3 ∧ soD 1 v = true ∨ kd = 2 ∧ ∃ u w, v = .tup [u, w] ∧ soD 1 v = true) :
    defR (seqS (tryNS tryB 7 suS) (retS (kE (.bl false))) [s0, s1, s2, Sl.va (.int kd), Sl.va v, Sl.no, Sl.no, Sl.no] c) = .va (.bl true) c := by
  rw [ev_seq, try_all hv]
  rfl
theorem law_true {ns : List Int} (h : ns.length ≤ 63) : ∃ c', m_law [.scr ns] none = .va (.bl true) c' := by
  obtain ⟨l, hl, nq⟩ := numbers_ok h none
  obtain ⟨kd, k0, k1, kt⟩ := take_ok hl (n := 0) (L := 4) (by omega) (by omega)
  obtain ⟨w, n1, hn1, wt⟩ := wide_ok hl (n := 0 + 1) (L := 1000000000) (by omega) (by omega)
  have sN : newSpot 2 0 [Sl.va (.scr ns), Sl.va (.lst (l.map .int)), Sl.no, Sl.no, Sl.no, Sl.no, Sl.no, Sl.no] none = .nx [Sl.va (.scr ns), Sl.va (.lst (l.map .int)), Sl.va .spt, Sl.no, Sl.no, Sl.no, Sl.no, Sl.no] (some 0) := rfl
  have l1 : L1 [Sl.va (.scr ns), Sl.no, Sl.no, Sl.no, Sl.no, Sl.no, Sl.no, Sl.no] none = .nx [Sl.va (.scr ns), Sl.va (.lst (l.map .int)), Sl.no, Sl.no, Sl.no, Sl.no, Sl.no, Sl.no] none := by
    unfold L1
    simp_arith [nq]
  have l3 : L3 [Sl.va (.scr ns), Sl.va (.lst (l.map .int)), Sl.va .spt, Sl.no, Sl.no, Sl.no, Sl.no, Sl.no] (some 0) = .nx [Sl.va (.scr ns), Sl.va (.lst (l.map .int)), Sl.va .spt, Sl.va (.int kd), Sl.no, Sl.no, Sl.no, Sl.no] (some (0 + 1)) := by
    unfold L3
    simp_arith [kt]
  have go : ∀ {r : DR}, defR (seqS L5 (seqS L6 (seqS (tryNS tryB 7 suS) (retS (kE (.bl false))))) [Sl.va (.scr ns), Sl.va (.lst (l.map .int)), Sl.va .spt, Sl.va (.int kd), Sl.va (.int (w - 500000000)), Sl.no, Sl.no, Sl.no] (some n1)) = r → m_law [.scr ns] none = r := fun q => by
    unfold m_law
    rw [blaw_eq]
    exact step_nx l1 (step_nx sN (step_nx l3 (step_nx (L4_ok wt) q)))
  by_cases e2 : kd = 2
  · subst e2
    obtain ⟨u, n2, _, ut⟩ := wide_ok hl (n := n1) (L := 2000) hn1 (by omega)
    exact ⟨_, go (step_nx (L5_2 ut) (step_nx (L6_no rfl) (fin_ok (.inr (.inr ⟨rfl, _, _, rfl, rfl⟩)))))⟩
  by_cases e3 : kd = 3
  · subst e3
    obtain ⟨u, u0, u1, ut⟩ := take_ok hl (n := n1) (L := 3) hn1 (by omega)
    have ix : ∃ x : Str, ∀ c : CT, ixD c (.lst [.str "layers", .str "lines", .str "readers"]) (.int u) = some (.str x) := by
      obtain ⟨b, h1, h2⟩ := atI_int (l := [FL.D.str "layers", .str "lines", .str "readers"]) u0 (by exact u1)
      have h2 : b = .str "layers" ∨ b = .str "lines" ∨ b = .str "readers" := by simpa using h2
      rcases h2 with rfl | rfl | rfl
      · exact ⟨_, fun c => h1⟩
      · exact ⟨_, fun c => h1⟩
      · exact ⟨_, fun c => h1⟩
    obtain ⟨x, hx⟩ := ix
    exact ⟨_, go (step_nx (L5_no rfl) (step_nx (L6_3 ut hx) (fin_ok (.inr (.inl ⟨rfl, rfl⟩)))))⟩
  · exact ⟨_, go (step_nx (L5_no (decide_eq_false e2)) (step_nx (L6_no (decide_eq_false e3)) (fin_ok (.inl ⟨by omega, rfl⟩))))⟩
end K00
theorem PySem.Challenge.cw_layeredwords_k00_errors_holds : PySem.Challenge.rw_layeredwords_k00_errors.Holds := by
  exact K00_holds fun ns h _ => K00.law_true h
