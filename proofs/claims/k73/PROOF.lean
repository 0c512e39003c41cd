import PyProof.Rows.All
import Wide.All
import OpenK.AllK
import Wide.FinOn
import KE.SortData
import KE.SortKeyHeap
import PyProof.StrWalks
import HandS.Base
import HandS.Call
import HandS.List
import HandS.Dict
import HandS.Iter
import HandS.More
import HandS.Set
import HandS.SetFor
import HandS.TupSets
import HandS.SetTxt0
import HandS.SortKw
import KE.KSortKey
import HandS.IsInst
import HandS.StrMore
import HandS.Text
import HandS.ExcOwn
import HandS.Lambda
import HandS.Style
import HandS.TupMul
import KE.KStateDown
import HandS.ForMost
import HandS.ForExc
import HandS.Words
import HandS.WordsExc
import HandS.Defaults
import HandS.TryMany
import HandS.ExcIs
import HandS.ExcValue
import HandS.ExcInit
import HandS.RaiseMore
import HandS.DictTup
import HandS.Wide
import HandS.Conv
import HandS.Head0
import HandS.Head1
import HandS.Head2
import HandS.HeadEnd
import HandS.HeadHook1
import HandS.HeadHook2
import HandS.HeadHook3
import HandS.HeadHook4
import PyProof.TupleOfSeq
import PyProof.SliceStr2
import HandS.Property
import HandS.ClsMeth
import HandS.CallLocal
import KE.KCallOwn
import PyProof.InstEq
import HandS.Walk
import HandS.FStr
import HandS.DictComp
import HandS.TupAny
import HandS.Steps
import HandS.Zip
import KE.GoesMore
import KE.GoesEnum
import KE.KExcInit
import KE.KExcPX
import KE.KExcIs
import KE.KTryMore
import HandS.ExcField
import PyProof.NeData
import PyProof.StrBlock2
import PyProof.StrLawsIn
import PyProof.CollectStr
import PyProof.ListStr
import HandS.HeadNt
import HandS.HeadWalk
import HandS.NestedK
import PySem.Challenge.RW_twowaycuts_k73_whole_mirror_rows_and_the
set_option Elab.async false
set_option linter.all false
set_option maxRecDepth 100000
set_option maxHeartbeats 4000000
/-! Sets of any kind of key: made of an iterable, sorted. What a kind must bring is a SetKit. -/
namespace XSt
open PySem PySem.Spec PyProof.Rows L2

/-- the newly made, empty one -/
def bare (w : World) : Obj := { cls := .type "set", dict := none, data := .set #[] 0 (.fresh 0 0 (!w.params.followText "set-order")) }
/-- the second heap has all that the first one has -/
def Sub (h h' : Heap) : Prop := ∀ b o, h.get? b = some o → h'.get? b = some o

theorem Sub.refl (h : Heap) : Sub h h := fun _ _ e => e
theorem Sub.trans {a b c : Heap} (x : Sub a b) (y : Sub b c) : Sub a c := fun q o e => y q o (x q o e)
theorem Sub.push (h : Heap) (o : Obj) : Sub h (h.push o) := fun _ _ e => Heap.get?_push_of_some _ e
theorem beyond {h : Heap} {b : Addr} (k : h.objs.size ≤ b) : h.get? b = none := by
  cases q : h.get? b with
  | none => rfl
  | some o => exact absurd (Heap.lt_size q) (Nat.not_lt.mpr k)

/-- items, each of them shown by a value -/
inductive Show {ι : Type} (Rel : ι → Value → Prop) : List ι → List Value → Prop
  | nil : Show Rel [] []
  | cons {x v xs vs} : Rel x v → Show Rel xs vs → Show Rel (x :: xs) (v :: vs)

structure SetKit (P : Program) (w : World) (ι κ : Type) where
  key : ι → κ
  Is : Heap → Addr → List ι → Prop
  Elt : Heap → ι → Prop
  Rel : ι → Value → Prop
  room : Around → Prop
  most : Nat
  small : most ≤ scanBound
  move : ∀ {h h' : Heap} {S : Addr} {L : List ι}, Is h S L → (∀ o, h.get? S = some o → h'.get? S = some o) → Is h' S L
  new : ∀ {h : Heap} {S : Addr}, h.get? S = some (bare w) → Is h S []
  step : ∀ {A : Around} {E : Value → Shared → Prop} {s : Shared} {h0 : Heap} {S : Addr} {L : List ι} {x : ι} {v : Value} {Q : Bool → Shared → Prop}, room A → Is s.heap S L →
    Sub h0 s.heap → h0.get? S = none → (∀ y ∈ L, Elt h0 y) → Elt h0 x → Rel x v → L.length + 1 < most →
    (∀ b h' tk L', Heap.SameBut S s.heap h' → s.toks ≤ tk → Is h' S L' → (key x ∈ L.map key → L' = L) → (key x ∉ L.map key → L'.Perm (x :: L)) → Q b { s with heap := h', toks := tk }) →
    wpAny (model P w) A (setAdd S v) Q E s
  open_ : ∀ {h : Heap} {S : Addr} {L : List ι}, Is h S L → ∃ es ep t, SetAt h S es ep t ∧ t.fits es.size = true ∧ es.size < scanBound ∧ Ris t.place.toList ∧ (w.params.followText "set-order" = true ∨ t.led = true) ∧
    Show Rel L (es.toList.map (·.2))

/-- L: what the first i of xs leave, one for each key -/
structure Part {ι κ : Type} (key : ι → κ) (xs : List ι) (i : Nat) (L : List ι) : Prop where
  from_ : ∀ y ∈ L, y ∈ xs.take i
  has : ∀ y ∈ xs.take i, key y ∈ L.map key
  once : (L.map key).Nodup
  few : L.length ≤ i

theorem take_more {α : Type} {l : List α} {i : Nat} {x : α} (e : l[i]? = some x) : l.take (i + 1) = l.take i ++ [x] := by
  rw [List.take_add_one, e]
  rfl
theorem Part.zero {ι κ : Type} (key : ι → κ) (xs : List ι) : Part key xs 0 [] :=
  { from_ := fun _ z => (by cases z), has := fun y z => (by rw [List.take_zero] at z; cases z), once := List.nodup_nil, few := Nat.le_refl _ }
theorem Part.next {ι κ : Type} {key : ι → κ} {xs L L' : List ι} {i : Nat} {x : ι} (p : Part key xs i L) (e : xs[i]? = some x)
    (c1 : key x ∈ L.map key → L' = L) (c2 : key x ∉ L.map key → L'.Perm (x :: L)) : Part key xs (i + 1) L' := by
  by_cases c : key x ∈ L.map key
  · rw [c1 c]
    refine ⟨fun y hy => ?_, fun y hy => ?_, p.once, Nat.le_succ_of_le p.few⟩
    · rw [take_more e, List.mem_append]
      exact Or.inl (p.from_ y hy)
    · rw [take_more e, List.mem_append, List.mem_singleton] at hy
      rcases hy with hy | rfl
      · exact p.has y hy
      · exact c
  · have q := c2 c
    refine ⟨fun y hy => ?_, fun y hy => ?_, ?_, ?_⟩
    · rw [take_more e, List.mem_append, List.mem_singleton]
      rcases List.mem_cons.mp (q.mem_iff.mp hy) with r | r
      · exact Or.inr r
      · exact Or.inl (p.from_ y r)
    · rw [(q.map key).mem_iff, List.map_cons, List.mem_cons]
      rw [take_more e, List.mem_append, List.mem_singleton] at hy
      rcases hy with hy | rfl
      · exact Or.inr (p.has y hy)
      · exact Or.inl rfl
    · refine (q.map key).nodup_iff.mpr ?_
      rw [List.map_cons]
      exact List.nodup_cons.mpr ⟨c, p.once⟩
    · have := q.length_eq
      have := p.few
      simp only [List.length_cons] at *
      omega

section
variable {P : Program} {w : World} {ι κ : Type} {A : Around} {E : Value → Shared → Prop} {s : Shared}

/-- the loop that takes one thing after the other into the set -/
theorem grow (Kt : SetKit P w ι κ) {I : Addr} {fp wr : List Addr} {G : Array GenState → Array GenState → Prop} {n : Nat} {Pv : Nat → Value → Prop} {St : Nat → Shared → Prop} {R : Result → Shared → Prop}
    (W : WalksS P w A.in1 I fp wr G n Pv St) {S : Addr} (hSf : S ∉ fp) {xs : List ι} (hn : n = xs.length) (lim : xs.length < Kt.most) {h0 : Heap}
    (hval : ∀ i v, Pv i v → ∃ x, xs[i]? = some x ∧ Kt.Rel x v) (elt : ∀ x ∈ xs, Kt.Elt h0 x) (hS0 : h0.get? S = none) (hw0 : ∀ b ∈ wr, h0.get? b = none) (rm : Kt.room A.in1) :
    ∀ (m i : Nat) (s : Shared), i + m = n → St i s → Sub h0 s.heap → (∃ L, Kt.Is s.heap S L ∧ Part Kt.key xs i L) →
      (∀ s' L, Moved (S :: wr) G s s' → Kt.Is s'.heap S L → Part Kt.key xs n L → Sub h0 s'.heap → R (.ok (.ret .none)) s') →
      codeAny (model P w) A (.builtin "set.update.loop" ⟨[.ref S, .ref I], []⟩) R s := by
  have wide : ∀ b ∈ wr, b ∈ S :: wr := fun b hb => List.mem_cons_of_mem _ hb
  have out : ∀ {p q : Shared}, Moved wr G p q → Sub h0 p.heap → Sub h0 q.heap := fun mv k b o e => mv.heap b o (fun z => by rw [hw0 b z] at e; cases e) (k b o e)
  have own : ∀ {p q : Shared}, Moved wr G p q → ∀ o, p.heap.get? S = some o → q.heap.get? S = some o := fun mv o e => mv.heap S o (fun z => hSf (W.sub _ z)) e
  intro m
  induction m with
  | zero =>
    intro i s him st k ⟨L, is, pt⟩ fin
    obtain rfl : i = n := by omega
    refine codeAny_builtin F.entry_set_update_loop ?_
    rw [Around.under_plainId F.plain_set_update_loop _]
    show wpAny _ A.in1 (pyNext (.ref I) >>= _) _ _ s
    exact wpAny_bind (W.done s _ _ st fun q mv => wpAny_pure (fin q L (mv.mono wide) (Kt.move is (own mv)) pt (out mv k)))
  | succ m ih =>
    intro i s him st k ⟨L, is, pt⟩ fin
    refine codeAny_builtin F.entry_set_update_loop ?_
    rw [Around.under_plainId F.plain_set_update_loop _]
    show wpAny _ A.in1 (pyNext (.ref I) >>= _) _ _ s
    refine wpAny_bind (W.item i s _ _ (by omega) st fun v q pv st' mv => ?_)
    obtain ⟨x, hx, rel⟩ := hval i v pv
    have k' := out mv k
    show wpAny _ A.in1 (holding [v] (setAdd S v) >>= _) _ _ q
    refine wpAny_bind (wpAny_holding (Kt.step rm (Kt.move is (own mv)) k' hS0 (fun y hy => elt y (List.mem_of_mem_take (pt.from_ y hy))) (elt x (List.mem_of_getElem? hx)) rel ?_ fun b h' tk L' sb tks is' c1 c2 => ?_))
    · have := pt.few
      omega
    · have k2 : Sub h0 h' := fun b o e => (sb.2 b (fun z => by rw [z, hS0] at e; cases e)).trans (k' b o e)
      refine wpAny_pure ⟨plainId_quiet F.plain_set_update_loop _, ih (i + 1) _ (by omega) (W.frame _ q _ _ st' tks fun b hb o e => ?_) k2 ⟨L', is', pt.next hx c1 c2⟩ fun r L2 mv2 is2 pt2 k3 => ?_⟩
      · exact (sb.2 b (fun z => hSf (z ▸ hb))).trans e
      · refine fin r L2 (Moved.trans W.gtrans ((mv.mono wide).then_heap tks fun b o hb e => ?_) mv2) is2 pt2 k3
        exact (sb.2 b (fun z => hb (by rw [z]; exact List.mem_cons_self ..))).trans e

/-- what iter(v) gives, once a new object lies behind the heap -/
def Iterable (P : Program) (w : World) (v : Value) (s : Shared) (n : Nat) (Pv : Nat → Value → Prop) : Prop :=
  ∀ (A' : Around) (E' : Value → Shared → Prop) (o : Obj) (Q : Value → Shared → Prop),
    (∀ (o' : Obj) (fp : List Addr) (St : Nat → Heap → Prop), (∀ A'' : Around, A''.handled = none → Walks P w A'' (s.heap.objs.size + 1) fp [s.heap.objs.size + 1] n Pv St) →
      s.heap.objs.size ∉ fp → St 0 ((s.heap.push o).push o') → Q (.ref (s.heap.objs.size + 1)) { s with heap := (s.heap.push o).push o' }) →
    wpAny (model P w) A' (pyIter v) Q E' { s with heap := s.heap.push o }
end
end XSt

/-! set(x), x of any kind that iterates; sorted(set) -/
namespace XSt
open PySem PySem.Spec PyProof.Rows L2

section
variable {P : Program} {w : World} {ι κ : Type} {A : Around} {E : Value → Shared → Prop} {s : Shared}

set_option maxHeartbeats 3200000 in
theorem set_of (Kt : SetKit P w ι κ) {T : String} {v : Value} {xs : List ι} {n : Nat} {Pv : Nat → Value → Prop} {Q : Value → Shared → Prop} (quiet : A.handled = none)
    (ty : ∀ s' : Shared, Sub s.heap s'.heap → s'.TypeIs v T) (nd : (Value.type T == Value.type "dict") = false) (ns : isSubtype (.type T) (.type "set") = pure false) (nf : isSubtype (.type T) (.type "frozenset") = pure false)
    (it : Iterable P w v s n Pv) (hn : n = xs.length) (lim : xs.length < Kt.most) (hval : ∀ i v, Pv i v → ∃ x, xs[i]? = some x ∧ Kt.Rel x v) (elt : ∀ x ∈ xs, Kt.Elt s.heap x)
    (rm : Kt.room A.in1.in1.in1)
    (fin : ∀ (h' : Heap) (tk : Nat) (L : List ι), Kt.Is h' s.heap.objs.size L → Part Kt.key xs n L → Sub s.heap h' → Q (.ref s.heap.objs.size) { s with heap := h', toks := tk }) :
    wpAny (model P w) A (call (.type "set") [v]) Q E s := by
  obtain ⟨c, tl, hmro⟩ := F.called_set.mro
  have a1 := F.called_set.made
  have a2 := F.called_set.sub
  refine wpAny_call (codeAny_of_tree ?_)
  show wpAny _ _ (callAny (.type "set") _) _ _ _
  refine wpAny_pure ⟨Code.quiet_builtin _ (by decide +kernel), codeAny_builtin F.entry_type_call ?_⟩
  rw [Around.under_plain (weight_type_call_type "set" [v] []) rfl]
  have a3 := F.called_set.notType
  have a4 := F.called_set.canCreate
  have a5 := F.typeCall_set_1 v
  repeat (any_goals (first | assumption | wp_step))
  refine codeAny_mono (code_set_led1 v (E := E) (Q₁ := fun x q => x = .ref s.heap.objs.size ∧ q = { s with heap := s.heap.push (bare w) }) ⟨rfl, rfl⟩) fun r q hr => ?_
  match r, hr with
  | .error e, hr => exact hr
  | .ok (.ret x), hr =>
    obtain ⟨rfl, rfl⟩ := hr
    have at_ : (s.heap.push (bare w)).get? s.heap.objs.size = some (bare w) := Heap.get?_push_size _ rfl
    have tS : Shared.TypeIs { s with heap := s.heap.push (bare w) } (.ref s.heap.objs.size) "set" := ⟨_, at_, rfl⟩
    have a6 := F.called_set.init.lookup
    have a7 := F.called_set.init.bind (.ref s.heap.objs.size)
    repeat (any_goals (first | assumption | wp_step))
    refine codeAny_mono (codeAny_call_builtin (R := wants (fun r q => r = .none ∧ ∃ h' tk L, q = { s with heap := h', toks := tk } ∧ Kt.Is h' s.heap.objs.size L ∧ Part Kt.key xs n L ∧ Sub s.heap h') E)
      F.called_set.init.plain F.entry_set_init (check_set_init_1 tS ?_)) fun r q hr => ?_
    · have tv : Shared.TypeIs { s with heap := s.heap.push (bare w) } v T := ty _ (Sub.push _ _)
      unfold Builtin.«set.__init__» noKeywords Builtin.Frozenset.updateFrom
      generalize hPI : pyIter = PI
      wp_walk
      subst hPI
      refine it A.in1.in1 _ (bare w) _ fun o' fp St wk nfp st0 => ?_
      refine wpAny_bind (wpAny_runValue ?_)
      have hid3 : A.in1.in1.in1.handled = none := by simp [quiet]
      have zz : ((s.heap.push (bare w)).push o').get? s.heap.objs.size = some (bare w) := Heap.get?_push_of_some _ at_
      refine grow Kt (A := A.in1.in1) (wk _ hid3).toS nfp hn lim hval elt (beyond (Nat.le_refl _)) (fun b hb => ?_) rm n 0 _ (Nat.zero_add _) st0
        ((Sub.push _ _).trans (Sub.push _ _)) ⟨[], Kt.new zz, Part.zero _ _⟩ fun q L mv is pt sb => ?_
      · rw [List.mem_singleton.mp hb]
        exact beyond (Nat.le_succ _)
      · obtain ⟨h', g2, d', tk', os'⟩ := q
        obtain rfl : g2 = s.gens := mv.gens
        obtain rfl : d' = s.drawn := mv.drawn
        obtain rfl : os' = s.os := mv.os
        show wpAny _ _ _ _ _ _
        refine wpAny_pure ?_
        show wpAny _ _ (ret Value.none) _ _ _
        exact wpAny_pure ⟨rfl, h', tk', L, rfl, is, pt, sb⟩
    · match r, hr with
      | .error e, hr => exact hr
      | .ok (.ret x), hr =>
        obtain ⟨rfl, h', tk, L, rfl, q1, q2, q3⟩ := hr
        repeat (any_goals (first | assumption | wp_step))
        exact fin _ _ _ q1 q2 q3

theorem iterable_str (x : Str) (t : Tok) : Iterable P w (.str x t) s x.cps.size (SignAt x) := by
  intro A' E' o Q h
  refine wpAny_pyIter_str fun o' St wk st0 => ?_
  have z : (s.heap.push o).objs.size = s.heap.objs.size + 1 := size_push' _ _
  rw [z]
  refine h o' [s.heap.objs.size + 1] St (fun A'' q => ?_) (fun m => absurd (List.mem_singleton.mp m) (Nat.ne_of_lt (Nat.lt_succ_self _))) st0
  have r := wk A'' q
  rw [z] at r
  exact r

theorem iterable_list {l : Addr} {items : Array Value} (hl : s.heap.IsList l items) : Iterable P w (.ref l) s items.size (fun i v => items[i]? = some v) := by
  intro A' E' o Q h
  have z : (s.heap.push o).objs.size = s.heap.objs.size + 1 := size_push' _ _
  have low : l < s.heap.objs.size := by
    obtain ⟨q, hq, _⟩ := hl
    exact Heap.lt_size hq
  refine wpAny_pyIter_list (hl.push o) ?_
  show Q (.ref (s.heap.push o).objs.size) _
  rw [z]
  refine h { cls := .type "list_iterator", data := .fields #[.ref l, .int 0 0] } [s.heap.objs.size + 1, l] _ (fun A'' q => Walks.list q (s.heap.objs.size + 1) l (Nat.ne_of_lt (Nat.lt_succ_of_lt low)) items) (fun m => ?_) ⟨⟨{ cls := .type "list_iterator", data := .fields #[.ref l, .int 0 0] }, ?_, rfl, rfl⟩, (hl.push o).push _⟩
  · rcases List.mem_cons.mp m with m | m
    · exact absurd m (Nat.ne_of_lt (Nat.lt_succ_self _))
    · exact absurd (List.mem_singleton.mp m).symm (Nat.ne_of_lt low)
  · rw [← z]
    exact Heap.get?_push_size _ rfl

theorem iterable_tuple {l : Addr} {items : Array Value} (hl : s.heap.IsTuple l items) : Iterable P w (.ref l) s items.size (fun i v => items[i]? = some v) := by
  intro A' E' o Q h
  have z : (s.heap.push o).objs.size = s.heap.objs.size + 1 := size_push' _ _
  have low : l < s.heap.objs.size := by
    obtain ⟨q, hq, _⟩ := hl
    exact Heap.lt_size hq
  refine wpAny_pyIter_tuple (hl.push o) ?_
  show Q (.ref (s.heap.push o).objs.size) _
  rw [z]
  refine h { cls := .type "tuple_iterator", data := .fields #[.ref l, .int 0 0] } [s.heap.objs.size + 1, l] _ (fun A'' q => Walks.tuple q (s.heap.objs.size + 1) l (Nat.ne_of_lt (Nat.lt_succ_of_lt low)) items) (fun m => ?_) ⟨⟨{ cls := .type "tuple_iterator", data := .fields #[.ref l, .int 0 0] }, ?_, rfl, rfl⟩, (hl.push o).push _⟩
  · rcases List.mem_cons.mp m with m | m
    · exact absurd m (Nat.ne_of_lt (Nat.lt_succ_self _))
    · exact absurd (List.mem_singleton.mp m).symm (Nat.ne_of_lt low)
  · rw [← z]
    exact Heap.get?_push_size _ rfl

theorem set_of_str (Kt : SetKit P w ι κ) {x : Str} {t : Tok} {xs : List ι} {Q : Value → Shared → Prop} (quiet : A.handled = none) (hn : x.cps.size = xs.length) (lim : xs.length < Kt.most)
    (hval : ∀ i v, SignAt x i v → ∃ y, xs[i]? = some y ∧ Kt.Rel y v) (elt : ∀ y ∈ xs, Kt.Elt s.heap y) (rm : Kt.room A.in1.in1.in1)
    (fin : ∀ (h' : Heap) (tk : Nat) (L : List ι), Kt.Is h' s.heap.objs.size L → Part Kt.key xs xs.length L → Sub s.heap h' → Q (.ref s.heap.objs.size) { s with heap := h', toks := tk }) :
    wpAny (model P w) A (call (.type "set") [.str x t]) Q E s :=
  set_of Kt (T := "str") quiet (fun _ _ => rfl) (by decide) F.sub_str_set F.sub_str_frozenset (iterable_str x t) hn lim hval elt rm (by rw [hn]; exact fin)

theorem show_at {Rel : ι → Value → Prop} : ∀ {xs : List ι} {vs : List Value}, Show Rel xs vs → ∀ (i : Nat) (v : Value), vs[i]? = some v → ∃ x, xs[i]? = some x ∧ Rel x v
  | _, _, .nil, i, v, e => by simp at e
  | x :: xs, v0 :: vs, .cons r t, 0, v, e => ⟨x, rfl, by simp at e; rw [← e]; exact r⟩
  | x :: xs, v0 :: vs, .cons r t, i + 1, v, e => show_at t i v (by simpa using e)
theorem show_len {Rel : ι → Value → Prop} : ∀ {xs : List ι} {vs : List Value}, Show Rel xs vs → xs.length = vs.length
  | _, _, .nil => rfl
  | _ :: _, _ :: _, .cons _ t => congrArg (· + 1) (show_len t)

theorem set_of_list (Kt : SetKit P w ι κ) {l : Addr} {items : Array Value} {xs : List ι} {Q : Value → Shared → Prop} (quiet : A.handled = none) (hl : s.heap.IsList l items) (sh : Show Kt.Rel xs items.toList) (lim : xs.length < Kt.most)
    (elt : ∀ y ∈ xs, Kt.Elt s.heap y) (rm : Kt.room A.in1.in1.in1)
    (fin : ∀ (h' : Heap) (tk : Nat) (L : List ι), Kt.Is h' s.heap.objs.size L → Part Kt.key xs xs.length L → Sub s.heap h' → Q (.ref s.heap.objs.size) { s with heap := h', toks := tk }) :
    wpAny (model P w) A (call (.type "set") [.ref l]) Q E s := by
  have hn : items.size = xs.length := by rw [show_len sh, Array.length_toList]
  refine set_of Kt (T := "list") quiet (fun s' k => ?_) (by decide) F.sub_list_set F.sub_list_frozenset (iterable_list hl) hn lim (fun i v e => show_at sh i v (by rw [Array.getElem?_toList]; exact e)) elt rm (by rw [hn]; exact fin)
  obtain ⟨o, ho, hc, _⟩ := hl
  exact ⟨o, k _ _ ho, hc⟩
theorem set_of_tuple (Kt : SetKit P w ι κ) {l : Addr} {items : Array Value} {xs : List ι} {Q : Value → Shared → Prop} (quiet : A.handled = none) (hl : s.heap.IsTuple l items) (sh : Show Kt.Rel xs items.toList) (lim : xs.length < Kt.most)
    (elt : ∀ y ∈ xs, Kt.Elt s.heap y) (rm : Kt.room A.in1.in1.in1)
    (fin : ∀ (h' : Heap) (tk : Nat) (L : List ι), Kt.Is h' s.heap.objs.size L → Part Kt.key xs xs.length L → Sub s.heap h' → Q (.ref s.heap.objs.size) { s with heap := h', toks := tk }) :
    wpAny (model P w) A (call (.type "set") [.ref l]) Q E s := by
  have hn : items.size = xs.length := by rw [show_len sh, Array.length_toList]
  refine set_of Kt (T := "tuple") quiet (fun s' k => ?_) (by decide) F.sub_tuple_set F.sub_tuple_frozenset (iterable_tuple hl) hn lim (fun i v e => show_at sh i v (by rw [Array.getElem?_toList]; exact e)) elt rm (by rw [hn]; exact fin)
  obtain ⟨o, ho, hc, _⟩ := hl
  exact ⟨o, k _ _ ho, hc⟩
end
end XSt

/-! sorted(set) -/
namespace XSt
open PySem PySem.Spec PyProof.Rows L2 PySem.W

theorem show_perm {ι : Type} {Rel : ι → Value → Prop} {us vs : List Value} (p : us.Perm vs) : ∀ {xs : List ι}, Show Rel xs vs → ∃ ys, ys.Perm xs ∧ Show Rel ys us := by
  induction p with
  | nil => intro xs h; exact ⟨xs, List.Perm.refl _, h⟩
  | cons v p ih =>
    intro xs h
    cases h with
    | cons r t =>
      obtain ⟨ys, q, z⟩ := ih t
      exact ⟨_ :: ys, q.cons _, .cons r z⟩
  | swap v u l =>
    intro xs h
    cases h with
    | cons r t =>
      cases t with
      | cons r2 t2 => exact ⟨_, List.Perm.swap _ _ _, .cons r2 (.cons r t2)⟩
  | trans p q ih1 ih2 =>
    intro xs h
    obtain ⟨ys, a, b⟩ := ih2 h
    obtain ⟨zs, c, d⟩ := ih1 b
    exact ⟨zs, c.trans a, d⟩

theorem show_each {ι : Type} {Rel : ι → Value → Prop} {C : ι → Prop} : ∀ {xs : List ι} {vs : List Value}, Show Rel xs vs → (∀ x ∈ xs, C x) → EachIs (fun v x => Rel x v ∧ C x) vs xs
  | _, _, .nil, _ => .nil
  | _, _, .cons r t, k => .cons ⟨r, k _ (List.mem_cons_self ..)⟩ (show_each t fun x hx => k x (List.mem_cons_of_mem _ hx))
theorem each_show {ι : Type} {Rel : ι → Value → Prop} {C : ι → Prop} : ∀ {xs : List ι} {vs : List Value}, EachIs (fun v x => Rel x v ∧ C x) vs xs → Show Rel xs vs
  | _, _, .nil => .nil
  | _, _, .cons r t => .cons r.1 (each_show t)

section
variable {P : Program} {w : World} {ι κ : Type} {A : Around} {E : Value → Shared → Prop} {s : Shared}

theorem sorted_of (Kt : SetKit P w ι κ) {S : Addr} {L : List ι} (enc : ι → PyData) {Q : Value → Shared → Prop} (quiet : A.handled = none) (is : Kt.Is s.heap S L)
    (rd : ∀ h' : Heap, Sub s.heap h' → ∀ x ∈ L, ∀ v, Kt.Rel x v → ∃ as, Reads h' v (enc x) as ∧ ∀ b ∈ as, b < s.heap.objs.size) (al : ∀ x y, alike (enc x) (enc y) = true)
    (so : ∀ l : List ι, Sortable (l.map enc)) (dp : ∀ x ∈ L, A.units + 2 + (enc x).depth < cLine)
    (fin : ∀ s' p (out : Array Value) (c : Nat) (L1 : List ι), Sub s.heap s'.heap → s'.gens = s.gens → s'.os = s.os → s.heap.objs.size ≤ p → s'.heap.get? p = some (seqObj "list" out c) →
      L1.Perm L → Show Kt.Rel (L1.mergeSort (dataLe false enc)) out.toList → Q (.ref p) s') :
    wpAny (model P w) A (call (.builtin "sorted") [.ref S]) Q E s := by
  obtain ⟨es, ep, t, sat, fit, small, ris, led, sh⟩ := Kt.open_ is
  refine Calls.call_function_entry kind_sorted plain_sorted entry_sorted (args_sorted1 _) ?_
  unfold Builtin.«sorted»
  refine wpAny_bind (m := checkCount "sorted" 1 1 _) (wpAny_pure ?_)
  refine wpAny_bind (collect_set (A := A.in1) quiet sat fit small ris led fun q vs sb sz g1 o1 pm => ?_)
  obtain ⟨L1, pL, sh1⟩ := show_perm pm sh
  have len : vs.length = L1.length := (show_len sh1).symm
  have few : L1.length ≤ sizeLine := by
    rw [pL.length_eq, show_len sh, List.length_map, Array.length_toList]
    exact fits_of_scanBound small
  refine wpAny_bind (wpAny_newList ?_ (by rw [len]; exact few))
  have hl : (q.heap.push (seqObj "list" vs.toArray 0)).get? q.heap.objs.size = some (seqObj "list" vs.toArray 0) := Heap.get?_push_size _ rfl
  have all : Sub s.heap (q.heap.push (seqObj "list" vs.toArray 0)) := Sub.trans sb (Sub.push _ _)
  have ea : EachIs (fun v x => Kt.Rel x v ∧ x ∈ L) vs L1 := show_each sh1 fun x hx => pL.mem_iff.mp hx
  have er : EachIs (fun v x => ∃ as, Reads (q.heap.push (seqObj "list" vs.toArray 0)) v (enc x) as ∧ q.heap.objs.size ∉ as) vs L1 := ea.mono fun v x ⟨r, m⟩ => by
    obtain ⟨as, r1, r2⟩ := rd _ all x m v r
    exact ⟨as, r1, fun z => absurd (r2 _ z) (Nat.not_lt.mpr sz)⟩
  have deep : ∀ x, x ∈ L1 → A.in1.units + 1 + (enc x).depth < cLine := fun x hx => by
    have h1 := dp x (pL.mem_iff.mp hx)
    have h2 : A.in1.units ≤ A.units + 1 := by simp [Around.in1]
    omega
  refine wpAny_bind (wpAny_holding (list_sort_data (s := { q with heap := q.heap.push (seqObj "list" vs.toArray 0) }) (enc := enc) hl ea er (AllAlike.of al) (so L1) few deep fun out lo eo => ?_))
  · obtain ⟨c, hc⟩ := sortedHeap_at (vs := vs) (out := out.toArray) hl
    refine wpAny_pure ⟨_, rfl, fin _ q.heap.objs.size out.toArray c L1 (fun b o e => ?_) g1 o1 sz hc pL (by simpa using each_show eo)⟩
    have k1 := sb b o e
    have lt := Heap.lt_size k1
    show (sortedHeap (q.heap.push (seqObj "list" vs.toArray 0)) q.heap.objs.size vs out.toArray).get? b = some o
    rw [sortedHeap_old (Nat.ne_of_lt lt) (by rw [size_push']; exact Nat.lt_succ_of_lt lt)]
    exact Heap.get?_push_of_some _ k1
end
end XSt

/-! the kit of sets of texts -/
namespace XSt
open PySem PySem.Spec PyProof.Rows L2 PySem.W PySem.Froz

section
variable {P : Program} {w : World} {A : Around} {E : Value → Shared → Prop} {s : Shared}

def TxRel (k : Str) (v : Value) : Prop := ∃ u, v = .str k u

structure TxIs (P : Program) (w : World) (h : Heap) (S : Addr) (L : List Str) (D : SD) : Prop where
  ob : h.get? S = some (sObj "set" D)
  el : ElemsOf (strKind P w) D.1.toList
  sh : Show TxRel L (D.1.toList.map (·.2))
  fit : D.2.2.fits D.1.size = true
  ris : Ris D.2.2.place.toList
  led : w.params.followText "set-order" = true ∨ D.2.2.led = true
  lim : L.length < scanBound

theorem is_txt {k : Str} {v : Value} : (strKind P w).is k v = true ↔ TxRel k v := by
  constructor
  · intro q
    have q' : Value.isStrOf k v = true := q
    cases v <;> simp [Value.isStrOf] at q'
    exact ⟨_, by rw [q']⟩
  · rintro ⟨u, rfl⟩
    exact is_str k u

theorem show_mem {ι : Type} {Rel : ι → Value → Prop} : ∀ {xs : List ι} {vs : List Value}, Show Rel xs vs → (∀ x ∈ xs, ∃ v ∈ vs, Rel x v) ∧ ∀ v ∈ vs, ∃ x ∈ xs, Rel x v
  | _, _, .nil => ⟨fun _ z => (by cases z), fun _ z => (by cases z)⟩
  | x :: xs, v :: vs, .cons r t => by
    obtain ⟨a, b⟩ := show_mem t
    refine ⟨fun y hy => ?_, fun u hu => ?_⟩
    · rcases List.mem_cons.mp hy with rfl | hy
      · exact ⟨v, List.mem_cons_self .., r⟩
      · obtain ⟨u, hu, z⟩ := a y hy
        exact ⟨u, List.mem_cons_of_mem _ hu, z⟩
    · rcases List.mem_cons.mp hu with rfl | hu
      · exact ⟨x, List.mem_cons_self .., r⟩
      · obtain ⟨y, hy, z⟩ := b u hu
        exact ⟨y, List.mem_cons_of_mem _ hy, z⟩

theorem TxRel.one {a b : Str} {v : Value} (x : TxRel a v) (y : TxRel b v) : a = b := by
  obtain ⟨u, rfl⟩ := x
  obtain ⟨u', e⟩ := y
  injection e

theorem TxIs.size {h : Heap} {S : Addr} {L : List Str} {D : SD} (T : TxIs P w h S L D) : D.1.size = L.length := by
  rw [show_len T.sh, List.length_map, Array.length_toList]

theorem TxIs.ok {h : Heap} {S : Addr} {L : List Str} {D : SD} (T : TxIs P w h S L D) : TxOk P w D L where
  el := T.el
  mem := fun k => by
    obtain ⟨a, b⟩ := show_mem T.sh
    constructor
    · intro hk
      obtain ⟨v, hv, r⟩ := a k hk
      obtain ⟨e, he, rfl⟩ := List.mem_map.mp hv
      exact ⟨e, he, is_txt.mpr r⟩
    · rintro ⟨e, he, q⟩
      obtain ⟨y, hy, r⟩ := b e.2 (List.mem_map.mpr ⟨e, he, rfl⟩)
      rw [TxRel.one (is_txt.mp q) r]
      exact hy
  sz := T.size
  fit := T.fit

/-- what a new text does to the table beside its order -/
theorem addTx_laid {es : Array (Int × Value)} {ep : Nat} {t : SetTable} {h : Int} {v : Value} (r : Ris t.place.toList) :
    Ris (addTx h v (es, ep, t)).2.2.place.toList ∧ (addTx h v (es, ep, t)).2.2.led = t.led ∧ (addTx h v (es, ep, t)).1.toList.Perm (es.toList ++ [(h, v)]) := by
  have p1 := layNew_ris t es h v r
  have p2 := layNew_led t es h v
  have p3 := layNew_perm t es h v
  rw [Array.toList_push] at p3
  unfold addTx
  dsimp only
  generalize layNew t es h v = N at p1 p2 p3 ⊢
  have q1 : Ris (if N.2.1.plain = true then { N.2.1 with plain := false } else N.2.1).place.toList := by
    split
    · exact p1
    · exact p1
  have q2 : (if N.2.1.plain = true then { N.2.1 with plain := false } else N.2.1).led = t.led := by
    split
    · exact p2
    · exact p2
  generalize (if N.2.1.plain = true then { N.2.1 with plain := false } else N.2.1) = t2 at q1 q2 ⊢
  unfold tailTx
  split
  · exact ⟨relayAll_ris t2 N.1 _, (relayAll_led t2 N.1 _).trans q2, (relayAll_perm t2 N.1 _).trans p3⟩
  · exact ⟨q1, q2, p3⟩

theorem txt_there {S : Addr} {L : List Str} {D : SD} {k : Str} {u : Tok} {Q : Bool → Shared → Prop} (T : TxIs P w s.heap S L D) (hk : k ∈ L) (h : Q false s) :
    wpAny (model P w) A (setAddHashed S (.str k u) (hashStr w k)) Q E s := by
  have ok := T.ok
  obtain ⟨es, ep, t⟩ := D
  have dd : (sObj "set" (es, ep, t)).data = .set es ep t := rfl
  have few : es.size < scanBound := by
    have h1 := T.size
    have h2 := T.lim
    simp only at h1
    omega
  have iself : (strKind P w).is k (.str k u) = true := is_str k u
  unfold setAddHashed setAddHashedIn
  refine wpAny_holding (wpAny_bind (wpAny_setState_of T.ob dd T.fit ?_))
  dsimp only
  rw [byScan_of rfl few T.el]
  simp only [↓reduceIte]
  unfold setAddByScan
  refine wpAny_bind (wpAny_bind (wpAny_rule (wpAny_bind (wpAny_setScan_of (knd := strKind P w) (k := k) iself T.ob dd T.fit T.el ?_))))
  obtain ⟨e, he, q⟩ := (ok.mem k).mp hk
  cases found : List.findIdx? (fun e => (strKind P w).is k e.2) es.toList with
  | none =>
    have bad := List.findIdx?_eq_none_iff.mp found e he
    rw [q] at bad
    exact absurd bad (by decide)
  | some j =>
    dsimp only
    exact wpAny_pure (wpAny_pure h)

def txKit (P : Program) (w : World) : SetKit P w Str Str where
  key := fun k => k
  Is := fun h S L => ∃ D, TxIs P w h S L D
  Elt := fun _ _ => True
  Rel := TxRel
  room := fun _ => True
  most := scanBound
  small := Nat.le_refl _
  move := fun ⟨D, T⟩ k => ⟨D, { T with ob := k _ T.ob }⟩
  new := fun {h S} e => ⟨(#[], 0, .fresh 0 0 (!w.params.followText "set-order")), {
    ob := e
    el := fun e he => by simp at he
    sh := .nil
    fit := rfl
    ris := List.Pairwise.nil
    led := by
      show _ ∨ (!w.params.followText "set-order") = true
      cases w.params.followText "set-order"
      · exact Or.inr rfl
      · exact Or.inl rfl
    lim := by decide }⟩
  step := by
    rintro A E s h0 S L x v Q _ ⟨D, T⟩ _ _ _ _ ⟨u, rfl⟩ lim fin
    unfold setAdd
    refine wpAny_holding (wpAny_bind ((strKind P w).pyHash (k := x) (is_str _ _) ?_))
    by_cases c : x ∈ L
    · refine txt_there (s := { s with toks := s.toks + 1 }) T c ?_
      exact fin false s.heap (s.toks + 1) L (Heap.SameBut.refl _ _) (Nat.le_succ _) ⟨D, T⟩ (fun _ => rfl) fun z => absurd (by rw [List.map_id']; exact c) z
    · refine add_x (s := { s with toks := s.toks + 1 }) T.ob T.ok c lim ?_
      obtain ⟨es, ep, t⟩ := D
      obtain ⟨z1, z2, z3⟩ := addTx_laid (es := es) (ep := ep) (t := t) (h := hashStr w x) (v := .str x u) T.ris
      have z4 := add_ok (k := x) u T.ok
      have z5 : ((addTx (hashStr w x) (.str x u) (es, ep, t)).1.toList.map (·.2)).Perm (.str x u :: es.toList.map (·.2)) := by
        refine (z3.map (·.2)).trans ?_
        rw [List.map_append]
        exact List.perm_append_comm
      obtain ⟨L', pL, sh⟩ := show_perm z5 (.cons ⟨u, rfl⟩ T.sh)
      refine fin true _ (s.toks + 1) L' (Heap.SameBut.update ..) (Nat.le_succ _) ⟨_, ⟨get_upd _ T.ob rfl, z4.el, sh, z4.fit, z1, ?_, ?_⟩⟩ (fun z => absurd (by rw [List.map_id'] at z; exact z) c) fun _ => pL
      · rw [z2]
        exact T.led
      · rw [pL.length_eq]
        exact lim
  open_ := fun ⟨D, T⟩ => ⟨D.1, D.2.1, D.2.2, ⟨_, T.ob, rfl, rfl⟩, T.fit, by rw [T.size]; exact T.lim, T.ris, T.led, T.sh⟩
end
end XSt

/-! the kit of sets of tuples of whole numbers and texts: the questions and the search -/
namespace XSt
open PySem PySem.Spec PyProof.Rows L2 PySem.W

section
variable {P : Program} {w : World} {A : Around} {E : Value → Shared → Prop} {s : Shared}

abbrev Tup (P : Program) (w : World) (h : Heap) (k : List Key) (b : Addr) : Prop := IsTupleKey (mixKind P w) h k b
abbrev tHash (P : Program) (w : World) (k : List Key) : Int := tupleKeyHash (mixKind P w) k

theorem Tup.sub {h h' : Heap} {k : List Key} {b : Addr} (x : Tup P w h k b) (q : Sub h h') : Tup P w h' k b := by
  obtain ⟨o, its, n, e, r⟩ := x
  exact ⟨o, its, n, q b o e, r⟩

/-- a whole number or a text -/
def Plainly (v : Value) : Prop := (∃ i t, v = .int i t) ∨ ∃ x t, v = .str x t
theorem plainly_of {k : List Key} {vs : List Value} (x : ItemsAre (mixKind P w) k vs) : ∀ v ∈ vs, Plainly v := by
  induction x with
  | nil => intro v z; cases z
  | cons q _ ih =>
    intro v z
    rcases List.mem_cons.mp z with rfl | z
    · rcases keyIs_shape q with ⟨i, t, _, e⟩ | ⟨y, t, _, e⟩
      · exact Or.inl ⟨i, t, e⟩
      · exact Or.inr ⟨y, t, e⟩
    · exact ih v z
theorem Plainly.cls {v : Value} (x : Plainly v) (n : Nat) : ofAClassStatement n v = pure false := by
  rcases x with ⟨i, t, rfl⟩ | ⟨y, t, rfl⟩ <;> cases n <;> rfl
theorem Plainly.scan {v : Value} (x : Plainly v) : v.scannable = true := by
  rcases x with ⟨i, t, rfl⟩ | ⟨y, t, rfl⟩ <;> rfl

theorem no_class {k : List Key} {b : Addr} {Q : Bool → Shared → Prop} (x : Tup P w s.heap k b) (fin : Q false s) : wpAny (model P w) A (ofAClassStatement 8 (.ref b)) Q E s := by
  have ty := x.typeIs
  obtain ⟨o, its, n, at_, _, da, all⟩ := x
  unfold ofAClassStatement
  refine wpAny_bind (wpAny_typeOf ty ?_)
  dsimp only
  simp only [show (("tuple" : String) == "tuple") = true from by decide, if_true, Bool.not_true, Bool.false_eq_true, if_false]
  try refine wpAny_bind (wpAny_pure ?_)
  try simp only [Bool.not_true, Bool.false_eq_true, if_false]
  show wpAny _ _ (seqItems? (.ref b) >>= _) _ _ s
  refine wpAny_bind (wpAny_seqItems at_ da ?_)
  dsimp only
  refine wpAny_bind ?_
  show wpAny _ _ (forIn its _ _) _ _ s
  rw [← Array.forIn_toList]
  refine wpAny_forIn_list _ (fun left r q => (r.1 = none ∧ q = s) ∧ ∀ v ∈ left, Plainly v) _ ?_ ?_ _ _ ⟨⟨rfl, rfl⟩, plainly_of all⟩
  · rintro v left r q ⟨⟨e1, rfl⟩, good⟩
    rw [(good v (List.mem_cons_self ..)).cls]
    refine wpAny_bind (wpAny_pure ?_)
    simp only [Bool.false_eq_true, if_false]
    exact wpAny_pure ⟨⟨rfl, rfl⟩, fun u z => good u (List.mem_cons_of_mem _ z)⟩
  · rintro ⟨r1, r2⟩ q ⟨⟨e1, rfl⟩, _⟩
    obtain rfl : r1 = none := e1
    exact wpAny_pure fin

theorem by_value {k : List Key} {b : Addr} {Q : Bool → Shared → Prop} (x : Tup P w s.heap k b) (fin : ∀ c, Q c s) : wpAny (model P w) A (hashByValue 8 (.ref b)) Q E s := by
  have ty := x.typeIs
  obtain ⟨o, its, n, at_, _, da, all⟩ := x
  unfold hashByValue
  refine wpAny_bind (wpAny_specialOf ty F.slot_tuple_hash.lookup ?_)
  show wpAny _ _ (seqItems? (.ref b) >>= _) _ _ s
  refine wpAny_bind (wpAny_seqItems at_ da ?_)
  refine wpAny_bind ?_
  show wpAny _ _ (forIn its _ _) _ _ s
  rw [← Array.forIn_toList]
  refine wpAny_forIn_list _ (fun left r q => (r.1 = none ∧ q = s) ∧ ∀ v ∈ left, Plainly v) _ ?_ ?_ _ _ ⟨⟨rfl, rfl⟩, plainly_of all⟩
  · rintro v left r q ⟨⟨e1, rfl⟩, good⟩
    rw [hashByValue_scannable _ (good v (List.mem_cons_self ..)).scan]
    refine wpAny_bind (wpAny_pure ?_)
    cases plainKind v with
    | true =>
      simp only [Bool.not_true, Bool.false_eq_true, if_false]
      exact wpAny_pure ⟨⟨rfl, rfl⟩, fun u z => good u (List.mem_cons_of_mem _ z)⟩
    | false =>
      simp only [Bool.not_false, if_true]
      exact wpAny_pure (wpAny_pure (fin false))
  · rintro ⟨r1, r2⟩ q ⟨⟨e1, rfl⟩, _⟩
    obtain rfl : r1 = none := e1
    exact wpAny_pure (fin true)

theorem unseen {k : List Key} {b : Addr} {Q : Bool → Shared → Prop} (x : Tup P w s.heap k b) {ys : List Value} (all : ∀ y ∈ ys, ∃ k' c, y = Value.ref c ∧ Tup P w s.heap k' c) (fin : Q false s) :
    wpAny (model P w) A (searchCouldBeSeen (.ref b) ys) Q E s := by
  unfold searchCouldBeSeen
  refine wpAny_bind (wpAny_forIn_list _ (fun left r q => (r.1 = none ∧ q = s) ∧ ∀ y ∈ left, ∃ k' c, y = Value.ref c ∧ Tup P w s.heap k' c) _ ?_ ?_ _ _ ⟨⟨rfl, rfl⟩, all⟩)
  · rintro v left r q ⟨⟨e1, rfl⟩, good⟩
    obtain ⟨k', c, rfl, tc⟩ := good v (List.mem_cons_self ..)
    have tl := fun u (z : u ∈ left) => good u (List.mem_cons_of_mem _ z)
    dsimp only
    by_cases same : (b == c || (carriedByValue (.ref b) && carriedByValue (.ref c))) = true
    · exact wp_if_pos same (wpAny_pure ⟨⟨rfl, rfl⟩, tl⟩)
    · refine wp_if_neg same (wpAny_bind (wpAny_eqIsQuiet_tuple x ?_))
      simp only [Bool.not_true, Bool.false_eq_true, if_false]
      refine wpAny_bind (wpAny_eqIsQuiet_tuple tc ?_)
      simp only [Bool.not_true, Bool.false_eq_true, if_false]
      refine wpAny_bind (no_class x ?_)
      simp only [Bool.false_eq_true, if_false]
      refine wpAny_bind (no_class tc ?_)
      simp only [Bool.false_eq_true, if_false]
      exact wpAny_pure ⟨⟨rfl, rfl⟩, tl⟩
  · rintro ⟨r1, r2⟩ q ⟨⟨e1, rfl⟩, _⟩
    obtain rfl : r1 = none := e1
    exact wpAny_pure fin

/-! the set -/
variable {κ : Type} (f : κ → List Key)
def lined (P : Program) (w : World) (L : List (Addr × κ)) : List (Int × Value) := L.map fun p => (tHash P w (f p.2), Value.ref p.1)
def hashes (P : Program) (w : World) (L : List (Addr × κ)) : List Int := L.map fun p => tHash P w (f p.2)

structure TuIs (P : Program) (w : World) (h : Heap) (S : Addr) (L : List (Addr × κ)) (es : Array (Int × Value)) (ep : Nat) (t : SetTable) : Prop where
  ob : ∃ o, h.get? S = some o ∧ o.ExactSet ∧ o.data = .set es ep t
  line : es.toList = lined f P w L
  tab : TabOk t (hashes f P w L)
  led : w.params.followText "set-order" = true ∨ t.led = true
  room : L.length * 5 < t.mask * 3
  lim : L.length < 64

variable {f} {S : Addr} {L : List (Addr × κ)} {es : Array (Int × Value)} {ep : Nat} {t : SetTable} {h : Heap}
theorem TuIs.len (T : TuIs f P w h S L es ep t) : es.size = L.length := by
  have q := congrArg List.length T.line
  rw [Array.length_toList, lined, List.length_map] at q
  exact q
theorem TuIs.places (T : TuIs f P w h S L es ep t) : t.place.size = L.length := by
  have q := T.tab.sz
  rw [hashes, List.length_map] at q
  exact q
theorem fits_by {t : SetTable} {n : Nat} (a : t.place.size = n) (b : t.dummies = #[]) (c : n ≤ t.mask) : t.fits n = true := by
  unfold SetTable.fits SetTable.fill
  rw [b, Bool.and_eq_true, beq_iff_eq, decide_eq_true_eq]
  refine ⟨a, ?_⟩
  show t.place.size + 0 ≤ t.mask
  omega
theorem TuIs.fit (T : TuIs f P w h S L es ep t) : t.fits es.size = true := by
  rw [T.len]
  refine fits_by T.places T.tab.dm ?_
  have := T.room
  omega
theorem TuIs.entry (T : TuIs f P w h S L es ep t) {i : Nat} {p : Addr × κ} (e : L[i]? = some p) : es[i]? = some (tHash P w (f p.2), Value.ref p.1) := by
  rw [← Array.getElem?_toList, T.line, lined, List.getElem?_map, e]
  rfl
end
end XSt

/-! the search among tuples -/
namespace XSt
open PySem PySem.Spec PyProof.Rows L2 PySem.W

section
variable {P : Program} {w : World} {A : Around} {E : Value → Shared → Prop} {s : Shared} {κ : Type} {f : κ → List Key} {S : Addr} {L : List (Addr × κ)} {es : Array (Int × Value)} {ep : Nat} {t : SetTable} {h : Heap}

/-- the c-th place that a search of the hash g stands at -/
abbrev stand (m : Nat) (g : Int) (c : Nat) : SetTable.Probe := nth m (runAt m (SetTable.bits g % (m + 1)) (SetTable.bits g)) c
theorem stand_plain (m : Nat) (g : Int) : ∀ c, (stand m g c).dummy = none := by
  have all : ∀ (c : Nat) (p : SetTable.Probe), p.dummy = none → (nth m p c).dummy = none := by
    intro c
    induction c with
    | zero => exact fun _ e => e
    | succ c ih =>
      intro p e
      apply ih (adv m p)
      unfold adv
      split <;> exact e
  exact fun c => all c _ rfl
theorem stand_on (m : Nat) (g : Int) (c q : Nat) : nth m (stand m g c) q = stand m g (c + q) := (nth_add m c _ q).symm

theorem seek (T : TuIs f P w s.heap S L es ep t) (here : ∀ p ∈ L, Tup P w s.heap (f p.2) p.1) {x : Addr} {k : κ} (tx : Tup P w s.heap (f k) x) (hu : A.units < cLine) {g : Int} (hg : tHash P w (f k) = g) {K : Nat}
    (kf : K < 10 * SetTable.turns t.mask) (free : (stand t.mask g K).j ∉ t.place.toList) (full : ∀ c, c < K → (stand t.mask g c).j ∈ t.place.toList) {Q : SetFound → Shared → Prop}
    (found : (∃ p ∈ L, f p.2 = f k) → Q (.there none) s) (miss : (∀ p ∈ L, f p.2 ≠ f k) → Q (.free (stand t.mask g K).j false) s) :
    ∀ (fuel c : Nat) (st : Option SetTable.Probe), st.getD (t.probeStart g) = stand t.mask g c → c ≤ K → K < c + fuel →
      (∀ (i : Nat) p, L[i]? = some p → f p.2 = f k → ∃ d, c ≤ d ∧ d < K ∧ t.place.toList[i]? = some (stand t.mask g d).j) →
      wpAny (model P w) A (setSearchFrom S (.ref x) g true fuel st) Q E s := by
  intro fuel
  induction fuel with
  | zero =>
    intro c st _ a b
    exact absurd b (by omega)
  | succ fuel ih =>
    intro c st start ck room ahead
    obtain ⟨o, ho, ex, dat⟩ := T.ob
    rw [setSearchFrom_succ]
    refine wpAny_bind (wpAny_setState_of ho dat T.fit ?_)
    dsimp only
    have even : ¬ t.gaveWay = true := by
      unfold SetTable.gaveWay
      rw [mask_odd T.tab.mok]
      decide
    refine wp_if_neg even ?_
    try refine wpAny_bind (wpAny_pure ?_)
    have hashOf : ∀ (i : Nat) p, L[i]? = some p → (es[i]?.map (·.1)).getD 0 = tHash P w (f p.2) := fun i p e => by
      rw [T.entry e]
      rfl
    have told := go_spec t T.tab.ris T.tab.dm (fun i => (es[i]?.map (·.1)).getD 0) g (10 * SetTable.turns t.mask) (K - c) (stand t.mask g c) (stand_plain _ _ _) (by omega)
      (fun q z => by rw [stand_on]; exact full _ (by omega)) (by rw [stand_on, show c + (K - c) = K from by omega]; exact free)
    have begin_ : t.probe (fun i => (es[i]?.map (·.1)).getD 0) g (st.getD (t.probeStart g)) = SetTable.probe.go t (fun i => (es[i]?.map (·.1)).getD 0) g (10 * SetTable.turns t.mask) (stand t.mask g c) := by
      rw [start]
      rfl
    rw [begin_]
    simp only [stand_on] at told
    rw [show c + (K - c) = K from by omega] at told
    rcases told with ⟨q, i, qk, at_, same, before, ans⟩ | ⟨before, ans⟩
    · rw [ans]
      dsimp only
      have il : i < L.length := by
        have z := (List.getElem?_eq_some_iff.mp at_).1
        rw [Array.length_toList, T.places] at z
        exact z
      obtain ⟨p, hp⟩ : ∃ p, L[i]? = some p := ⟨_, List.getElem?_eq_getElem il⟩
      have mp : p ∈ L := List.mem_of_getElem? hp
      have rest : wpAny (model P w) A (searchRest S (.ref x) g true fuel es t (stand t.mask g (c + q)).j i (stand t.mask g (c + (q + 1)))) Q E s := by
        unfold searchRest
        rw [T.entry hp]
        dsimp only
        refine wpAny_bind (wpAny_holding (wpAny_eqBool_tuple hu (here p mp) tx ?_))
        refine wpAny_bind (wpAny_setState_of ho dat T.fit ?_)
        dsimp only
        by_cases eq : f p.2 = f k
        · exact wp_if_pos (by simp [eq]) (wpAny_pure (found ⟨p, mp, eq⟩))
        · refine wp_if_neg (by simp [eq]) ?_
          try refine wpAny_bind (wpAny_pure ?_)
          rw [sameMem]
          dsimp only
          have live : t.slot (stand t.mask g (c + q)).j = .live i := slot_live T.tab.ris at_
          simp only [if_true, live, T.entry hp]
          refine wpAny_bind (wpAny_isSame_ref_self (wpAny_bind (wpAny_pure ?_)))
          simp only [if_true]
          refine wp_if_neg (by simp [eq]) (ih (c + (q + 1)) _ rfl (by omega) (by omega) fun i' p' e' k' => ?_)
          obtain ⟨d, d1, d2, d3⟩ := ahead i' p' e' k'
          refine ⟨d, ?_, d2, d3⟩
          -- the place of an equal one lies further on: it is neither passed nor this one
          apply Decidable.byContradiction
          intro bad
          by_cases lt : d < c + q
          · refine before (d - c) i' (by omega) (by rw [show c + (d - c) = d from by omega]; exact d3) ?_
            rw [← hg, ← k']
            exact hashOf i' p' e'
          · obtain rfl : d = c + q := by omega
            have z := slot_live T.tab.ris d3
            rw [live] at z
            injection z with z
            rw [← z, hp] at e'
            injection e' with e'
            rw [e'] at eq
            exact eq k'
      by_cases led : t.led = true
      · refine wp_if_neg (by simp [led]) ?_
        try refine wpAny_bind (wpAny_pure ?_)
        exact rest
      · refine wp_if_pos (by simp [led]) (wpAny_bind (unseen tx (fun y hy => ?_) ?_))
        · obtain ⟨e, he, rfl⟩ := List.mem_map.mp hy
          have he' : e ∈ es.toList := (by simpa using he : e ∈ es ∧ e.1 = g).1 |> fun z => by simpa using z
          rw [T.line, lined] at he'
          obtain ⟨p', m', rfl⟩ := List.mem_map.mp he'
          exact ⟨_, p'.1, rfl, here p' m'⟩
        · refine wp_if_neg (by decide) ?_
          try refine wpAny_bind (wpAny_pure ?_)
          exact rest
    · rw [ans]
      dsimp only
      refine wpAny_pure (miss fun p m eq => ?_)
      obtain ⟨i, il, rfl⟩ := List.getElem_of_mem m
      have e : L[i]? = some L[i] := List.getElem?_eq_getElem il
      obtain ⟨d, d1, d2, d3⟩ := ahead i _ e eq
      refine before (d - c) i (by omega) (by rw [show c + (d - c) = d from by omega]; exact d3) ?_
      rw [← hg, ← eq]
      exact hashOf i _ e

theorem seek_all (T : TuIs f P w s.heap S L es ep t) (here : ∀ p ∈ L, Tup P w s.heap (f p.2) p.1) {x : Addr} {k : κ} (tx : Tup P w s.heap (f k) x) (hu : A.units < cLine) {Q : SetFound → Shared → Prop}
    (found : (∃ p ∈ L, f p.2 = f k) → Q (.there none) s)
    (miss : ∀ K, (∀ p ∈ L, f p.2 ≠ f k) → way t.mask (tHash P w (f k)) K ∉ t.place.toList → (∀ c, c < K → way t.mask (tHash P w (f k)) c ∈ t.place.toList) → Q (.free (way t.mask (tHash P w (f k)) K) false) s) :
    wpAny (model P w) A (setSearch S (.ref x) (tHash P w (f k)) true) Q E s := by
  have hl : (hashes f P w L).length = L.length := by rw [hashes, List.length_map]
  obtain ⟨K, k1, k2, k3⟩ := T.tab.first (by have := T.room; omega) (tHash P w (f k))
  have big : K < 100000 := by
    have z : 10 * SetTable.turns t.mask ≤ 2000 := by
      unfold SetTable.turns
      rcases T.tab.mok with e | e | e <;> omega
    omega
  unfold setSearch
  refine seek T here tx hu rfl k1 k2 k3 found (fun n => miss K n k2 k3) 100000 0 none rfl (Nat.zero_le _) (by omega) fun i p e eq => ?_
  have e2 : (hashes f P w L)[i]? = some (tHash P w (f k)) := by
    rw [hashes, List.getElem?_map, e, ← eq]
    rfl
  have il : i < t.place.toList.length := by
    rw [Array.length_toList, T.places]
    exact (List.getElem?_eq_some_iff.mp e).1
  have e3 := List.getElem?_eq_getElem il
  obtain ⟨d, d1, d2⟩ := T.tab.before k2 e2 e3
  exact ⟨d, Nat.zero_le _, d1, by rw [e3]; exact congrArg some d2.symm⟩
end
end XSt

/-! a tuple put into the set; the kit -/
namespace XSt
open PySem PySem.Spec PyProof.Rows L2 PySem.W

section
variable {P : Program} {w : World} {A : Around} {E : Value → Shared → Prop} {s : Shared} {κ : Type} {f : κ → List Key} {S : Addr} {L : List (Addr × κ)} {es : Array (Int × Value)} {ep : Nat} {t : SetTable} {h : Heap}

theorem shuffled (line : es.toList = lined f P w L) {order : Array Nat} (pm : order.toList.Perm (List.range L.length)) :
    ∃ L2, (order.filterMap (es[·]?)).toList = lined f P w L2 ∧ L2.Perm L ∧ hashes f P w L2 = order.toList.map fun i => (es.map (·.1)).getD i 0 := by
  have ent : ∀ i : Nat, es[i]? = (L[i]?).map fun p => (tHash P w (f p.2), Value.ref p.1) := fun i => by
    rw [← Array.getElem?_toList, line, lined, List.getElem?_map]
  refine ⟨order.toList.filterMap (fun i => L[i]?), ?_, ?_, ?_⟩
  · rw [Array.toList_filterMap, lined, List.map_filterMap]
    exact congrArg (fun z => List.filterMap z order.toList) (funext ent)
  · have z := pm.filterMap (fun i => L[i]?)
    rw [List.filterMap_getElem?_range_length] at z
    exact z
  · have all : ∀ l : List Nat, (∀ i ∈ l, i < L.length) → hashes f P w (l.filterMap fun i => L[i]?) = l.map fun i => (es.map (·.1)).getD i 0 := by
      intro l
      induction l with
      | nil => intro _; rfl
      | cons i l ih =>
        intro k
        have il := k i (List.mem_cons_self ..)
        have e := List.getElem?_eq_getElem il
        have e2 : (es.map (·.1)).getD i 0 = tHash P w (f (L[i]).2) := by
          rw [Array.getD_eq_getD_getElem?, Array.getElem?_map, ent i, e]
          rfl
        rw [List.filterMap_cons_some e, List.map_cons, ← ih fun j z => k j (List.mem_cons_of_mem _ z), e2]
        rfl
    exact all _ fun i z => List.mem_range.mp (pm.mem_iff.mp z)

theorem relaid_in {o : Obj} (ho : s.heap.get? S = some o) (ex : o.ExactSet) (dat : o.data = .set es ep t) (line : es.toList = lined f P w L) (pl : t.place.size = L.length) (dm : t.dummies = #[]) (ml : L.length ≤ t.mask)
    (led : w.params.followText "set-order" = true ∨ t.led = true) (lim : L.length < 64) {wanted M : Nat} (size : SetTable.sizeAbove wanted - 1 = M) (ok : MaskOk M) (size2 : SetTable.sizeAbove wanted ≤ 128) (room : L.length * 5 < M * 3)
    {Q : Unit → Shared → Prop} (fin : ∀ h' L' es' ep' t', Heap.SameBut S s.heap h' → TuIs f P w h' S L' es' ep' t' → L'.Perm L → Q () { s with heap := h' }) : wpAny (model P w) A (setRelay S wanted) Q E s := by
  have len : es.size = L.length := by
    have q := congrArg List.length line
    rw [Array.length_toList, lined, List.length_map] at q
    exact q
  have len2 : (es.map (·.1)).size = L.length := by rw [Array.size_map, len]
  have fit : t.fits es.size = true := by
    rw [len]
    exact fits_by pl dm ml
  obtain ⟨t', order, e, pm, tab, e1, e2, e3, e4⟩ := relaid_ok t (hs := es.map (·.1)) (wanted := wanted) size ok (by omega)
  rw [len2] at pm
  obtain ⟨L2, l1, l2, l3⟩ := shuffled (f := f) (P := P) (w := w) line pm
  rw [← l3] at tab
  have len3 : (order.filterMap (es[·]?)).size = L.length := by
    have q := congrArg List.length l1
    rw [Array.length_toList, lined, List.length_map, l2.length_eq] at q
    exact q
  have sl : (64 : Nat) ≤ sizeLine := by rw [sizeLine_eq]; decide
  rw [setRelay_eq]
  refine wpAny_bind (wpAny_setState_of ho dat fit ?_)
  dsimp only
  refine wp_if_neg (by rw [sizeLine_eq]; omega) ?_
  try refine wpAny_bind (wpAny_pure ?_)
  rw [e]
  dsimp only
  refine wpAny_bind (wp_if_neg (by rw [len3, len]; simp) ?_)
  try refine wpAny_bind (wpAny_pure ?_)
  refine wpAny_pure ?_
  dsimp only
  refine wpAny_storeSet_of ho dat (fin _ L2 _ (ep + 1) t' (Heap.SameBut.update ..) ⟨⟨_, store_at ho dat, ex, rfl⟩, l1, tab, by rw [e2]; exact led, ?_, by rw [l2.length_eq]; exact lim⟩ l2) (by omega)
  rw [l2.length_eq, e1]
  exact room

theorem put_in (T : TuIs f P w s.heap S L es ep t) (here : ∀ p ∈ L, Tup P w s.heap (f p.2) p.1) {x : Addr} {k : κ} (tx : Tup P w s.heap (f k) x) (hu : A.units < cLine) (lim : L.length + 1 < 64) {Q : Bool → Shared → Prop}
    (fin : ∀ b h' L' es' ep' t', Heap.SameBut S s.heap h' → TuIs f P w h' S L' es' ep' t' → ((∃ p ∈ L, f p.2 = f k) → L' = L) → ((∀ p ∈ L, f p.2 ≠ f k) → L'.Perm ((x, k) :: L)) → Q b { s with heap := h' }) :
    wpAny (model P w) A (setAddHashed S (.ref x) (tHash P w (f k))) Q E s := by
  obtain ⟨o, ho, ex, dat⟩ := T.ob
  have room := T.room
  have sl : (64 : Nat) ≤ sizeLine := by rw [sizeLine_eq]; decide
  unfold setAddHashed
  refine wpAny_holding ?_
  rw [show (100000 : Nat) = 99999 + 1 from rfl, setAddHashedIn_succ]
  refine wpAny_bind (wpAny_setState_of ho dat T.fit ?_)
  dsimp only
  refine wp_if_neg (by simp [byScan, Value.scannable]) ?_
  try refine wpAny_bind (wpAny_pure ?_)
  refine wpAny_bind (seek_all T here tx hu (fun old => ?_) fun K new k2 k3 => ?_)
  · dsimp only
    refine wpAny_pure (fin false s.heap L es ep t (Heap.SameBut.refl _ _) T (fun _ => rfl) fun z => ?_)
    obtain ⟨p, m, e⟩ := old
    exact absurd e (z p m)
  · dsimp only
    refine wpAny_bind (wpAny_setState_of ho dat T.fit ?_)
    dsimp only
    obtain ⟨b1, b2, b3, b4, b5, b6, b7, b8, b9⟩ := T.tab.put k2 k3
    generalize t.put (way t.mask (tHash P w (f k)) K) = pt at b1 b3 b4 b5 b6 b7 b8 b9 ⊢
    obtain ⟨t1, at_⟩ := pt
    dsimp only at b1 b3 b4 b5 b6 b7 b8 b9 ⊢
    rw [← b1] at b2 b3
    have grown : (SetTable.insertAt es at_ (tHash P w (f k), Value.ref x)).toList = lined f P w (L.take at_ ++ (x, k) :: L.drop at_) := by
      rw [SetTable.toList_insertAt, T.line]
      simp only [lined, List.map_append, List.map_cons, List.map_take, List.map_drop]
    have hs1 : hashes f P w (L.take at_ ++ (x, k) :: L.drop at_) = (hashes f P w L).take at_ ++ tHash P w (f k) :: (hashes f P w L).drop at_ := by
      simp only [hashes, List.map_append, List.map_cons, List.map_take, List.map_drop]
    have pm : (L.take at_ ++ (x, k) :: L.drop at_).Perm ((x, k) :: L) := by
      have z : (L.take at_ ++ (x, k) :: L.drop at_).Perm ((x, k) :: (L.take at_ ++ L.drop at_)) := List.perm_middle
      rw [List.take_append_drop] at z
      exact z
    rw [← hs1] at b3
    have hl : (hashes f P w L).length = L.length := by rw [hashes, List.length_map]
    rw [hl] at b9
    have inner : ∀ t2 : SetTable, t2.place = t1.place → t2.dummies = t1.dummies → t2.mask = t1.mask → t2.led = t1.led →
        wpAny (model P w) A (do
          storeSet S (SetTable.insertAt es at_ (tHash P w (f k), Value.ref x)) t2
          if !false && t2.tooFull then setRelay S (SetTable.grown (es.size + 1))
          return true) Q E s := fun t2 c1 c2 c3 c4 => by
      have tab2 : TabOk t2 (hashes f P w (L.take at_ ++ (x, k) :: L.drop at_)) := by
        obtain ⟨d1, d2, d3, d4, d5, d6⟩ := b3
        exact ⟨by rw [c1]; exact d1, by rw [c2]; exact d2, by rw [c1]; exact d3, by rw [c3]; exact d4, by rw [c1, c3]; exact d5, by rw [c1, c3]; exact d6⟩
      have fill2 : t2.fill = L.length + 1 := by
        rw [← b9]
        show t2.place.size + t2.dummies.size = t1.place.size + t1.dummies.size
        rw [c1, c2]
      have mask2 : t2.mask = t.mask := c3.trans b4
      generalize L.take at_ ++ (x, k) :: L.drop at_ = L1 at grown hs1 pm b3 tab2
      generalize SetTable.insertAt es at_ (tHash P w (f k), Value.ref x) = es1 at grown ⊢
      have n1 : L1.length = L.length + 1 := pm.length_eq
      have n2 : es1.size = L.length + 1 := by
        have q := congrArg List.length grown
        rw [Array.length_toList, lined, List.length_map, n1] at q
        exact q
      refine wpAny_bind (wpAny_storeSet_of ho dat ?_ (by omega))
      have led2 : w.params.followText "set-order" = true ∨ t2.led = true := by
        rw [c4, b5]
        exact T.led
      have sb : Heap.SameBut S s.heap (s.heap.update S (Obj.putSet es1 t2)) := Heap.SameBut.update ..
      have ho1 := store_at (es' := es1) (t' := t2) ho dat
      by_cases full : t2.tooFull = true
      · have f1 := full
        unfold SetTable.tooFull at f1
        rw [decide_eq_true_eq, fill2, mask2] at f1
        have two : (t.mask = 7 ∧ L.length = 4) ∨ (t.mask = 31 ∧ L.length = 18) := by
          rcases T.tab.mok with e | e | e
          · exact Or.inl ⟨e, by omega⟩
          · exact Or.inr ⟨e, by omega⟩
          · omega
        have pl2 : t2.place.size = L1.length := by
          have q := tab2.sz
          rw [hashes, List.length_map] at q
          exact q
        have go : ∀ M, SetTable.sizeAbove (SetTable.grown (es.size + 1)) - 1 = M → MaskOk M → SetTable.sizeAbove (SetTable.grown (es.size + 1)) ≤ 128 → L1.length * 5 < M * 3 →
            wpAny (model P w) A (setRelay S (SetTable.grown (es.size + 1))) (fun _ q => wpAny (model P w) A (pure true) Q E q) E { s with heap := s.heap.update S (Obj.putSet es1 t2) } := fun M m1 m2 m3 m4 => by
          refine relaid_in (s := { s with heap := s.heap.update S (Obj.putSet es1 t2) }) ho1 ex rfl grown pl2 tab2.dm (by rw [n1, mask2]; omega) led2 (by omega) m1 m2 m3 m4 fun h2 L2 es2 ep2 u2 sb2 T2 pm2 => ?_
          refine wpAny_pure (fin true h2 L2 es2 ep2 u2 (sb.trans sb2) T2 (fun z => ?_) fun _ => pm2.trans pm)
          obtain ⟨p, m, e⟩ := z
          exact absurd e (new p m)
        refine wp_if_pos (by simp [full]) (wpAny_bind ?_)
        rw [T.len] at go ⊢
        rcases two with ⟨_, e⟩ | ⟨_, e⟩
        · rw [e] at go ⊢
          exact go 31 (by rw [size_20]) (Or.inr (Or.inl rfl)) (by rw [size_20]; decide) (by omega)
        · rw [e] at go ⊢
          exact go 127 (by rw [size_76]) (Or.inr (Or.inr rfl)) (by rw [size_76]; decide) (by omega)
      · have f1 := full
        unfold SetTable.tooFull at f1
        rw [decide_eq_true_eq, fill2] at f1
        refine wp_if_neg (by simp [full]) ?_
        try refine wpAny_bind (wpAny_pure ?_)
        refine wpAny_pure (fin true _ L1 es1 (ep + 1) t2 sb ⟨⟨_, ho1, ex, rfl⟩, grown, tab2, led2, by omega, by omega⟩ (fun z => ?_) fun _ => pm)
        obtain ⟨p, m, e⟩ := z
        exact absurd e (new p m)
    have tail : ∀ c : Bool, wpAny (model P w) A (do
          storeSet S (SetTable.insertAt es at_ (tHash P w (f k), Value.ref x)) (if c = true then t1 else { t1 with plain := false })
          if !false && (if c = true then t1 else { t1 with plain := false }).tooFull then setRelay S (SetTable.grown (es.size + 1))
          return true) Q E s := fun c => by
      cases c with
      | true => exact inner t1 rfl rfl rfl rfl
      | false => exact inner { t1 with plain := false } rfl rfl rfl rfl
    by_cases pln : t1.plain = true
    · first
        | exact wp_if_pos pln (wpAny_bind (by_value tx tail))
        | exact wpAny_bind (wp_if_pos pln (by_value tx tail))
    · first
        | exact wp_if_neg pln (wpAny_bind (wpAny_pure (tail true)))
        | exact wpAny_bind (wp_if_neg pln (wpAny_pure (tail true)))
end
end XSt

/-! the kit of sets of tuples -/
namespace XSt
open PySem PySem.Spec PyProof.Rows L2 PySem.W

theorem show_map {ι : Type} {Rel : ι → Value → Prop} (g : ι → Value) (k : ∀ x, Rel x (g x)) : ∀ xs : List ι, Show Rel xs (xs.map g)
  | [] => .nil
  | x :: xs => .cons (k x) (show_map g k xs)

def tuKit (P : Program) (w : World) {κ : Type} (f : κ → List Key) (inj : ∀ a b, f a = f b → a = b) : SetKit P w (Addr × κ) κ where
  key := fun p => p.2
  Is := fun h S L => ∃ es ep t, TuIs f P w h S L es ep t
  Elt := fun h p => Tup P w h (f p.2) p.1
  Rel := fun p v => v = .ref p.1
  room := fun A => A.units < cLine
  most := 64
  small := by decide
  move := fun ⟨es, ep, t, T⟩ k => ⟨es, ep, t, { T with ob := let ⟨o, ho, r⟩ := T.ob; ⟨o, k o ho, r⟩ }⟩
  new := fun {h S} e => ⟨#[], 0, .fresh 0 0 (!w.params.followText "set-order"), {
    ob := ⟨_, e, ⟨rfl, rfl, rfl⟩, rfl⟩
    line := rfl
    tab := ⟨List.Pairwise.nil, rfl, rfl, Or.inl rfl, fun x hx => (by cases hx), fun i h j hi => (by simp [hashes] at hi)⟩
    led := by
      show _ ∨ (!w.params.followText "set-order") = true
      cases w.params.followText "set-order"
      · exact Or.inr rfl
      · exact Or.inl rfl
    room := by
      show 0 * 5 < 7 * 3
      decide
    lim := by
      show 0 < 64
      decide }⟩
  step := by
    rintro A E s h0 S L ⟨a, k⟩ v Q hu ⟨es, ep, t, T⟩ sub _ elts elt rfl lim fin
    have tx : Tup P w s.heap (f k) a := Tup.sub elt sub
    unfold setAdd
    refine wpAny_holding (wpAny_bind (wpAny_pyHash_tuple hu tx ?_))
    refine put_in (s := { s with toks := s.toks + ((f k).length + 1) }) T (fun p m => Tup.sub (elts p m) sub) tx hu lim fun b h' L' es' ep' t' sb T' c1 c2 => ?_
    refine fin b h' _ L' sb (Nat.le_add_right _ _) ⟨es', ep', t', T'⟩ (fun z => c1 ?_) fun z => c2 fun p m e => z ?_
    · obtain ⟨p, m, e⟩ := List.mem_map.mp z
      exact ⟨p, m, congrArg f e⟩
    · exact List.mem_map.mpr ⟨p, m, inj _ _ e⟩
  open_ := fun {h S L} ⟨es, ep, t, T⟩ => by
    obtain ⟨o, ho, ex, dat⟩ := T.ob
    refine ⟨es, ep, t, ⟨o, ho, ex.1, dat⟩, T.fit, ?_, T.tab.ris, T.led, ?_⟩
    · rw [T.len]
      exact Nat.lt_trans T.lim (by decide)
    · rw [T.line, lined, List.map_map]
      exact show_map (Rel := fun p v => v = Value.ref p.1) (fun p => Value.ref p.1) (fun _ => rfl) L
end XSt

/-! the orders; set(..) and sorted(..) of texts and of pairs, over the objects -/
namespace XSt
open PySem PySem.Spec PyProof.Rows L2 PySem.W

/-! lists without doubles -/
section
variable {α : Type} [DecidableEq α]
def once : List α → List α
  | [] => []
  | x :: l => if x ∈ l then once l else x :: once l
theorem mem_once {x : α} : ∀ {l : List α}, x ∈ once l ↔ x ∈ l
  | [] => Iff.rfl
  | y :: l => by
    unfold once
    split
    · rename_i c
      rw [mem_once, List.mem_cons]
      exact ⟨Or.inr, fun z => z.elim (fun e => e ▸ c) id⟩
    · rw [List.mem_cons, List.mem_cons, mem_once]
theorem nodup_once : ∀ l : List α, (once l).Nodup
  | [] => List.nodup_nil
  | y :: l => by
    unfold once
    split
    · exact nodup_once l
    · rename_i c
      exact List.nodup_cons.mpr ⟨fun z => c (mem_once.mp z), nodup_once l⟩
theorem once_len : ∀ l : List α, (once l).length ≤ l.length
  | [] => Nat.le_refl _
  | y :: l => by
    have := once_len l
    unfold once
    split <;> simp <;> omega
theorem perm_once {l m : List α} (nd : m.Nodup) (e : ∀ x, x ∈ m ↔ x ∈ l) : m.Perm (once l) :=
  (List.perm_ext_iff_of_nodup nd (nodup_once l)).mpr fun x => (e x).trans mem_once.symm
theorem once_same {l m : List α} (e : ∀ x, x ∈ m ↔ x ∈ l) : (once m).Perm (once l) := perm_once (nodup_once m) fun x => mem_once.trans (e x)
end

/-! one order for each -/
structure Ordly {α : Type} (le : α → α → Bool) : Prop where
  tr : ∀ a b c, le a b = true → le b c = true → le a c = true
  tot : ∀ a b, (le a b || le b a) = true
  anti : ∀ a b, le a b = true → le b a = true → a = b
theorem Ordly.one {α : Type} {le : α → α → Bool} (o : Ordly le) {l m : List α} (p : m.Perm l) (s : m.Pairwise (fun a b => le a b = true)) : m = l.mergeSort le :=
  List.Perm.eq_of_pairwise (fun a b _ _ x y => o.anti a b x y) s (List.pairwise_mergeSort o.tr o.tot l) (p.trans (List.mergeSort_perm l le).symm)
theorem Ordly.same {α : Type} {le : α → α → Bool} (o : Ordly le) {l m : List α} (p : m.Perm l) : m.mergeSort le = l.mergeSort le :=
  o.one ((List.mergeSort_perm m le).trans p) (List.pairwise_mergeSort o.tr o.tot m)

def sLe (a b : Str) : Bool := decide (a.cps.toList ≤ b.cps.toList)
theorem str_by {a b : Str} (e : a.cps.toList = b.cps.toList) : a = b := by
  obtain ⟨⟨a⟩⟩ := a
  obtain ⟨⟨b⟩⟩ := b
  have e' : a = b := e
  rw [e']
theorem sLe_ord : Ordly sLe where
  tr := fun a b c x y => decide_eq_true (List.le_trans (of_decide_eq_true x) (of_decide_eq_true y))
  tot := fun a b => by
    rcases List.le_total a.cps.toList b.cps.toList with z | z
    · exact Bool.or_eq_true_iff.mpr (Or.inl (decide_eq_true z))
    · exact Bool.or_eq_true_iff.mpr (Or.inr (decide_eq_true z))
  anti := fun a b x y => str_by (List.le_antisymm (of_decide_eq_true x) (of_decide_eq_true y))

def pLe (a b : Int × Str) : Bool := decide (a.1 < b.1) || (decide (a.1 = b.1) && sLe a.2 b.2)
theorem pLe_iff {a b : Int × Str} : pLe a b = true ↔ a.1 < b.1 ∨ (a.1 = b.1 ∧ sLe a.2 b.2 = true) := by
  unfold pLe
  rw [Bool.or_eq_true, Bool.and_eq_true, decide_eq_true_eq, decide_eq_true_eq]
theorem pLe_ord : Ordly pLe where
  tr := fun a b c x y => by
    rw [pLe_iff] at *
    rcases x with x | ⟨x, x'⟩ <;> rcases y with y | ⟨y, y'⟩
    · left; omega
    · left; omega
    · left; omega
    · exact Or.inr ⟨x.trans y, sLe_ord.tr _ _ _ x' y'⟩
  tot := fun a b => by
    rw [Bool.or_eq_true, pLe_iff, pLe_iff]
    rcases Int.lt_trichotomy a.1 b.1 with z | z | z
    · exact Or.inl (Or.inl z)
    · rcases Bool.or_eq_true_iff.mp (sLe_ord.tot a.2 b.2) with q | q
      · exact Or.inl (Or.inr ⟨z, q⟩)
      · exact Or.inr (Or.inr ⟨z.symm, q⟩)
    · exact Or.inr (Or.inl z)
  anti := fun a b x y => by
    rw [pLe_iff] at *
    obtain ⟨a1, a2⟩ := a
    obtain ⟨b1, b2⟩ := b
    rcases x with x | ⟨x, x'⟩ <;> rcases y with y | ⟨y, y'⟩ <;> simp only at *
    · omega
    · omega
    · omega
    · rw [x, sLe_ord.anti _ _ x' y']

theorem dataLe_tx : dataLe false (fun k : Str => PyData.str k) = sLe := by
  rw [dataLe_str]
  rfl
theorem dataLt_is (x x' : Int) (y y' : Str) : dataLt (.tuple [.int x, .str y]) (.tuple [.int x', .str y']) = decide (x < x' ∨ (x = x' ∧ y.cps.toList < y'.cps.toList)) := by
  rw [dataLt_pair (by simp [alike]) (by simp [alike]), dataLt_int, W.dataLt_str]
  simp only [PyData.eqv, beq_iff_eq]
  by_cases h1 : x = x' <;> by_cases h2 : y = y'
  · subst h1; subst h2; simp
  · simp [h1, h2]
  · simp [h1, h2]
  · simp [h1, h2]
theorem dataLe_pr : dataLe false (fun p : Addr × Int × Str => PyData.tuple [.int p.2.1, .str p.2.2]) = fun p q => pLe p.2 q.2 := by
  funext p q
  show (!dataLt (.tuple [.int q.2.1, .str q.2.2]) (.tuple [.int p.2.1, .str p.2.2])) = _
  rw [dataLt_is]
  unfold pLe sLe
  by_cases h1 : p.2.1 < q.2.1
  · have : ¬ q.2.1 < p.2.1 := by omega
    have : ¬ q.2.1 = p.2.1 := by omega
    simp [*]
  · by_cases h2 : p.2.1 = q.2.1
    · by_cases h3 : p.2.2.cps.toList ≤ q.2.2.cps.toList
      · simp [h1, h2, h3, List.not_lt.mpr h3]
      · have h4 : q.2.2.cps.toList < p.2.2.cps.toList := List.not_le.mp h3
        simp [h1, h2, h3, h4]
    · have : q.2.1 < p.2.1 := by omega
      simp [*]

/-! the objects -/
def SO {P : Program} {w : World} {ι κ : Type} (Kt : SetKit P w ι κ) (a : Addr) (L : List ι) : HO := .ext fun h => Kt.Is h a L
theorem so_new {P : Program} {w : World} {ι κ : Type} {Kt : SetKit P w ι κ} {H : Hp} {h : Heap} {a : Addr} {L : List ι} (is : Kt.Is h a L) : ObjOk P w H h a (SO Kt a L) := by
  obtain ⟨es, ep, t, ⟨o, ho, _⟩, _⟩ := Kt.open_ is
  exact ⟨is, ⟨o, ho⟩, fun h1 h2 p k => Kt.move p k⟩

def prKit (P : Program) (w : World) : SetKit P w (Addr × Int × Str) (Int × Str) :=
  tuKit P w (fun k => [Sum.inl k.1, Sum.inr k.2]) fun a b e => by
    injection e with e1 e2
    injection e1 with e1
    injection e2 with e2 _
    injection e2 with e2
    exact Prod.ext e1 e2

/-- the signs of a text, each a text -/
def signs (x : Str) : List Str := x.cps.toList.map fun c => ⟨#[c]⟩
/-- what is walked: the signs of a text, the items of a tuple or list -/
def Feeds (K : PySem.W.Frag) (H : Hp) (v : V) (xs : List Str) : Prop := (∃ x, v = .str x ∧ xs = signs x) ∨ ∃ l, v = .ref l ∧ (SqT K H l (xs.map V.str) ∨ SqL K H l (xs.map V.str))
theorem show_txt : ∀ {xs : List Str} {us : List Value}, Vals (xs.map V.str) us → Show TxRel xs us
  | [], _, .nil => .nil
  | _ :: _, _, .cons r t => .cons r (show_txt t)

section
variable {X : Cx}
def rSetS (K : PySem.W.Frag) (P : Program) (w : World) : List V → Hp → VK → Prop := fun vs H Q => ∃ v xs, vs = [v] ∧ Feeds K H v xs ∧ xs.length < scanBound ∧
  ∀ a L, H a = none → L.Perm (once xs) → Q (.ref a) (upd H a (SO (txKit P w) a L))
theorem part_perm {L xs : List Str} (p : Part (fun k : Str => k) xs xs.length L) : L.Perm (once xs) := by
  have nd := p.once
  rw [List.map_id'] at nd
  refine perm_once nd fun k => ⟨fun z => List.mem_of_mem_take (p.from_ k z), fun z => ?_⟩
  have q := p.has k (by rw [List.take_length]; exact z)
  rw [List.map_id'] at q
  exact q

theorem cr_setS (hc : X.calm = true) : CallR X (.type "set") (rSetS X.K X.prog X.w) := by
  intro pins s σ H vs us Q I r h
  obtain ⟨v, xs, rfl, fd, lim, q⟩ := h
  have hn : H s.heap.objs.size = none := I.hok.fresh (Nat.le_refl _)
  have fin : ∀ (h' : Heap) (tk : Nat) (L : List Str), (txKit X.prog X.w).Is h' s.heap.objs.size L → Part (txKit X.prog X.w).key xs xs.length L → Sub s.heap h' →
      EP X pins σ Q (.ref s.heap.objs.size) { s with heap := h', toks := tk } := fun h' tk L is pt k =>
    ⟨.ref s.heap.objs.size, upd H s.heap.objs.size (SO (txKit X.prog X.w) s.heap.objs.size L), I.laid (t' := tk) k (Nat.le_refl _) (so_new is), rfl, q _ L hn (part_perm pt)⟩
  cases r with
  | cons r0 rt =>
    cases rt
    rcases fd with ⟨x, rfl, rfl⟩ | ⟨l, rfl, sq⟩
    · obtain ⟨t, rfl⟩ := r0
      refine set_of_str (txKit X.prog X.w) (I.ok.hd hc) (by rw [signs, List.length_map, Array.length_toList]) lim (fun i v sg => ?_) (fun _ _ => trivial) trivial fin
      obtain ⟨c, u, e, rfl⟩ := sg
      refine ⟨⟨#[c]⟩, ?_, u, rfl⟩
      rw [signs, List.getElem?_map, Array.getElem?_toList, e]
      rfl
    · cases r0
      rcases sq with sq | sq
      · obtain ⟨its, rv, tp, _⟩ := I.tuple sq
        exact set_of_tuple (txKit X.prog X.w) (I.ok.hd hc) tp (show (Show TxRel xs its.toArray.toList) by simpa using show_txt rv) lim (fun _ _ => trivial) trivial fin
      · obtain ⟨its, rv, tp, _⟩ := I.list sq
        exact set_of_list (txKit X.prog X.w) (I.ok.hd hc) tp.isList (show (Show TxRel xs its.toArray.toList) by simpa using show_txt rv) lim (fun _ _ => trivial) trivial fin

/-! sorted(set) -/
theorem vals_txt : ∀ {xs : List Str} {us : List Value}, Show TxRel xs us → Vals (xs.map V.str) us
  | _, _, .nil => .nil
  | _, _, .cons r t => .cons r (vals_txt t)
theorem kept {pins : List (Addr × Obj)} {σ : L2.St} {H : Hp} {s s' : Shared} {p : Addr} {xs : List V} {out : Array Value} {c : Nat} (I : Inv X pins σ H s) (k : Sub s.heap s'.heap) (g : s'.gens = s.gens) (o : s'.os = s.os)
    (hp : s.heap.objs.size ≤ p) (at_ : s'.heap.get? p = some (seqObj "list" out c)) (rv : Vals xs out.toList) (few : xs.length ≤ sizeLine) : Inv X pins σ (upd H p (.lst xs)) s' := by
  have hn : H p = none := I.hok.fresh hp
  have J : Inv X pins σ (upd H p (.lst xs)) { s with heap := s'.heap, gens := s'.gens, drawn := s'.drawn, toks := s'.toks } :=
    I.call (ch := []) (Un.laid k hp hn) (I.hok.laid k hp ⟨few, out.toList, c, rv, at_⟩) (by rw [g]; exact I.bare) (fun _ z => nomatch z)
  obtain ⟨h1, h2, h3, h4, h5⟩ := s'
  obtain rfl : h5 = s.os := o
  exact J

def rSortedS (P : Program) (w : World) : List V → Hp → VK → Prop := fun vs H Q => ∃ a L, vs = [.ref a] ∧ H a = some (SO (txKit P w) a L) ∧ ∀ p, H p = none → Q (.ref p) (upd H p (.lst ((L.mergeSort sLe).map V.str)))
theorem cr_sortedS (hc : X.calm = true) (hu : X.A.units + 64 < cLine) : CallR X (.builtin "sorted") (rSortedS X.prog X.w) := by
  intro pins s σ H vs us Q I r h
  obtain ⟨a, L, rfl, ha, q⟩ := h
  have is : (txKit X.prog X.w).Is s.heap a L := (I.hok a _ ha).1
  have few : L.length < scanBound := let ⟨_, T⟩ := is; T.lim
  rw [Vals.ref1 r]
  refine sorted_of (txKit X.prog X.w) (fun k : Str => PyData.str k) (I.ok.hd hc) is (fun h' _ x _ v rel => ?_) (fun _ _ => by simp [alike]) (fun l => Sortable.others fun b => ⟨fun z => (by cases z), fun xs z => (by cases z)⟩) (fun x _ => ?_)
    fun s' p out c L1 k g o hp at_ pL sh => ?_
  · obtain ⟨u, rfl⟩ := rel
    exact ⟨[], .str x u, fun b z => (by cases z)⟩
  · simp only [PyData.depth]
    omega
  · rw [dataLe_tx, sLe_ord.same pL] at sh
    have few2 : ((L.mergeSort sLe).map V.str).length ≤ sizeLine := by
      rw [List.length_map, List.length_mergeSort]
      exact fits_of_scanBound few
    exact ⟨.ref p, _, kept I k g o hp at_ (vals_txt sh) few2, rfl, q p (I.hok.fresh hp)⟩

/-! pairs of a whole number and a text -/
def rSetP (K : PySem.W.Frag) (P : Program) (w : World) : List V → Hp → VK → Prop := fun vs H Q => ∃ (l : Addr) (ks : List (Addr × Int × Str)), vs = [.ref l] ∧ SqL K H l (ks.map fun p => V.ref p.1) ∧ (∀ p ∈ ks, SqT K H p.1 [.int p.2.1, .str p.2.2]) ∧ ks.length < 64 ∧
  ∀ a L, H a = none → (∀ p ∈ L, p ∈ ks) → (L.map (·.2)).Perm (once (ks.map (·.2))) → Q (.ref a) (upd H a (SO (prKit P w) a L))
theorem show_prs : ∀ {ks : List (Addr × Int × Str)} {us : List Value}, Vals (ks.map fun p => V.ref p.1) us → Show (fun (p : Addr × Int × Str) v => v = .ref p.1) ks us
  | [], _, .nil => .nil
  | _ :: _, _, .cons r t => .cons r (show_prs t)
theorem vals_prs : ∀ {ks : List (Addr × Int × Str)} {us : List Value}, Show (fun (p : Addr × Int × Str) v => v = .ref p.1) ks us → Vals (ks.map fun p => V.ref p.1) us
  | _, _, .nil => .nil
  | _, _, .cons r t => .cons r (vals_prs t)
theorem pair_at {pins : List (Addr × Obj)} {σ : L2.St} {H : Hp} {s : Shared} {b : Addr} {k : Int × Str} (I : Inv X pins σ H s) (h : SqT X.K H b [.int k.1, .str k.2]) : Tup X.prog X.w s.heap [Sum.inl k.1, Sum.inr k.2] b := by
  obtain ⟨its, r, ⟨o, ho, hc, n, hd⟩, _⟩ := I.tuple h
  refine ⟨o, its.toArray, n, ho, hc, hd, ?_⟩
  cases r with
  | cons r1 t =>
    cases t with
    | cons r2 t2 =>
      cases t2
      obtain ⟨u1, rfl⟩ := r1
      obtain ⟨u2, rfl⟩ := r2
      exact .cons (keyIs_int k.1 u1) (.cons (keyIs_str k.2 u2) .nil)
theorem cr_setP (hc : X.calm = true) (hu : X.A.units + 64 < cLine) : CallR X (.type "set") (rSetP X.K X.prog X.w) := by
  intro pins s σ H vs us Q I r h
  obtain ⟨l, ks, rfl, sq, el, lim, q⟩ := h
  have hn : H s.heap.objs.size = none := I.hok.fresh (Nat.le_refl _)
  rw [Vals.ref1 r]
  obtain ⟨its, rv, tp, _⟩ := I.list sq
  refine set_of_list (prKit X.prog X.w) (I.ok.hd hc) tp.isList (show (Show (fun (p : Addr × Int × Str) v => v = .ref p.1) ks its.toArray.toList) by simpa using show_prs rv) lim (fun p m => pair_at I (el p m)) ?_ fun h' tk L is pt k => ?_
  · show X.A.in1.in1.in1.units < cLine
    simp only [Around.in1]
    omega
  · refine ⟨.ref s.heap.objs.size, upd H s.heap.objs.size (SO (prKit X.prog X.w) s.heap.objs.size L), I.laid (t' := tk) k (Nat.le_refl _) (so_new is), rfl, q _ L hn (fun p m => List.mem_of_mem_take (pt.from_ p m)) (perm_once pt.once fun x => ⟨fun z => ?_, fun z => ?_⟩)⟩
    · obtain ⟨p, m, rfl⟩ := List.mem_map.mp z
      exact List.mem_map.mpr ⟨p, List.mem_of_mem_take (pt.from_ p m), rfl⟩
    · obtain ⟨p, m, rfl⟩ := List.mem_map.mp z
      exact pt.has p (by rw [List.take_length]; exact m)

def rSortedP (K : PySem.W.Frag) (P : Program) (w : World) : List V → Hp → VK → Prop := fun vs H Q => ∃ a L, vs = [.ref a] ∧ H a = some (SO (prKit P w) a L) ∧ (∀ p ∈ L, SqT K H p.1 [.int p.2.1, .str p.2.2]) ∧
  ∀ p (L' : List (Addr × Int × Str)), H p = none → L'.Perm L → L'.map (·.2) = (L.map (·.2)).mergeSort pLe → Q (.ref p) (upd H p (.lst (L'.map fun q => V.ref q.1)))
theorem cr_sortedP (hc : X.calm = true) (hu : X.A.units + 64 < cLine) : CallR X (.builtin "sorted") (rSortedP X.K X.prog X.w) := by
  intro pins s σ H vs us Q I r h
  obtain ⟨a, L, rfl, ha, el, q⟩ := h
  have is : (prKit X.prog X.w).Is s.heap a L := (I.hok a _ ha).1
  have few : L.length < 64 := let ⟨_, _, _, T⟩ := is; T.lim
  rw [Vals.ref1 r]
  refine sorted_of (prKit X.prog X.w) (fun p : Addr × Int × Str => PyData.tuple [.int p.2.1, .str p.2.2]) (I.ok.hd hc) is (fun h' k x m v rel => ?_) (fun _ _ => by simp [alike, alikeAll]) (fun l => Sortable.tuples fun b => ⟨_, _, rfl⟩) (fun x _ => ?_)
    fun s' p out c L1 k g o hp at_ pL sh => ?_
  · obtain rfl : v = .ref x.1 := rel
    obtain ⟨o, its, n, e1, e2, e3, all⟩ := Tup.sub (pair_at I (el x m)) k
    refine ⟨[], .tuple e1 e2 e3 ?_, fun b z => (by cases z)⟩
    generalize its.toList = l at all
    cases all with
    | cons k1 t =>
      cases t with
      | cons k2 t2 =>
        cases t2
        rcases keyIs_shape (k := Sum.inl x.2.1) k1 with ⟨i, u, e, rfl⟩ | ⟨y, u, e, rfl⟩
        · rcases keyIs_shape (k := Sum.inr x.2.2) k2 with ⟨i', u', e', rfl⟩ | ⟨y', u', e', rfl⟩
          · cases e'
          · injection e with e
            injection e' with e'
            rw [e, e']
            exact .cons (.int _ _) (.cons (.str _ _) .nil)
        · cases e
  · simp only [PyData.depth, PyData.depthAll]
    omega
  · rw [dataLe_pr] at sh
    have few2 : ((L1.mergeSort fun p q => pLe p.2 q.2).map fun q => V.ref q.1).length ≤ sizeLine := by
      have := sizeLine_eq
      rw [List.length_map, List.length_mergeSort, pL.length_eq]
      omega
    refine ⟨.ref p, _, kept I k g o hp at_ (vals_prs sh) few2, rfl, q p _ (I.hok.fresh hp) ((List.mergeSort_perm _ _).trans pL) ?_⟩
    refine pLe_ord.one (((List.mergeSort_perm _ _).trans pL).map _) ?_
    rw [List.pairwise_map]
    exact List.pairwise_mergeSort (le := fun p q : Addr × Int × Str => pLe p.2 q.2) (fun a b c => pLe_ord.tr _ _ _) (fun a b => pLe_ord.tot _ _) L1
end
end XSt

/-! sorted(xs, key=len), and the order of texts: by length, then as texts -/
namespace XSt
open PySem PySem.Spec PyProof.Rows L2 PySem.W

def lLe (a b : Str) : Bool := decide ((a.length : Int) ≤ (b.length : Int))
theorem dataLe_len : dataLe false (fun k : Str => PyData.int (k.length : Int)) = lLe := by
  rw [dataLe_int]
  rfl

section
variable {X : Cx} {p p2 pos kpos : Pos} {e : Expr} {te : TE}
def tSortLen (K : PySem.W.Frag) (te : TE) : TE := fun σ H Q => te σ H fun x H1 => ∃ (l : Addr) (xs : List Str), x = .ref l ∧ SqL K H1 l (xs.map V.str) ∧ (∀ k ∈ xs, k.length ≤ sizeLine) ∧ ∀ q, H1 q = none → Q (.ref q) (upd H1 q (.lst ((xs.mergeSort lLe).map V.str)))

theorem each_txt : ∀ {xs : List Str} {us : List Value}, Vals (xs.map V.str) us → EachIs (fun v (k : Str) => TxRel k v) us xs
  | [], _, .nil => .nil
  | _ :: _, _, .cons r t => .cons r (each_txt t)
theorem vals_each : ∀ {xs : List Str} {us : List Value}, EachIs (fun v (k : Str) => TxRel k v) us xs → Vals (xs.map V.str) us
  | _, _, .nil => .nil
  | _, _, .cons r t => .cons r (vals_each t)

theorem call_sortLen (hu : X.A.units + 64 < cLine) {pins : List (Addr × Obj)} {s : Shared} {σ : L2.St} {H : Hp} {l : Addr} {xs : List Str} {Q : VK} (I : Inv X pins σ H s) (sq : SqL X.K H l (xs.map V.str)) (few : ∀ k ∈ xs, k.length ≤ sizeLine)
    (h : ∀ q, H q = none → Q (.ref q) (upd H q (.lst ((xs.mergeSort lLe).map V.str)))) : wpAny (model X.prog X.w) X.A (call (.builtin "sorted") [.ref l] [(Str.ofString "key", .builtin "len")]) (EP X pins σ Q) X.xe s := by
  obtain ⟨its, rv, pl, hz⟩ := I.list sq
  have lz : xs.length ≤ sizeLine := by simpa using hz
  refine sorted_key_data (k := fun k : Str => PyData.int (k.length : Int)) (b := false) pl.isList (each_txt rv) (AllAlike.of fun _ _ => by simp [alike]) (Sortable.others fun b => ⟨fun z => (by cases z), fun xs z => (by cases z)⟩) lz (fun x _ => ?_)
    (ksk_s1 _ _) (fun _ => ksk_l1 _ _) (fun a => ksk_t4 "len" a) (fun v k rel m h' tk k1 => ?_) fun out c h' tk k1 z0 at_ lo eo => ?_
  · simp only [PyData.depth]
    omega
  · obtain ⟨u, rfl⟩ := rel
    have z := few k m
    have hl := line63
    have hs : sizeLine = 16777216 := sizeLine_eq
    refine len_str (by omega) ?_
    exact ⟨h', _, rfl, fun _ _ e => e, .int _ _⟩
  · rw [dataLe_len] at eo
    have rv2 : Vals ((xs.mergeSort lLe).map V.str) out := vals_each eo
    have few2 : ((xs.mergeSort lLe).map V.str).length ≤ sizeLine := by
      rw [List.length_map, List.length_mergeSort]
      exact lz
    exact ⟨.ref (s.heap.objs.size + 1), upd H (s.heap.objs.size + 1) (.lst ((xs.mergeSort lLe).map V.str)), I.laid (t' := tk) k1 (Nat.le_succ _) ⟨few2, out, c, rv2, at_⟩, rfl, h _ (I.hok.fresh (Nat.le_succ _))⟩

theorem pe_sortLen (hu : X.A.units + 64 < cLine) (hg : Gl X (Str.ofString "sorted")) (hm : X.mg (Str.ofString "sorted") = none) (hg2 : Gl X (Str.ofString "len")) (hm2 : X.mg (Str.ofString "len") = none) (he : PE X e te)
    (hs : backTo pos (starEach [e] X.env) = (false, eval e X.env) :: backTo pos (starEach [] X.env) := by rfl) (hpl : (backTo pos (starEach [e] X.env)).any (·.1) = false := by rfl) :
    PE X (.Call (.Name (Str.ofString "sorted") p) [e] [⟨some (Str.ofString "key"), .Name (Str.ofString "len") p2, kpos⟩] pos) (tSortLen X.K te) := by
  refine ⟨fun pins s σ H Q I h => ?_⟩
  refine wpAny_Call_Name_kw (ld_blt I hg hm (u := .builtin "sorted") (by kernel_rfl) ?_)
  refine PyProof.Rows.callWith_kw (e := e) (rest := []) (id := "sorted") ?_ hs hpl rfl rfl
  rw [hs]
  refine Calls.spliced_cons (thn (he.run pins s σ H _ I h) fun u s1 ⟨x, H1, I1, r1, l, xs, ex, sq, few, q⟩ => Calls.spliced_nil ?_)
  subst ex
  obtain rfl : u = Value.ref l := r1
  show wpAny _ _ (evalAll ((do let v ← eval (.Name (Str.ofString "len") p2) X.env; standAt pos; pure v) :: [])) _ _ s1
  refine wpAny_evalAll_cons (wpAny_bind (ld_blt I1 hg2 hm2 (u := .builtin "len") (by kernel_rfl) (wpAny_bind (wpAny_standAt (wpAny_pure (wpAny_evalAll_nil ?_))))))
  exact call_sortLen hu I1 sq few q
end
end XSt

/-! texts by length, then as texts: two ways -/
namespace XSt
open PySem PySem.Spec PyProof.Rows L2 PySem.W

def lenOf (k : Str) : Int × Str := ((k.length : Int), k)
def tLe (a b : Str) : Bool := pLe (lenOf a) (lenOf b)
theorem tLe_ord : Ordly tLe where
  tr := fun a b c => pLe_ord.tr _ _ _
  tot := fun a b => pLe_ord.tot _ _
  anti := fun a b x y => congrArg Prod.snd (pLe_ord.anti _ _ x y)
/-- the different ones, shorter ones first -/
def ordT (l : List Str) : List Str := (once l).mergeSort tLe
theorem ordT_mem {l : List Str} {x : Str} : x ∈ ordT l ↔ x ∈ l := by
  unfold ordT
  rw [(List.mergeSort_perm _ _).mem_iff]
  exact mem_once
theorem ordT_same {l m : List Str} (e : ∀ x, x ∈ m ↔ x ∈ l) : ordT m = ordT l := tLe_ord.same (once_same e)

theorem lLe_total : TotalLe lLe where
  trans := fun a b c => by
    unfold lLe
    simp only [decide_eq_true_eq]
    omega
  total := fun a b => by
    unfold lLe
    simp only [decide_eq_true_eq]
    omega

/-- as texts first, then by length: the same -/
theorem twice_sorted (l : List Str) : ((once l).mergeSort sLe).mergeSort lLe = ordT l := by
  symm
  have s1 : (ordT l).Pairwise (fun a b => tLe a b = true) := List.pairwise_mergeSort tLe_ord.tr tLe_ord.tot _
  have s2 : ((once l).mergeSort sLe).Pairwise (fun a b => sLe a b = true) := List.pairwise_mergeSort sLe_ord.tr sLe_ord.tot _
  have pm : (ordT l).Perm ((once l).mergeSort sLe) := (List.mergeSort_perm _ _).trans (List.mergeSort_perm _ _).symm
  refine sort_unique lLe_total (s1.imp fun {a b} q => ?_) fun c => ?_
  · have q' := pLe_iff.mp (show pLe (lenOf a) (lenOf b) = true from q)
    unfold lLe
    rw [decide_eq_true_eq]
    simp only [lenOf] at q'
    rcases q' with q' | ⟨q', _⟩ <;> omega
  · refine List.Perm.eq_of_pairwise (le := fun a b => sLe a b = true) (fun a b _ _ => sLe_ord.anti a b) ?_ (s2.filter _) (pm.filter _)
    refine (s1.filter _).imp_of_mem fun {a b} ma mb q => ?_
    have ka := (List.mem_filter.mp ma).2
    have kb := (List.mem_filter.mp mb).2
    unfold sameRank at ka kb
    simp only [lLe, Bool.and_eq_true, decide_eq_true_eq] at ka kb
    have q' := pLe_iff.mp (show pLe (lenOf a) (lenOf b) = true from q)
    simp only [lenOf] at q'
    rcases q' with q' | ⟨_, q'⟩
    · omega
    · exact q'

/-- by pairs -/
theorem pairs_sorted {l : List Str} {ps : List (Int × Str)} (h : ps.Perm (once (l.map lenOf))) : (ps.mergeSort pLe).map (·.2) = ordT l := by
  have back : ∀ p ∈ ps, p = lenOf p.2 := fun p m => by
    obtain ⟨k, _, rfl⟩ := List.mem_map.mp (mem_once.mp (h.mem_iff.mp m))
    rfl
  have nd : (ps.map (·.2)).Nodup := by
    have n1 : ps.Nodup := h.nodup_iff.mpr (nodup_once _)
    refine List.pairwise_map.mpr (n1.imp_of_mem fun {p q} mp mq ne e => ne ?_)
    rw [back p mp, back q mq, e]
  have mem : ∀ x, x ∈ ps.map (·.2) ↔ x ∈ l := fun x => by
    rw [List.mem_map]
    constructor
    · rintro ⟨p, m, rfl⟩
      obtain ⟨k, mk, rfl⟩ := List.mem_map.mp (mem_once.mp (h.mem_iff.mp m))
      exact mk
    · intro m
      exact ⟨lenOf x, h.mem_iff.mpr (mem_once.mpr (List.mem_map.mpr ⟨x, m, rfl⟩)), rfl⟩
  refine tLe_ord.one (((List.mergeSort_perm _ _).map _).trans (perm_once nd mem)) ?_
  rw [List.pairwise_map]
  refine List.Pairwise.imp_of_mem (fun {p q} mp mq z => ?_) (List.pairwise_mergeSort pLe_ord.tr pLe_ord.tot ps)
  rw [back p ((List.mergeSort_perm _ _).mem_iff.mp mp), back q ((List.mergeSort_perm _ _).mem_iff.mp mq)] at z
  exact z
end XSt

/-! values that are asked; texts as their letters -/
namespace NX
open PySem PySem.Spec PyProof.Rows L2 XSt
open PySem.W (Frag)

/-! isinstance of any value -/
/-- an object of a kind that is no number, no truth value, no text; tup: whether it is a tuple -/
def Thing (K : Frag) (H : Hp) (a : Addr) (tup : Bool) : Prop := ∃ t, TyX K H (.ref a) t ∧ PySem.W.kitOne K t (.type "int") = some false ∧ PySem.W.kitOne K t (.type "bool") = some false ∧ PySem.W.kitOne K t (.type "str") = some false ∧ PySem.W.kitOne K t (.type "tuple") = some tup
def Asked (K : Frag) (H : Hp) : V → Prop
  | .int _ => True
  | .bl _ => True
  | .non => True
  | .str x => x.length ≤ 8000 ∧ PyData.strOk x = true
  | .ref a => ∃ b, Thing K H a b
  | _ => False
def isIntV : V → Bool
  | .int _ => true
  | .bl _ => true
  | _ => false
def isBoolV : V → Bool
  | .bl _ => true
  | _ => false
def isStrV : V → Bool
  | .str _ => true
  | _ => false
section
variable {K : Frag} {H : Hp} {v : V} {Q : VK}
theorem isi_int (h : Asked K H v) : ∃ t, TyX K H v t ∧ PySem.W.kitOne K t (.type "int") = some (isIntV v) := by
  cases v with
  | int i => exact ⟨_, .base (.int i), rfl⟩
  | bl i => exact ⟨_, .base (.bl i), rfl⟩
  | non => exact ⟨_, .base .non, rfl⟩
  | str i => exact ⟨_, .base (.str i), rfl⟩
  | ref a =>
    obtain ⟨b, t, h1, h2, h3, h4, h5⟩ := h
    exact ⟨_, h1, h2⟩
  | _ => exact h.elim
theorem isi_bool (h : Asked K H v) : ∃ t, TyX K H v t ∧ PySem.W.kitOne K t (.type "bool") = some (isBoolV v) := by
  cases v with
  | int i => exact ⟨_, .base (.int i), rfl⟩
  | bl i => exact ⟨_, .base (.bl i), rfl⟩
  | non => exact ⟨_, .base .non, rfl⟩
  | str i => exact ⟨_, .base (.str i), rfl⟩
  | ref a =>
    obtain ⟨b, t, h1, h2, h3, h4, h5⟩ := h
    exact ⟨_, h1, h3⟩
  | _ => exact h.elim
theorem isi_str (h : Asked K H v) : ∃ t, TyX K H v t ∧ PySem.W.kitOne K t (.type "str") = some (isStrV v) := by
  cases v with
  | int i => exact ⟨_, .base (.int i), rfl⟩
  | bl i => exact ⟨_, .base (.bl i), rfl⟩
  | non => exact ⟨_, .base .non, rfl⟩
  | str i => exact ⟨_, .base (.str i), rfl⟩
  | ref a =>
    obtain ⟨b, t, h1, h2, h3, h4, h5⟩ := h
    exact ⟨_, h1, h4⟩
  | _ => exact h.elim
end

/-! what the judges tell -/
def longV : V → Bool
  | .int i => decide ((if i < 0 then -i else i) < (10 ^ 50) ^ 4)
  | _ => false
/-- one to three, ascending, a to z: by the whole and the ends -/
def lettersV : V → Bool
  | .str x => decide (1 ≤ x.length ∧ x.length ≤ 3) && (decide (x = Txt.join ⟨#[]⟩ ((once (XSt.signs x)).mergeSort sLe)) && (decide (97 ≤ x.cps.toList.headD 0) && decide (x.cps.toList.getLastD 0 ≤ 122)))
  | _ => false
def spelledV (s : Str) : V → Bool
  | .str x => decide (Txt.stripChars x s = ⟨#[]⟩)
  | _ => false
end NX

/-! the draws -/
namespace B73
open PySem PySem.Spec PyProof.Rows L2
def top (i : Nat) : Stmt := PySem.Challenge.pw_twowaycuts_k73_whole_mirror_rows_and_the.main.body.getD i (.Pass ⟨0, 0, 0, 0⟩)
abbrev sJug : Stmt := top 29
abbrev sBit : Stmt := top 30
abbrev sPick : Stmt := top 31
abbrev sDealt : Stmt := top 32
abbrev FnP (K : PySem.W.Frag) (x : Str) (st : Stmt) (f : Addr) (fd : FuncData) : Prop := FunD K x x (defArgs st) (defBody st) (defScope st) [] [] f fd

/-! ### a power with a great base -/
def CPowX (i j : Int) : Prop := 0 ≤ j ∧ (Builtin.Int.intBits i : Int) * j ≤ 2 ^ 27
theorem op_powX {X : Cx} : OpR X (binaryOp .Pow) (rI CPowX fun i j => .int (i ^ j.toNat)) := opI fun _ _ _ _ _ _ _ hc q => pow_int hc.1 hc.2 q

/-! ### the jug: a list of three ints, the first at least 0 -/
def JugAt (H : Hp) (j : Addr) : Prop := ∃ a b c : Int, H j = some (.lst [.int a, .int b, .int c]) ∧ 0 ≤ a
/-- all stands but j, which is a jug still -/
def Kj (j : Addr) (H H' : Hp) : Prop := (∀ b o, b ≠ j → H b = some o → H' b = some o) ∧ JugAt H' j
theorem Kj.refl {j : Addr} {H : Hp} (h : JugAt H j) : Kj j H H := ⟨fun _ _ _ e => e, h⟩
theorem Kj.trans {j : Addr} {H H1 H2 : Hp} (a : Kj j H H1) (b : Kj j H1 H2) : Kj j H H2 := ⟨fun c o n e => b.1 c o n (a.1 c o n e), b.2⟩
theorem Kj.put {j : Addr} {H : Hp} {a b c : Int} (h : 0 ≤ a) : Kj j H (upd H j (.lst [.int a, .int b, .int c])) := ⟨fun d o n e => by rw [upd_ne n]; exact e, ⟨a, b, c, upd_same, h⟩⟩
theorem Kj.new {j p : Addr} {H H' : Hp} {o : HO} (k : Kj j H H') (hp : H p = none) (hj : p ≠ j) : Kj j H (upd H' p o) := ⟨fun c u n e => by
  rw [upd_ne (ne_of_none e hp)]; exact k.1 c u n e, by
  obtain ⟨a, b, c, e, h⟩ := k.2
  exact ⟨a, b, c, by rw [upd_ne (Ne.symm hj)]; exact e, h⟩⟩
theorem Kj.rd {j a : Addr} {H H' : Hp} {u : HO} (k : Kj j H H') (n : a ≠ j) (h : Rd H a u) : Rd H' a u := by
  rcases h with h | ⟨o, h⟩
  · exact .inl (k.1 a _ n h)
  · exact .inr ⟨o, k.1 a _ n h⟩
theorem Kj.sqL {K : PySem.W.Frag} {j a : Addr} {H H' : Hp} {xs : List V} (k : Kj j H H') (n : a ≠ j) (h : SqL K H a xs) : SqL K H' a xs := by
  rcases h with h | h
  · exact .inl (k.rd n h)
  · exact .inr h
theorem Kj.sqT {K : PySem.W.Frag} {j a : Addr} {H H' : Hp} {xs : List V} (k : Kj j H H') (n : a ≠ j) (h : SqT K H a xs) : SqT K H' a xs := by
  rcases h with h | h
  · exact .inl (k.rd n h)
  · exact .inr h

theorem erase_perm {α : Type} : ∀ {ws : List α} {i : Nat} (h : i < ws.length), (ws[i] :: ws.eraseIdx i).Perm ws
  | [], _, h => by cases h
  | w :: ws, 0, _ => List.Perm.refl _
  | w :: ws, i + 1, h => by
    have ih := erase_perm (ws := ws) (i := i) (by simpa using h)
    exact (List.Perm.swap _ _ _).trans (ih.cons w)
/-! ### promises -/
def spJug (K : PySem.W.Frag) : Sp := fun vs H Q _ => ∃ (l : Addr) (ns : List Int) (i : Nat), vs = [.ref l, .int (i : Int)] ∧ SqL K H l (ns.map V.int) ∧
  ∀ j H', H j = none → (∀ b o, H b = some o → H' b = some o) → JugAt H' j → Q (.ref j) H'
def spBit : Sp := fun vs H Q _ => ∃ (j : Addr) (m : Int), vs = [.ref j, .int m] ∧ JugAt H j ∧ 0 < m ∧ m < 2 ^ 200 ∧
  ∀ r H', 0 ≤ r → r < m → Kj j H H' → Q (.int r) H'
def spPick (K : PySem.W.Frag) : Sp := fun vs H Q _ => ∃ (j p : Addr) (xs : List V), vs = [.ref j, .ref p] ∧ JugAt H j ∧ SqL K H p xs ∧ p ≠ j ∧ xs ≠ [] ∧ xs.length ≤ 1000 ∧
  ∀ x H', x ∈ xs → Kj j H H' → Q x H'
def spDealt (K : PySem.W.Frag) : Sp := fun vs H Q _ => ∃ (j p : Addr) (xs : List V), vs = [.ref j, .ref p] ∧ JugAt H j ∧ (SqL K H p xs ∨ SqT K H p xs) ∧ p ≠ j ∧ xs.length ≤ 1000 ∧
  ∀ q ys H', H q = none → H' q = some (.lst ys) → ys.Perm xs → Kj j H H' → Q (.ref q) H'

section
variable {P : Program} {w : World} {K : PySem.W.Frag} {mg : Str → Option Value} {base : Heap} {f fB fJ : Addr} {fd fdB : FuncData}
theorem scBit : FnScope ["jug", "much", "found", "first", "later"] ["jug", "much"] (defScope sBit) := ⟨rfl, rfl, rfl, by decide +kernel, rfl, by decide +kernel, by decide +kernel⟩
theorem scJug : FnScope ["script", "at", "cell", "great", "blend"] ["script", "at"] (defScope sJug) := ⟨rfl, rfl, rfl, by decide +kernel, rfl, by decide +kernel, by decide +kernel⟩
theorem scPick : FnScope ["jug", "items"] ["jug", "items"] (defScope sPick) := ⟨rfl, rfl, rfl, by decide +kernel, rfl, by decide +kernel, by decide +kernel⟩

theorem ok_bit (F : FnP K "_law_bit" sBit f fd) (mI : mg "int" = none) : FnOk P w K mg base CX0 1 f fd ["jug", "much"] spBit := by
  refine F.ok scBit (fun vs H Q E h => ?_) (fun cdv A outer s H vs Q E hr h => ?_)
  · obtain ⟨j, m, rfl, _⟩ := h
    rfl
  · obtain ⟨j, m, rfl, ⟨a, b, c, ej, ha⟩, hm, hm2, q⟩ := h
    refine ⟨_, PSs.nox (pss_cons (ps_if (pt_cmpR op_gt (pe_ix ix_list (pv 0) pe_int (fun _ _ => rfl)) pe_int (nomark _))
        (pss_cons (ps_set (i := 2) scBit.nd rfl (.inl rfl) (pe_op op_mod (pe_callTy call_int1 (by rfl) mI (by decide +kernel) (pa_cons (pe_ix ix_list (pv 0) pe_int (fun _ _ => rfl)) pa_nil)) (pv 1)))
          (pss_cons (ps_asg (pe_op op_fdivW (pe_ix ix_list (pv 0) pe_int (fun _ _ => rfl)) (pv 1)) (pg_sub (pv 0) pe_int set_list))
          (pss_one (ps_ret (pv 2))))) pss_nil)
      (pss_cons (ps_asg (pe_op op_add (pe_ix ix_list (pv 0) pe_int (fun _ _ => rfl)) pe_int) (pg_sub (pv 0) pe_int set_list))
      (pss_cons (ps_set (i := 3) scBit.nd rfl (.inl rfl) (pe_op op_mod (pe_callTy call_int1 (by rfl) mI (by decide +kernel) (pa_cons (pe_op op_add (pe_ix ix_list (pv 0) pe_int (fun _ _ => rfl)) (pe_op op_mul pe_int (pe_ix ix_list (pv 0) pe_int (fun _ _ => rfl)))) pa_nil)) pe_int))
      (pss_cons (ps_set (i := 4) scBit.nd rfl (.inl rfl) (pe_op op_add (pe_op op_mul (pe_op op_mod (pe_callTy call_int1 (by rfl) mI (by decide +kernel) (pa_cons (pe_op op_mul (pv 3) (pv 3)) pa_nil)) pe_int) (pv 3)) (pe_op op_mul pe_int (pe_ix ix_list (pv 0) pe_int (fun _ _ => rfl)))))
      (pss_one (ps_ret (pe_op op_mod (pe_callTy call_int1 (by rfl) mI (by decide +kernel) (pa_cons (pe_op op_fdiv (pe_op op_mod (pe_callTy call_int1 (by rfl) mI (by decide +kernel) (pa_cons (pv 4) pa_nil)) pe_int) pe_int) pa_nil)) (pv 1)))))))), ?_⟩
    refine ⟨_, rfl, _, _, _, _, rfl, rfl, SqL.of ej, atI_nat (j := 0) rfl, _, _, rfl, rfl, _, rfl, ite2 (fun e => ?_) (fun e => ?_)⟩
    · refine ⟨_, rfl, _, _, _, _, rfl, rfl, SqL.of ej, atI_nat (j := 0) rfl, .inl ⟨_, rfl, _, rfl, _, _, rfl, rfl, hm, ?_⟩⟩
      refine ⟨_, rfl, _, _, _, _, rfl, rfl, SqL.of ej, atI_nat (j := 0) rfl, _, rfl, _, _, rfl, rfl, wide_div hm (b := 200) (by omega) (by decide) (by decide), ?_⟩
      refine ⟨_, rfl, _, _, _, 0, rfl, rfl, ej, rfl, ?_⟩
      refine ⟨_, rfl, ?_⟩
      exact q _ _ (Int.emod_nonneg _ (by omega)) (Int.emod_lt_of_pos _ hm) (Kj.put (Int.ediv_nonneg ha (by omega)))
    · refine ⟨_, rfl, _, _, _, _, rfl, rfl, SqL.of ej, atI_nat (j := 2) rfl, _, _, rfl, rfl, ?_⟩
      refine ⟨_, rfl, _, _, _, 2, rfl, rfl, ej, rfl, ?_⟩
      have ej2 : (upd H j (.lst [V.int a, V.int b, V.int (c + 1)])) j = some (.lst [V.int a, V.int b, V.int (c + 1)]) := upd_same
      refine ⟨_, rfl, _, _, _, _, rfl, rfl, SqL.of ej2, atI_nat (j := 1) rfl, _, rfl, _, _, _, _, rfl, rfl, SqL.of ej2, atI_nat (j := 2) rfl, _, _, rfl, rfl, .inl (by decide), _, _, rfl, rfl, .inl ⟨_, rfl, _, _, rfl, rfl, (by show (0:Int) < _; decide), ?_⟩⟩
      have hf0 := Int.emod_nonneg (b + 1000507 * (c + 1)) (show (2305843009213693951 : Int) ≠ 0 by decide)
      have hf1 := Int.emod_lt_of_pos (b + 1000507 * (c + 1)) (show (0 : Int) < 2305843009213693951 by decide)
      generalize (b + 1000507 * (c + 1)) % 2305843009213693951 = fi at hf0 hf1
      refine ⟨_, rfl, _, rfl, _, _, rfl, rfl, .inl ⟨by omega, by omega⟩, .inl ⟨_, rfl, _, _, rfl, rfl, (by show (0:Int) < _; decide), ?_⟩⟩
      refine ⟨_, rfl, _, _, rfl, rfl, .inr ⟨by omega, by omega⟩, _, rfl, _, _, _, _, rfl, rfl, SqL.of ej2, atI_nat (j := 2) rfl, _, _, rfl, rfl, .inl (by decide), _, _, rfl, rfl, ?_⟩
      refine ⟨_, rfl, .inl ⟨_, rfl, _, _, rfl, rfl, (by show (0:Int) < _; decide), _, _, rfl, rfl, ⟨by decide, by decide⟩, .inl ⟨_, rfl, _, rfl, _, _, rfl, rfl, hm, ?_⟩⟩⟩
      exact q _ _ (Int.emod_nonneg _ (by omega)) (Int.emod_lt_of_pos _ hm) (Kj.put ha)

theorem ok_jug (F : FnP K "_law_jug" sJug f fd) (mI : mg "int" = none) (mL : mg "len" = none) (mA : mg "abs" = none) (mM : mg "max" = none) : FnOk P w K mg base CX0 1 f fd ["script", "at"] (spJug K) := by
  refine F.ok scJug (fun vs H Q E h => ?_) (fun cdv A outer s H vs Q E hr h => ?_)
  · obtain ⟨l, ns, i, rfl, _⟩ := h
    rfl
  · obtain ⟨l, ns, i, rfl, hS, q⟩ := h
    refine ⟨_, PSs.nox (pss_cons (ps_set (i := 2) scJug.nd rfl (.inl rfl) (pe_ifExp (pt_cmpR op_lt (pv 1) (pe_callB call_len_seq (by rfl) mL PySem.boot_len (pa_cons (pv 0) pa_nil)) (nomark _))
          (pe_ix ix_list (pv 0) (pv 1) (fun _ _ => rfl)) (pe_op op_add (pe_op op_mul pe_int (pv 1)) pe_int)))
      (pss_cons (ps_set (i := 3) scJug.nd rfl (.inl rfl) (pe_op op_mod (pe_callTy call_int1 (by rfl) mI (by decide +kernel) (pa_cons (pe_callB call_abs (by rfl) mA (by decide +kernel) (pa_cons (pv 2) pa_nil)) pa_nil)) (pe_op op_powX (pe_op op_powX pe_int pe_int) pe_int)))
      (pss_cons (ps_set (i := 4) scJug.nd rfl (.inl rfl) (pe_op op_add (pe_op op_add (pe_op op_add (pe_op op_mul (pe_op op_mod (pe_callTy call_int1 (by rfl) mI (by decide +kernel) (pa_cons (pv 3) pa_nil)) pe_int) pe_int) (pe_op op_mul pe_int (pv 1))) (pe_op op_mul pe_int (pe_callTy call_int1 (by rfl) mI (by decide +kernel) (pa_cons (pe_cmpR op_lt (pv 2) pe_int (nomark _)) pa_nil)))) pe_int))
      (pss_one (ps_ret (pe_lst (pa_cons (pe_callB (call_max2 rfl) (by rfl) mM (by decide +kernel) (pa_cons pe_int (pa_cons (pe_op op_sub (pv 3) (pe_op op_powX pe_int pe_int)) pa_nil))) (pa_cons (pe_op op_mod (pe_callTy call_int1 (by rfl) mI (by decide +kernel) (pa_cons (pv 4) pa_nil)) pe_int) (pa_cons pe_int pa_nil))))))))), ?_⟩
    refine ⟨_, rfl, _, rfl, _, _, rfl, .inl hS, _, _, rfl, rfl, _, rfl, ite2 (fun e => ?a) (fun e => ?b)⟩
    case' a =>
      have hi : i < ns.length := by
        have z := of_decide_eq_true e
        rw [List.length_map] at z
        omega
      refine ⟨_, rfl, _, rfl, _, _, _, _, rfl, rfl, hS, atI_nat (v := .int (ns[i]'hi)) (by rw [List.getElem?_map, List.getElem?_eq_getElem hi]; rfl), ?_⟩
      generalize ns[i]'hi = cell
    case' b =>
      refine ⟨_, rfl, _, _, rfl, rfl, .inl (by decide), _, _, rfl, rfl, ?_⟩
      generalize 71 * (i : Int) + 41 = cell
    all_goals
      refine ⟨_, rfl, _, rfl, .inl ⟨_, rfl, _, _, rfl, rfl, ⟨by decide, by decide +kernel⟩, _, _, rfl, rfl, ⟨by decide, by decide +kernel⟩, _, _, rfl, rfl, (by show (0:Int) < _; decide +kernel), ?_⟩⟩
      have hb : (0 : Int) < (10 ^ (61 : Int).toNat) ^ (11 : Int).toNat := by decide +kernel
      have hg0 := Int.emod_nonneg (if cell < 0 then -cell else cell) (show ((10 ^ (61 : Int).toNat) ^ (11 : Int).toNat : Int) ≠ 0 by omega)
      generalize (if cell < 0 then -cell else cell) % ((10 ^ (61 : Int).toNat) ^ (11 : Int).toNat : Int) = great at hg0
      refine ⟨_, rfl, .inl ⟨_, rfl, _, _, rfl, rfl, (by show (0:Int) < _; decide), _, _, rfl, rfl, .inr (by decide), _, rfl, _, _, rfl, rfl, .inl (by decide), _, _, rfl, rfl, _, rfl, _, _, rfl, rfl, .inr ⟨_, rfl, _, _, rfl, rfl, .inl (by decide), _, _, rfl, rfl, _, _, rfl, rfl, ?_⟩⟩⟩
      refine ⟨_, rfl, _, _, rfl, rfl, ⟨by decide, by decide +kernel⟩, _, _, rfl, rfl, _, _, rfl, _, rfl, .inl ⟨_, rfl, _, _, rfl, rfl, (by show (0:Int) < _; decide), (by show 3 ≤ sizeLine; decide), fun p hp => ?_⟩⟩
      refine q p _ hp (fun b o e => by rw [upd_ne (ne_of_none e hp)]; exact e) ⟨_, _, _, upd_same, ?_⟩
      split <;> omega

theorem ok_pick (F : FnP K "_law_pick" sPick f fd) (FB : FnOk P w K mg base CX0 1 fB fdB ["jug", "much"] spBit) (gB : mg "_law_bit" = some (.ref fB)) (kB : PySem.W.keepIn K (.ref fB) = true) (bB : Binds K fdB ["jug", "much"] [])
    (mL : mg "len" = none) : FnOk P w K mg base CX0 2 f fd ["jug", "items"] (spPick K) := by
  refine F.ok scPick (fun vs H Q E h => ?_) (fun cdv A outer s H vs Q E hr h => ?_)
  · obtain ⟨j, p, xs, rfl, _⟩ := h
    rfl
  · obtain ⟨j, p, xs, rfl, hj, hS, hpj, hne, hlen, q⟩ := h
    refine ⟨_, PSs.nox (pss_one (ps_ret (pe_ix ix_list (pv 1) (pe_call FB hr rfl gB kB bB .nil pass0 (pa_cons (pv 0) (pa_cons (pe_callB call_len_seq (by rfl) mL PySem.boot_len (pa_cons (pv 1) pa_nil)) pa_nil))) (fun _ _ => rfl)))), ?_⟩
    have h0 : 0 < xs.length := List.length_pos_iff.mpr hne
    refine ⟨_, rfl, _, rfl, _, rfl, _, _, rfl, .inl hS, j, _, rfl, hj, by omega, by omega, fun r H' hr0 hr1 hk => ?_⟩
    have hi : r.toNat < xs.length := by omega
    have er : r = ((r.toNat : Nat) : Int) := by omega
    rw [er]
    refine ⟨_, _, _, _, rfl, rfl, hk.sqL hpj hS, atI_nat (List.getElem?_eq_getElem hi), ?_⟩
    exact q _ _ (List.getElem_mem hi) hk

def rLenL (K : PySem.W.Frag) : List V → Hp → VK → Prop := fun xs H Q => ∃ p ys, xs = [.ref p] ∧ (SqL K H p ys ∨ SqT K H p ys) ∧ Q (.int ys.length) H
theorem call_lenL {X : Cx} : CallR X (.builtin "len") (rLenL X.K) := call_len_seq
theorem scDealt : FnScope ["jug", "items", "waits", "turn"] ["jug", "items"] (defScope sDealt) := ⟨rfl, rfl, rfl, by decide +kernel, rfl, by decide +kernel, by decide +kernel⟩
theorem ok_dealt (F : FnP K "_law_dealt" sDealt f fd) (FB : FnOk P w K mg base CX0 1 fB fdB ["jug", "much"] spBit) (gB : mg "_law_bit" = some (.ref fB)) (kB : PySem.W.keepIn K (.ref fB) = true) (bB : Binds K fdB ["jug", "much"] [])
    (mL : mg "len" = none) (mR : mg "range" = none) (mT : mg "list" = none) : FnOk P w K mg base CX0 2 f fd ["jug", "items"] (spDealt K) := by
  refine F.ok scDealt (fun vs H Q E h => ?_) (fun cdv A outer s H vs Q E hr h => ?_)
  · obtain ⟨j, p, xs, rfl, _⟩ := h
    rfl
  · obtain ⟨j, p, xs, rfl, hj, hS, hpj, hlen, q⟩ := h
    refine ⟨_, PSs.nox (pss_cons (ps_set (i := 2) scDealt.nd rfl (.inr rfl) (pe_callTy call_list_of (by rfl) mT (by decide +kernel) (pa_cons (pv 1) pa_nil)))
      (pss_one (ps_ret (pe_lc (own := [("turn", 3)]) (g := gName 3) (tt := tYes) (te := tBM K "list" rPopAt (tVar 2) (tCons (tCall spBit [] E0 (tCons (tVar 0) (tCons (tCB (rLenL K) (tCons (tVar 2) tNil)) tNil))) tNil)) rfl scDealt.nd (pi_range1 (by rfl) mR (pa_cons (pe_callB call_len_seq (by rfl) mL PySem.boot_len (pa_cons (pv 1) pa_nil)) pa_nil))
        (blkOk_by (N := ["jug", "items", "waits", "turn"]) (sc := defScope sDealt) (by decide +kernel)) (fun _ _ _ _ _ => pg_name (i := 3) scDealt.nd rfl (Or.inl rfl)) (fun _ _ _ _ _ => pts_nil)
        (fun _ _ _ _ _ => by
          refine pe_bm (T := "list") (id := "list.pop") (r := rPopAt) PySem.F.plainAttrs_list PySem.F.slot_list_pop PySem.F.type_list_pop ?_ ?_ ?_
          · exact mt_popAt
          · exact pv 2
          · exact (pa_cons (pe_call FB hr (by rfl) gB kB bB .nil pass0 (pa_cons (pv 0) (pa_cons (pe_callB call_lenL (by rfl) mL PySem.boot_len (pa_cons (pv 2) pa_nil)) pa_nil))) pa_nil)))))), ?_⟩
    refine ⟨_, rfl, _, _, rfl, hS, fun wt hw => ?_⟩
    have hwj : wt ≠ j := fun z => by
      obtain ⟨a, b, c, e, _⟩ := hj
      rw [z, e] at hw
      cases hw
    refine ⟨_, rfl, _, _, rfl, hS.imp (Kj.sqL ((Kj.refl hj).new hw hwj) hpj) (Kj.sqT ((Kj.refl hj).new hw hwj) hpj), _, rfl, by omega, by omega, fun D hD => ?_⟩
    have ewt : (upd H wt (.lst xs)) wt = some (.lst xs) := upd_same
    have nDw : wt ≠ D := ne_of_none ewt hD
    have hkw : Kj j H (upd H wt (.lst xs)) := (Kj.refl hj).new hw hwj
    have nDj : D ≠ j := fun z => by
      obtain ⟨a, b, c, e, _⟩ := hkw.2
      rw [z, e] at hD
      cases hD
    have hDH : H D = none := by
      cases e : H D with
      | none => rfl
      | some o =>
        rw [hkw.1 D o nDj e] at hD
        cases hD
    refine lc_range (n := xs.length) (fun i H' => ∃ ws acc : List V, H' wt = some (.lst ws) ∧ H' D = some (.lst acc) ∧ ws.length + i = xs.length ∧ acc.length = i ∧ (acc ++ ws).Perm xs ∧ Kj j H H') ?_ ?_ ?_
    · refine ⟨xs, [], by rw [upd_ne nDw]; exact ewt, upd_same, by simp, rfl, List.Perm.refl _, ?_⟩
      refine ⟨fun b o n e => ?_, ?_⟩
      · rw [upd_ne (ne_of_none e hDH)]
        exact hkw.1 b o n e
      · obtain ⟨a, b, c, e, h⟩ := hkw.2
        exact ⟨a, b, c, by rw [upd_ne (Ne.symm nDj)]; exact e, h⟩
    · rintro i H' hi ⟨ws, acc, hws, hacc, l1, l2, pm, hk⟩
      have hlw : 0 < ws.length := by omega
      refine ⟨rfl, _, rfl, .inl ⟨rfl, _, .inl (.inl hws)⟩, _, rfl, _, rfl, _, _, rfl, .inl (SqL.of hws), j, _, rfl, hk.2, by omega, by omega, fun r H2 hr0 hr1 hk2 => ?_⟩
      have hwt2 := hk2.1 wt _ hwj hws
      have hi : r.toNat < ws.length := by omega
      have er : r = ((r.toNat : Nat) : Int) := by omega
      have es : seqIndex? r ws.length = some r.toNat := by
        rw [er]
        unfold seqIndex?
        simp
        omega
      refine ⟨wt, ws, r, r.toNat, _, rfl, rfl, hwt2, by omega, by omega, es, List.getElem?_eq_getElem hi, ?_⟩
      have hacc2 := hk2.1 D _ nDj hacc
      refine ⟨acc, by rw [upd_ne (Ne.symm nDw)]; exact hacc2, by rw [l2]; exact Nat.lt_of_lt_of_le (show i < 1001 by omega) (by decide), ?_⟩
      have pm2 : (acc ++ [ws[r.toNat]'hi] ++ ws.eraseIdx r.toNat).Perm xs := by
        rw [List.append_assoc]
        exact ((erase_perm hi).append_left acc).trans pm
      refine ⟨ws.eraseIdx r.toNat, acc ++ [ws[r.toNat]'hi], by rw [upd_ne nDw]; exact upd_same, upd_same, by rw [List.length_eraseIdx_of_lt hi]; omega, by rw [List.length_append]; simp; omega, pm2, ?_⟩
      · have hk3 := hk.trans hk2
        refine ⟨fun b o n e => ?_, ?_⟩
        · rw [upd_ne (ne_of_none e hDH), upd_ne (ne_of_none e hw)]
          exact hk3.1 b o n e
        · obtain ⟨a, b, c, e, h⟩ := hk3.2
          exact ⟨a, b, c, by rw [upd_ne (Ne.symm nDj), upd_ne (Ne.symm hwj)]; exact e, h⟩
    · rintro H' ⟨ws, acc, hws, hacc, l1, l2, pm, hk⟩
      obtain rfl : ws = [] := List.length_eq_zero_iff.mp (by omega)
      rw [List.append_nil] at pm
      exact q D acc H' hDH hacc pm hk
end
end B73

/-! sorted(x), x a list or a tuple of texts, of any length; z[::-1] -/
namespace XSt
open PySem PySem.Spec PyProof.Rows L2 PySem.W

/-! ### sorted -/
section
variable {P : Program} {w : World} {A : Around} {E : Value → Shared → Prop} {s : Shared}
/-- the items of a list or a tuple, laid out; the heap only grows -/
theorem laid_out {T : String} {l : Addr} {o : Obj} {its : Array Value} {n : Nat} {Q : List Value → Shared → Prop} (hT : T = "list" ∨ T = "tuple") (ho : s.heap.get? l = some o) (hc : o.cls = .type T) (hd : o.data = .seq its n) (few : its.size ≤ sizeLine)
    (hQ : ∀ g : Heap, (∀ b u, s.heap.get? b = some u → g.get? b = some u) → s.heap.objs.size ≤ g.objs.size → Q its.toList { s with heap := g }) : wpAny (model P w) A (collect (.ref l)) Q E s := by
  let e0 : Obj := { cls := .type "list", data := .seq ([] : List Value).toArray }
  have at0 : (s.heap.push e0).get? s.heap.objs.size = some { cls := .type "list", data := .seq #[] 0 } := Heap.get?_push_size _ rfl
  let g1 : Heap := (s.heap.push e0).update s.heap.objs.size (Obj.mapSeq (· ++ its))
  have at1 := Heap.get?_update_self (Obj.mapSeq (· ++ its)) at0 rfl
  have size1 : s.heap.objs.size ≤ g1.objs.size := Nat.le_of_lt (Heap.lt_size at1)
  have keep1 : ∀ b u, s.heap.get? b = some u → g1.get? b = some u := fun b u hb => by
    have y : (s.heap.push e0).get? b = some u := Heap.get?_push_of_some _ hb
    exact (Heap.get?_update_other _ _ (Nat.ne_of_gt (Heap.lt_size hb))).trans y
  have told : ((#[] : Array Value) ++ its).toList = its.toList := by simp
  have last : wpAny (model P w) A (do
      match (← load s.heap.objs.size).data with
      | Data.seq xs _ => pure xs.toList
      | _ => unsupported "internal:collect") Q E { s with heap := g1 } := wpAny_bind (wpAny_load at1 (wpAny_pure (by
        show Q ((#[] : Array Value) ++ its).toList _
        rw [told]
        exact hQ g1 keep1 size1)))
  have grow := wpAny_extend_seq (hsz := few) (A := A) (prog := P) (w := w) (R := fun r t => r = .ok (.ret (.ref s.heap.objs.size)) ∧ t = { s with heap := g1 }) (s := { s with heap := s.heap.push e0 }) _ l (.ref s.heap.objs.size) 0 hT at0 (Heap.get?_push_of_some _ ho) hc hd ⟨rfl, rfl⟩
  have entry := F.entry_proto_collect
  have again_ := F.entry_list_iadd
  have quiet1 := F.plain_proto_collect
  have quiet2 := F.plain_list_iadd
  unfold collect
  exact wpAny_bind (wpAny_runValue (codeAny_builtin entry (by
    rw [Around.under_plainId quiet1 _]
    exact wpAny_bind (m := newList []) (wpAny_newObj_type (wpAny_pure ⟨plainId_quiet quiet2 _, codeAny_builtin again_ (by
      rw [Around.under_plainId quiet2 _]
      refine wpAny_mono grow (fun fin t h => ?_) (fun er t h => absurd h.1 (by simp))
      cases fin with
      | done f =>
        obtain ⟨e1, rfl⟩ := h
        cases e1
        exact last
      | again c => exact ⟨h.1, codeAny_mono h.2 fun r t2 hr => by
          obtain ⟨rfl, rfl⟩ := hr
          exact last⟩)⟩)))))
theorem sorted_seq {T : String} {l : Addr} {o : Obj} {vs : List Value} {n : Nat} {xs : List Str} {Q : Value → Shared → Prop} (hT : T = "list" ∨ T = "tuple") (ho : s.heap.get? l = some o) (hc : o.cls = .type T) (hd : o.data = .seq vs.toArray n)
    (e : EachIs (fun v (k : Str) => TxRel k v) vs xs) (few : xs.length ≤ sizeLine) (room : A.units + 64 < cLine)
    (fin : ∀ h' p (out : Array Value) (c : Nat), Sub s.heap h' → s.heap.objs.size ≤ p → h'.get? p = some (seqObj "list" out c) →
      EachIs (fun v (k : Str) => TxRel k v) out.toList (xs.mergeSort sLe) → Q (.ref p) { s with heap := h' }) :
    wpAny (model P w) A (call (.builtin "sorted") [.ref l]) Q E s := by
  refine Calls.call_function_entry kind_sorted plain_sorted entry_sorted (args_sorted1 _) ?_
  unfold Builtin.«sorted»
  refine wpAny_bind (m := checkCount "sorted" 1 1 _) (wpAny_pure ?_)
  refine wpAny_bind (laid_out (A := A.in1) hT ho hc hd (by rw [List.size_toArray, e.length]; exact few) fun h' k sz => ?_)
  have len : vs.length = xs.length := e.length
  rw [List.toList_toArray]
  refine wpAny_bind (wpAny_newList ?_ (by rw [len]; exact few))
  have hl : (h'.push (seqObj "list" vs.toArray 0)).get? h'.objs.size = some (seqObj "list" vs.toArray 0) := Heap.get?_push_size _ rfl
  have er : EachIs (fun v (x : Str) => ∃ as, Reads (h'.push (seqObj "list" vs.toArray 0)) v (PyData.str x) as ∧ h'.objs.size ∉ as) vs xs := e.mono fun v x r => by
    obtain ⟨u, rfl⟩ := r
    exact ⟨[], .str _ _, by simp⟩
  refine wpAny_bind (wpAny_holding (list_sort_data (s := { s with heap := h'.push (seqObj "list" vs.toArray 0) }) (enc := fun k : Str => PyData.str k) hl e er (AllAlike.of fun _ _ => by simp [alike]) (Sortable.others fun b => ⟨fun z => (by cases z), fun xs z => (by cases z)⟩) few (fun x _ => ?_) fun out lo eo => ?_))
  · simp only [PyData.depth]
    have : A.in1.units ≤ A.units + 1 := by simp [Around.in1]
    omega
  · obtain ⟨c, hc⟩ := sortedHeap_at (vs := vs) (out := out.toArray) hl
    rw [dataLe_tx] at eo
    refine wpAny_pure ⟨_, rfl, fin _ h'.objs.size out.toArray c (fun b o e => ?_) sz hc (by simpa using eo)⟩
    have k1 := k b o e
    have lt := Heap.lt_size k1
    show (sortedHeap (h'.push (seqObj "list" vs.toArray 0)) h'.objs.size vs out.toArray).get? b = some o
    rw [sortedHeap_old (Nat.ne_of_lt lt) (by rw [size_push']; exact Nat.lt_succ_of_lt lt)]
    exact Heap.get?_push_of_some _ k1
end

section
variable {X : Cx}
def rSortT (K : PySem.W.Frag) : List V → Hp → VK → Prop := fun vs H Q => ∃ (l : Addr) (xs : List Str), vs = [.ref l] ∧ (SqL K H l (xs.map V.str) ∨ SqT K H l (xs.map V.str)) ∧ xs.length ≤ sizeLine ∧
  ∀ q, H q = none → Q (.ref q) (upd H q (.lst ((xs.mergeSort sLe).map V.str)))
theorem cr_sortT (hu : X.A.units + 64 < cLine) : CallR X (.builtin "sorted") (rSortT X.K) := by
  intro pins s σ H xs us Q I r h
  obtain ⟨l, xs, rfl, sq, few, q⟩ := h
  obtain ⟨u, rfl, rx⟩ := vals1 r
  obtain rfl : u = Value.ref l := rx
  have main : ∀ (T : String) (o : Obj) (vs : List Value) (n : Nat), (T = "list" ∨ T = "tuple") → s.heap.get? l = some o → o.cls = .type T → o.data = .seq vs.toArray n → Vals (xs.map V.str) vs →
      wpAny (model X.prog X.w) X.A (call (.builtin "sorted") [.ref l]) (EP X pins σ Q) X.xe s := fun T o vs n hT ho hc hd rv => by
    refine sorted_seq hT ho hc hd (each_txt rv) few hu fun h' p out c sb sz at_ eo => ?_
    have rv2 : Vals ((xs.mergeSort sLe).map V.str) out.toList := vals_each eo
    have few2 : ((xs.mergeSort sLe).map V.str).length ≤ sizeLine := by
      rw [List.length_map, List.length_mergeSort]
      exact few
    exact ⟨.ref p, upd H p (.lst ((xs.mergeSort sLe).map V.str)), I.laid (t' := s.toks) sb sz ⟨few2, out.toList, c, rv2, at_⟩, rfl, q p (I.hok.fresh sz)⟩
  rcases sq with sq | sq
  · obtain ⟨its, rv, pl, hz⟩ := I.list sq
    obtain ⟨o, ho, hc, n, hd⟩ := id pl.isList
    exact main "list" o its n (.inl rfl) ho hc hd rv
  · obtain ⟨its, rv, pl, hz⟩ := I.tuple sq
    obtain ⟨o, ho, hc, n, hd⟩ := id pl
    exact main "tuple" o its n (.inr rfl) ho hc hd rv
end

/-! ### z[::-1] -/
def revS (z : Str) : Str := ⟨z.cps.reverse⟩
section
variable {X : Cx}
theorem pick_rev (z : Str) : (Builtin.Str.strSliceIndices none none (-1) z.length).filterMap (z.cps[·]?) = z.cps.toList.reverse := by
  have e : Builtin.Str.strSliceIndices none none (-1) z.length = (List.range z.cps.size).reverse := by
    have y := krv_sliceRange z.length
    rw [krv_range] at y
    show _ = (List.range z.length).reverse
    rw [← y]
    rfl
  rw [e, List.filterMap_reverse]
  congr 1
  have a : ∀ (xs : Array Nat), (List.range xs.size).filterMap (xs[·]?) = xs.toList := fun xs => krv_all xs
  exact a _
def tRevS (te : TE) : TE := fun σ H Q => te σ H fun x H1 => ∃ z, x = .str z ∧ z.length ≤ sizeLine ∧ Q (.str (revS z)) H1
theorem pe_revS {e : Expr} {te : TE} {k : Nat} {p1 p2 p3 pos : Pos} (he : PE X e te) : PE X (.Subscript e (.Slice none none (some (.UnaryOp .USub (.Constant (.int 1) k p1) p2)) p3) pos) (tRevS te) := by
  refine ⟨fun pins s σ H Q I h => ?_⟩
  refine Subscript_ (thn (he.run pins s σ H _ I h) fun v s1 ⟨x, H1, I1, r1, q1⟩ => ?_)
  obtain ⟨z, ex, hz, q⟩ := q1
  subst ex
  obtain ⟨t, rfl⟩ := r1
  have hst : PO X (some (.UnaryOp .USub (.Constant (.int 1) k p1) p2)) (tPart (tUn (rU fun i => .int (-i)) (tC (.int 1)))) := po_some (pe_un un_neg pe_int)
  refine wpAny_Slice (thn (po_none.run pins s1 σ H1 (fun o H2 => o = none ∧ H2 = H1) I1 ⟨rfl, rfl⟩) fun vl s2 ⟨l, H2, I2, pl, el, e2⟩ => ?_)
  subst el e2
  refine thn (po_none.run pins s2 σ H2 (fun o H3 => o = none ∧ H3 = H2) I2 ⟨rfl, rfl⟩) fun vu s3 ⟨u, H3, I3, pu, eu, e3⟩ => ?_
  subst eu e3
  refine thn (hst.run pins s3 σ H3 (fun o H4 => o = some (-1) ∧ H4 = H3) I3 ⟨1, rfl, -1, rfl, rfl, rfl⟩) fun vs s4 ⟨o, H4, I4, ps, eo, e4⟩ => ?_
  subst eo e4
  have I5 : Inv X pins σ H4 { s4 with heap := s4.heap.push { cls := .type "slice", data := .fields #[vl, vu, vs] } } := I4.kept (t' := s4.toks) fun b ob q => Heap.get?_push_of_some _ q
  obtain ⟨l', rfl, el⟩ := IsPart.raw pl
  obtain ⟨u', rfl, eu⟩ := IsPart.raw pu
  obtain ⟨st', rfl, es⟩ := IsPart.raw ps
  have el' : l' = none := by
    cases l' with
    | none => rfl
    | some y => cases el
  have eu' : u' = none := by
    cases u' with
    | none => rfl
    | some y => cases eu
  subst el' eu'
  cases st' with
  | none => cases es
  | some y =>
    obtain ⟨m, tm⟩ := y
    obtain rfl : m = -1 := Option.some.inj es
    show wpAny (model X.prog X.w) X.A (subscriptTail e (.Slice none none (some (.UnaryOp .USub (.Constant (.int 1) k p1) p2)) p3) (.str z t) (.ref s4.heap.objs.size)) (EP X pins σ Q) X.xe { s4 with heap := s4.heap.push { cls := .type "slice", data := .fields #[partValue none, partValue none, partValue (some (-1, tm))] } }
    refine tail_any (ops := [.str z t, .ref s4.heap.objs.size]) (typeIs_str _ z t) slot_str_getitem.lookup ?_ (by with_unfolding_all rfl)
    refine wpAny_getItem_str_slice (l := none) (u := none) (st := some (-1, tm)) ⟨_, Heap.get?_push_size _ rfl, rfl, rfl⟩ rfl ?_
    show Made.post (if ((-1 : Int) == 1 && _) = true then _ else Made.str ⟨((Builtin.Str.strSliceIndices none none (-1) z.length).filterMap (z.cps[·]?)).toArray⟩) (EP X pins σ Q) _
    rw [if_neg (by simp), pick_rev]
    have er : (⟨z.cps.toList.reverse.toArray⟩ : Str) = revS z := by
      unfold revS
      congr 1
      apply Array.toList_inj.mp
      simp
    rw [er]
    refine ⟨?_, .str _, H4, I5.tok _, ⟨_, rfl⟩, q⟩
    show z.cps.reverse.size ≤ sizeLine
    rw [Array.size_reverse]
    exact hz
end
end XSt

/-! what Python calls by itself of an own class: len, [], in, ==, !=, str; a class made by a local name; what is never reached -/
namespace XB
open PySem PySem.Spec PyProof.Rows L2 PySem.Calls

/-- never reached -/
theorem pe_never {X : Cx} {e : Expr} : PE X e (fun _ _ _ => False) := ⟨fun _ _ _ _ _ _ h => h.elim⟩

theorem rel_ref (a : Addr) : L2.RelV (.ref a) (.ref a) := rfl
structure Own (K : PySem.W.Frag) (C : Addr) (m : Str) (f : Addr) : Prop where
  at_ : PySem.W.findIn K (.ref C) m = some (some (.ref f))
  fn : PySem.W.isFn K (.ref f) = true
section
variable {X : Cx} {pins : List (Addr × Obj)} {σ : L2.St} {H : Hp} {s : Shared} {a C dx f : Addr} {fs : List (Str × V)} {k : Nat} {fd : FuncData} {ps : List Str} {sp : Sp}
theorem ins_inst (I : Inv X pins σ H s) (ea : H a = some (.ins C dx fs)) : ∃ ox od, PySem.W.InstAt s.heap a ox C (some od) := by
  obtain ⟨mA, O, _⟩ := ins_get I.hok ea
  obtain ⟨od, J, _⟩ := O.look
  exact ⟨_, od, J⟩
theorem run_own {A : Around} {Q : VK} {us : List Value} {vs : List V} {E : Value → Shared → Prop} (F : FnOk X.prog X.w X.K X.mg X.base CX0 k f fd ps sp) (hr : Room k A) (e0 : Env0 X.prog X.w X.K X.mg X.base A X.stack s H) (hb : Binds X.K fd ps [])
    (I : Inv X pins σ H s) (r : Vals vs us) (h : sp vs H Q E0) : wpAny (model X.prog X.w) A (call (.ref f) us) (EP X pins σ Q) E s := by
  have hl : us.length = ps.length := by rw [← r.length]; exact F.len _ _ _ _ h
  have bound := hb s us I.kIn (by simpa using hl)
  rw [List.append_nil] at bound
  refine wpAny_call (codeAny_mono (F.run A X.stack s H ⟨us, []⟩ us vs Q E0 hr e0 bound r h) fun r s' done => ?_)
  cases r with
  | error er => exact False.elim done
  | ok fl =>
    cases fl with
    | ret u => exact I.after done
    | next => exact False.elim done
    | brk => exact False.elim done
    | cont => exact False.elim done

/-! ### len(o) -/
def rLenO (C : Addr) (sp : Sp) : List V → Hp → VK → Prop := fun xs H Q => ∃ a dx fs, xs = [.ref a] ∧ H a = some (.ins C dx fs) ∧ sp [.ref a] H (fun v H' => ∃ n : Nat, v = .int (n : Int) ∧ n < 4611686018427387904 ∧ Q (.int (n : Int)) H') E0
theorem call_lenO (F : FnOk X.prog X.w X.K X.mg X.base CX0 k f fd ps sp) (hr : Room (k + 1) X.A) (O : Own X.K C "__len__" f) (hb : Binds X.K fd ps []) : CallR X (.builtin "len") (rLenO C sp) := by
  intro pins s σ H xs us Q I r h
  obtain ⟨a, dx, fs, rfl, ea, q⟩ := h
  obtain ⟨u, rfl, rx⟩ := vals1 r
  obtain rfl : u = Value.ref a := rx
  obtain ⟨ox, od, J⟩ := ins_inst I ea
  obtain ⟨m, hF⟩ := I.fr
  refine PySem.W.len_K hF I.ok.mod.kin J O.at_ O.fn ?_
  refine wpAny_mono (run_own F hr.in1 I.env0.in1 hb I (.cons (rel_ref a) .nil) q) (fun v s' z => ?_) (fun _ _ z => z)
  obtain ⟨y, H', I', ry, n, rfl, hn, q'⟩ := z
  obtain ⟨t, rfl⟩ := ry
  exact ⟨⟨by omega, by omega⟩, ⟨.int n, H', I'.tok _, ⟨_, rfl⟩, q'⟩⟩

/-! ### o[i] -/
def rIxO (C : Addr) (sp : Sp) : R2 := fun x y H Q => ∃ a dx fs, x = .ref a ∧ H a = some (.ins C dx fs) ∧ sp [.ref a, y] H Q E0
theorem pe_ixO {e1 e2 : Expr} {ta tb : TE} {pos : Pos} (F : FnOk X.prog X.w X.K X.mg X.base CX0 k f fd ps sp) (hr : Room (k + 1) X.A) (O : Own X.K C "__getitem__" f) (hf : PySem.W.fnIn X.K f = true) (hb : Binds X.K fd ps []) (h1 : PE X e1 ta) (h2 : PE X e2 tb)
    (hsl : ∀ o i, subscripted e2 true o i = runValue (.builtin "lifetime.subscript" ⟨[o, i], []⟩) := by intro _ _; with_unfolding_all rfl) : PE X (.Subscript e1 e2 pos) (tOp (rIxO C sp) ta tb) := by
  refine ⟨fun pins s σ H Q I h => ?_⟩
  refine Subscript_ (binT h1 h2 I h fun v u s2 x y H2 I2 rx ry q => ?_)
  obtain ⟨a, dx, fs, rfl, ea, q⟩ := q
  obtain rfl : v = Value.ref a := rx
  obtain ⟨ox, od, J⟩ := ins_inst I2 ea
  obtain ⟨m, hF⟩ := I2.fr
  exact PySem.W.sub_K hF I2.ok.mod.kin J O.at_ hf O.fn (run_own F hr.in1 I2.env0.in1 hb I2 (.cons (rel_ref a) (.cons ry .nil)) q) (hsl _ _)

/-! ### x in o, x not in o -/
def rInO (C : Addr) (sp : Sp) (g : Bool → Bool) : R2 := fun x y H Q => ∃ a dx fs, y = .ref a ∧ H a = some (.ins C dx fs) ∧ sp [.ref a, x] H (fun v H' => ∃ b, v = .bl b ∧ Q (.bl (g b)) H') E0
theorem op_inO (F : FnOk X.prog X.w X.K X.mg X.base CX0 k f fd ps sp) (hr : Room k X.A) (O : Own X.K C "__contains__" f) (hb : Binds X.K fd ps []) : OpR X (compareOp .In) (rInO C sp fun b => b) := by
  intro pins s σ H x y v u Q I rx ry h
  obtain ⟨a, dx, fs, rfl, ea, q⟩ := h
  obtain rfl : u = Value.ref a := ry
  obtain ⟨ox, od, J⟩ := ins_inst I ea
  obtain ⟨m, hF⟩ := I.fr
  refine PySem.W.in_K hF I.ok.mod.kin J O.at_ O.fn (wpAny_mono (run_own F hr I.env0 hb I (.cons (rel_ref a) (.cons rx .nil)) q) (fun r s' z => ?_) (fun _ _ z => z))
  obtain ⟨y, H', I', ry, b, rfl, q'⟩ := z
  obtain rfl : r = Value.bool b := ry
  exact wpAny_truthy_bool ⟨.bl b, H', I', rfl, q'⟩
theorem op_notInO (F : FnOk X.prog X.w X.K X.mg X.base CX0 k f fd ps sp) (hr : Room k X.A) (O : Own X.K C "__contains__" f) (hb : Binds X.K fd ps []) : OpR X (compareOp .NotIn) (rInO C sp fun b => !b) := by
  intro pins s σ H x y v u Q I rx ry h
  obtain ⟨a, dx, fs, rfl, ea, q⟩ := h
  obtain rfl : u = Value.ref a := ry
  obtain ⟨ox, od, J⟩ := ins_inst I ea
  obtain ⟨m, hF⟩ := I.fr
  refine PySem.W.notIn_K hF I.ok.mod.kin J O.at_ O.fn (wpAny_mono (run_own F hr I.env0 hb I (.cons (rel_ref a) (.cons rx .nil)) q) (fun r s' z => ?_) (fun _ _ z => z))
  obtain ⟨y, H', I', ry, b, rfl, q'⟩ := z
  obtain rfl : r = Value.bool b := ry
  exact wpAny_truthy_bool ⟨.bl (!b), H', I', rfl, q'⟩

/-! ### o == x, o != x -/
def rEqO (K : PySem.W.Frag) (C : Addr) (sp : Sp) (g : Bool → Bool) : R2 := fun x y H Q => ∃ a dx fs t, x = .ref a ∧ H a = some (.ins C dx fs) ∧ TyX K H y t ∧ PySem.W.notFirst K C t = true ∧ sp [.ref a, y] H (fun v H' => ∃ b, v = .bl b ∧ Q (.bl (g b)) H') E0
theorem op_eqO (F : FnOk X.prog X.w X.K X.mg X.base CX0 k f fd ps sp) (hr : Room k X.A) (O : Own X.K C "__eq__" f) (hb : Binds X.K fd ps []) : OpR X (compareOp .Eq) (rEqO X.K C sp fun b => b) := by
  intro pins s σ H x y v u Q I rx ry h
  obtain ⟨a, dx, fs, t, rfl, ea, ty, nf, q⟩ := h
  obtain rfl : v = Value.ref a := rx
  obtain ⟨ox, od, J⟩ := ins_inst I ea
  obtain ⟨m, hF⟩ := I.fr
  obtain ⟨P, Z, p, _⟩ := kit_of I ry ty
  refine PySem.W.cmp_K (op := .Eq) hr.units0 hF I.ok.mod.kin J (Z.ty _ _ I.kIn p) nf O.at_ O.fn (wpAny_mono (run_own F hr I.env0 hb I (.cons (rel_ref a) (.cons ry .nil)) q) (fun r s' z => ?_) (fun _ _ z => z))
  obtain ⟨y, H', I', ry, b, rfl, q'⟩ := z
  obtain rfl : r = Value.bool b := ry
  exact ⟨.bl b, H', I', rfl, q'⟩
theorem slot_ne : Slot "object" "__ne__" "object.__ne__" := .of (owner := "object") (n := "__ne__") (by rw [typeLookup_type, builtinLookup_eq_fast]; kernel_rfl) (by decide +kernel) (by decide +kernel) (by decide +kernel)
    (.inl (by decide +kernel)) (by rw [isSubtype_type]; kernel_rfl)
theorem bound_slot {M : Model} {A : Around} {E : Value → Shared → Prop} {K : PySem.W.Frag} {x : Addr} {ox : Obj} {od : Option Obj} {name : Str} {id : String} {args : List Value} {Q : Option Value → Shared → Prop} (KX : K.In s.heap) (I : PySem.W.InstAt s.heap x ox C od)
    (hs : PySem.W.findIn K (.ref C) name = some (some (.builtin id))) (S : ∀ self, bindSpecial (.builtin id) self = pure (.builtin id, [self])) (h : wpAny M A (call (.builtin id) (.ref x :: args)) (fun v => Q (some v)) E s) : wpAny M A (callSpecialIfBound? (.ref x) name args) Q E s := by
  have fin : wpAny M A (call (.builtin id) ([.ref x] ++ args) >>= fun v => pure (some v)) Q E s := wpAny_bind (wpAny_mono h (fun v s' z => wpAny_pure z) fun _ _ z => z)
  have bd : PySem.W.Looks M s.heap (bindSpecial (.builtin id) (.ref x)) (.builtin id, [.ref x]) := PySem.W.Looks.of_pure (S _)
  simp only [callSpecialIfBound?, bindSpecialIfBound?]
  refine wpAny_holding (wpAny_bind (wpAny_bind (wpAny_bind (I.type.here ((PySem.W.looks_findIn KX hs).here (wpAny_bind (wpAny_askSetting (wpAny_ite ?_))))))))
  split
  · exact wpAny_bind (bd.here (wpAny_pure (by exact fin)))
  · exact wpAny_tryCatch (wpAny_bind (bd.here (wpAny_pure (by exact fin))))
theorem ne_own {prog : Program} {w : World} {A : Around} {E : Value → Shared → Prop} {Q : Value → Shared → Prop} {K : PySem.W.Frag} {x : Addr} {b tb : Value} {ox : Obj} {od : Option Obj} (hu : A.units + 1 < cLine) (KX : K.In s.heap) (I : PySem.W.InstAt s.heap x ox C od)
    (hb : PySem.W.Looks (model prog w) s.heap (typeOf b) tb) (hn : PySem.W.notFirst K C tb = true) (hs : PySem.W.findIn K (.ref C) "__ne__" = some (some (.builtin "object.__ne__"))) (he : PySem.W.findIn K (.ref C) "__eq__" = some (some (.ref f)))
    (hf : PySem.W.isFn K (.ref f) = true) (hob : PySem.W.subIn K (.ref C) (.type "object") = some true)
    (h : wpAny (model prog w) A.in1 (call (.ref f) [.ref x, b]) (fun r s' => ∃ c, r = .bool c ∧ Q (.bool (!c)) s') E s) : wpAny (model prog w) A (richCompare .NotEq (.ref x) b) Q E s := by
  have hu0 : A.units < cLine := by omega
  have hu1 : A.in1.units < cLine := by show A.units + 1 < cLine; exact hu
  have body : wpAny (model prog w) A.in1 (Builtin.«object.__ne__» ⟨[.ref x, b], []⟩) (fun fin s' => match fin with
      | .done fl => wants (fun v s' => ∃ c, v = .bool c ∧ Q (.bool c) s') E (.ok fl) s'
      | .again c' => c'.quiet = true ∧ codeAny (model prog w) A c' (wants (fun v s' => ∃ c, v = .bool c ∧ Q (.bool c) s') E) s') (fun e s' => wants (fun v s' => ∃ c, v = .bool c ∧ Q (.bool c) s') E (.error e) s') s := by
    unfold Builtin.«object.__ne__»
    refine wpAny_bind (m := slotArgs _ _ _) (wpAny_pure ?_)
    refine wpAny_bind (wpAny_cRoomFor hu1 ?_)
    refine wpAny_bind (m := callSpecialIfBound? (.ref x) (Str.ofString "__eq__") [b]) (PySem.W.ifBound_K KX I he hf (wpAny_mono h (fun r s' z => ?_) fun _ _ z => z))
    obtain ⟨c, rfl, q⟩ := z
    refine wpAny_bind (wpAny_truthy_bool ?_)
    exact wpAny_pure ⟨_, rfl, q⟩
  have one : wpAny (model prog w) A (tryCompare (.ref x) "__ne__" b) (fun r s' => ∃ v, r = some v ∧ Q v s') E s := by
    have chk : PySem.W.Looks (model prog w) s.heap (isInstance (.ref x) (.type "object")) true := I.type.andThen (PySem.W.looks_subIn KX hob)
    have fin : wpAny (model prog w) A (call (.builtin "object.__ne__") [.ref x, b]) (fun v s' => ∃ c, v = .bool c ∧ Q (.bool c) s') E s :=
      wpAny_call (codeAny_call_builtin slot_ne.plain F.cmpEntry_ne (PySem.W.check_slot F.cmpKind_ne F.cmpSplit_ne chk (F.cmpArgs_ne _ _) body))
    unfold tryCompare
    refine wpAny_bind (bound_slot KX I hs slot_ne.bind (wpAny_mono fin (fun v s' z => ?_) fun _ _ z => z))
    obtain ⟨c, rfl, q⟩ := z
    exact wpAny_pure ⟨_, rfl, q⟩
  unfold richCompare
  simp only [oneThing_ref]
  refine wpAny_holding (wpAny_bind (wpAny_cRoomFor hu0 (wpAny_bind (I.type.here (wpAny_bind (hb.here ?_))))))
  have tell : ∀ {t : Option Value → Sem Value}, (∀ v, t (some v) = pure v) → wpAny (model prog w) A (tryCompare (.ref x) "__ne__" b >>= t) Q E s := fun ht => wpAny_bind (wpAny_mono one (fun r s' z => by
    obtain ⟨v, rfl, q⟩ := z
    rw [ht]
    exact wpAny_pure q) fun _ _ z => z)
  split
  · rename_i q
    have e : PySem.W.subIn K tb (.ref C) = some false := by
      rcases Bool.or_eq_true_iff.mp hn with e | e
      · rw [beq_iff_eq.mp e] at q
        simp at q
      · exact beq_iff_eq.mp e
    refine wpAny_bind ((PySem.W.looks_subIn KX e).here ?_)
    simp only [Bool.false_eq_true, if_false]
    exact tell fun _ => rfl
  · refine wpAny_bind (wpAny_pure ?_)
    simp only [Bool.false_eq_true, if_false]
    exact tell fun _ => rfl
theorem op_neO (F : FnOk X.prog X.w X.K X.mg X.base CX0 k f fd ps sp) (hr : Room (k + 1) X.A) (O : Own X.K C "__eq__" f) (hs : PySem.W.findIn X.K (.ref C) "__ne__" = some (some (.builtin "object.__ne__"))) (hob : PySem.W.subIn X.K (.ref C) (.type "object") = some true)
    (hb : Binds X.K fd ps []) : OpR X (compareOp .NotEq) (rEqO X.K C sp fun b => !b) := by
  intro pins s σ H x y v u Q I rx ry h
  obtain ⟨a, dx, fs, t, rfl, ea, ty, nf, q⟩ := h
  obtain rfl : v = Value.ref a := rx
  obtain ⟨ox, od, J⟩ := ins_inst I ea
  obtain ⟨P, Z, p, _⟩ := kit_of I ry ty
  refine ne_own (by have := hr.un; omega) I.kIn J (Z.ty _ _ I.kIn p) nf hs O.at_ O.fn hob (wpAny_mono (run_own F hr.in1 I.env0.in1 hb I (.cons (rel_ref a) (.cons ry .nil)) q) (fun r s' z => ?_) (fun _ _ z => z))
  obtain ⟨y, H', I', ry, b, rfl, q'⟩ := z
  obtain rfl : r = Value.bool b := ry
  exact ⟨b, rfl, .bl (!b), H', I', rfl, q'⟩

/-! ### str(o) -/
def rStrO (C : Addr) (sp : Sp) : List V → Hp → VK → Prop := fun xs H Q => ∃ a dx fs, xs = [.ref a] ∧ H a = some (.ins C dx fs) ∧ sp [.ref a] H (fun v H' => ∃ z, v = .str z ∧ Q (.str z) H') E0
theorem call_strO (F : FnOk X.prog X.w X.K X.mg X.base CX0 k f fd ps sp) (hr : Room (k + 2) X.A) (O : Own X.K C "__str__" f) (hb : Binds X.K fd ps []) : CallR X (.type "str") (rStrO C sp) := by
  intro pins s σ H xs us Q I r h
  obtain ⟨a, dx, fs, rfl, ea, q⟩ := h
  obtain ⟨u, rfl, rx⟩ := vals1 r
  obtain rfl : u = Value.ref a := rx
  obtain ⟨ox, od, J⟩ := ins_inst I ea
  have room2 : Room k X.A.in1.in1 := (Room.in1 hr).in1
  refine PySem.W.kso_call room2.units0 I.kIn J O.at_ O.fn (wpAny_mono (run_own F room2 I.env0.in1.in1 hb I (.cons (rel_ref a) .nil) q) (fun v s' z => ?_) (fun _ _ z => z))
  obtain ⟨y, H', I', ry, n, rfl, q'⟩ := z
  obtain ⟨t, rfl⟩ := ry
  exact ⟨.str n, H', I', ⟨t, rfl⟩, q'⟩

/-! ### cls(..), cls a local name that holds the class -/
def tMakeL (i : Nat) (C : Addr) (sp : Sp) (t : TA) : TE := fun σ H Q => σ[i]? = some (some (.ref C)) ∧ tMake C sp [] E0 t σ H Q
theorem pe_makeL {i : Nat} {x : Str} {p pos : Pos} {e : Expr} {es : List Expr} {t : TA} (M : Mk X.K C f) (F : FnOk X.prog X.w X.K X.mg X.base CX0 k f fd ps sp) (hr : Room (k + 1) X.A) (hN : X.N[i]? = some x) (hv : Vis X.env.scope x) (hb : Binds X.K fd ps []) (ha : PA X (e :: es) t)
    (hdb : (x == ("__debug__" : Str)) = false := by decide) (hcd : (x == ("__classdict__" : Str)) = false := by decide)
    (he : starEach (e :: es) X.env = (false, eval e X.env) :: starEach es X.env := by rfl) (hpl : (backTo pos (starEach es X.env)).any (·.1) = false := by rfl) : PE X (.Call (.Name x p) (e :: es) [] pos) (tMakeL i C sp t) := by
  refine ⟨fun pins s σ H Q I h => ?_⟩
  obtain ⟨hs, ht⟩ := h
  refine wpAny_Call_Name_kw (thn ((pe_var (pos := p) hN hv hdb hcd).run pins s σ H (fun v H1 => v = .ref C ∧ H1 = H) I ⟨.ref C, hs, rfl, rfl⟩) fun u s1 ⟨v, H1, I1, r1, q1⟩ => ?_)
  obtain ⟨rfl, rfl⟩ := q1
  cases r1
  refine PySem.W.callWith_K (h₀ := X.base) I.ok.mod.kin M.kp (thn (ha.run pos pins s1 σ _ _ I1 ht) fun us s2 ⟨vs, H2, I2, r, q⟩ => ⟨I2.kIn, ?_⟩) he hpl
  exact run_make M F hr hb .nil pass0 I2 r q
end
end XB

/-! the judges of the names -/
namespace B73
open PySem PySem.Spec PyProof.Rows L2 XSt NX
open PySem.W (Frag)
abbrev sIsInteger : Stmt := top 11
abbrev sIsLetters : Stmt := top 12
abbrev sIsSpelled : Stmt := top 14
/-- the second tells all that the first tells -/
def Ext (H H' : Hp) : Prop := ∀ b o, H b = some o → H' b = some o
theorem Ext.refl (H : Hp) : Ext H H := fun _ _ e => e
theorem Ext.trans {a b c : Hp} (x : Ext a b) (y : Ext b c) : Ext a c := fun q o e => y q o (x q o e)
theorem Ext.new {H H' : Hp} {p : Addr} {o : HO} (k : Ext H H') (h : H' p = none) : Ext H (upd H' p o) := fun b u e => by rw [upd_ne (ne_of_none (k b u e) h)]; exact k b u e

def spIsInteger (K : Frag) : Sp := fun vs H Q _ => ∃ v, vs = [v] ∧ Asked K H v ∧ Q (.bl (longV v)) H
def spIsLetters (K : Frag) : Sp := fun vs H Q _ => ∃ v, vs = [v] ∧ Asked K H v ∧ ∀ H', Ext H H' → Q (.bl (lettersV v)) H'
def spIsSpelled (K : Frag) : Sp := fun vs H Q _ => ∃ x v, vs = [.str x, v] ∧ Asked K H v ∧ Q (.bl (spelledV x v)) H
def spOrdered (K : Frag) : Sp := fun vs H Q _ => ∃ v xs, vs = [v] ∧ Feeds K H v xs ∧ xs.length < 4096 ∧ (∀ k ∈ xs, k.length ≤ 16777216) ∧ ∀ p H', H p = none → Ext H H' → H' p = some (.tup ((ordT xs).map V.str)) → Q (.ref p) H'
/-- the module's numbers -/
structure Sizes (mg : Str → Option Value) : Prop where
  long : ∃ t, mg "_TOO_LONG" = some (.int ((10 ^ 50) ^ 4) t)
  letters : ∃ t, mg "MAX_LETTERS" = some (.int 3 t)
  word : ∃ t, mg "MAX_WORD" = some (.int 400 t)
structure Free (mg : Str → Option Value) : Prop where
  isi : mg "isinstance" = none
  int : mg "int" = none
  bool : mg "bool" = none
  str : mg "str" = none
  tuple : mg "tuple" = none
  abs : mg "abs" = none
  len : mg "len" = none
  sorted : mg "sorted" = none
  set : mg "set" = none
section
variable {P : Program} {w : World} {K : Frag} {mg : Str → Option Value} {base : Heap} {f : Addr} {fd : FuncData}
theorem scIsInteger : FnScope ["value"] ["value"] (defScope sIsInteger) := ⟨rfl, rfl, rfl, by decide +kernel, rfl, by decide +kernel, by decide +kernel⟩
theorem scIsLetters : FnScope ["value"] ["value"] (defScope sIsLetters) := ⟨rfl, rfl, rfl, by decide +kernel, rfl, by decide +kernel, by decide +kernel⟩
theorem scIsSpelled : FnScope ["letters", "value"] ["letters", "value"] (defScope sIsSpelled) := ⟨rfl, rfl, rfl, by decide +kernel, rfl, by decide +kernel, by decide +kernel⟩
theorem ok_is_integer (F : FnP K "is_integer" sIsInteger f fd) (Z : Sizes mg) (M : Free mg) : FnOk P w K mg base CX0 1 f fd ["value"] (spIsInteger K) := by
  obtain ⟨tk, gL⟩ := Z.long
  refine F.ok scIsInteger (fun vs H Q E h => ?_) (fun cdv A outer s H vs Q E hr h => ?_)
  · obtain ⟨v, rfl, _⟩ := h
    rfl
  · obtain ⟨v, rfl, ask, q⟩ := h
    refine ⟨_, PSs.nox (pss_one (ps_ret (pe_and (pe_callB call_isi (by rfl) M.isi (by decide +kernel) (pa_cons (pv 0) (pa_cons (pe_bltn (v := .ty "int") (by rfl) M.int (by decide +kernel) rfl) pa_nil)))
      (pe_and (pe_not (pe_callB call_isi (by rfl) M.isi (by decide +kernel) (pa_cons (pv 0) (pa_cons (pe_bltn (v := .ty "bool") (by rfl) M.bool (by decide +kernel) rfl) pa_nil))))
      (pe_one (pe_cmpR op_lt (pe_callB call_abs (by rfl) M.abs (by decide +kernel) (pa_cons (pv 0) pa_nil)) (pe_glob (v := .int ((10 ^ 50) ^ 4)) (by rfl) gL ⟨tk, rfl⟩) (nomark _))))))), ?_⟩
    obtain ⟨t1, k1, k2⟩ := isi_int ask
    refine ⟨v, rfl, _, _, t1, _, _, rfl, .ty "int", k1, k2, _, rfl, ?_⟩
    cases v with
    | int i =>
      obtain ⟨t2, k3, k4⟩ := isi_bool ask
      exact ⟨_, rfl, _, _, t2, _, _, rfl, .ty "bool", k3, k4, _, rfl, _, rfl, _, rfl, _, rfl, _, _, rfl, rfl, q⟩
    | bl b =>
      obtain ⟨t2, k3, k4⟩ := isi_bool ask
      exact ⟨_, rfl, _, _, t2, _, _, rfl, .ty "bool", k3, k4, _, rfl, _, rfl, q⟩
    | non => exact q
    | str x => exact q
    | ref a => exact q
    | _ => exact ask.elim

theorem ok_is_spelled (F : FnP K "_is_spelled" sIsSpelled f fd) (M : Free mg) : FnOk P w K mg base CX0 1 f fd ["letters", "value"] (spIsSpelled K) := by
  refine F.ok scIsSpelled (fun vs H Q E h => ?_) (fun cdv A outer s H vs Q E hr h => ?_)
  · obtain ⟨x, v, rfl, _⟩ := h
    rfl
  · obtain ⟨x, v, rfl, ask, q⟩ := h
    refine ⟨_, PSs.nox (pss_one (ps_ret (pe_and (pe_callB call_isi (by rfl) M.isi (by decide +kernel) (pa_cons (pv 1) (pa_cons (pe_bltn (v := .ty "str") (by rfl) M.str (by decide +kernel) rfl) pa_nil)))
      (pe_one (pe_cmpR op_eq (pe_bm PySem.F.plainAttrs_str PySem.F.slot_str_strip PySem.F.type_str_strip mt_stripChars (pv 1) (pa_cons (pv 0) pa_nil)) pe_str (nomark _)))))), ?_⟩
    obtain ⟨t1, k1, k2⟩ := isi_str ask
    refine ⟨v, rfl, _, _, t1, _, _, rfl, .ty "str", k1, k2, _, rfl, ?_⟩
    cases v with
    | str y =>
      have hy : y.length ≤ 8000 := ask.1
      have hs : sizeLine = 16777216 := sizeLine_eq
      refine ⟨.str y, rfl, rfl, _, rfl, y, x, rfl, rfl, by omega, rfl, ?_⟩
      have e : decide ((V.str (Txt.stripChars y x)) = V.str (Str.ofString "")) = spelledV x (.str y) := by
        show decide (V.str (Txt.stripChars y x) = V.str ⟨#[]⟩) = decide (Txt.stripChars y x = ⟨#[]⟩)
        simp
      rw [e]
      exact q
    | int i => exact q
    | bl b => exact q
    | non => exact q
    | ref a => exact q
    | _ => exact ask.elim

theorem sum_ones : ∀ l : List Str, (∀ y ∈ l, y.length ≤ 1) → (l.map (·.length)).sum ≤ l.length
  | [], _ => Nat.le_refl _
  | y :: l, h => by
    have a := h y (List.mem_cons_self ..)
    have b := sum_ones l fun z m => h z (List.mem_cons_of_mem _ m)
    simp only [List.map_cons, List.sum_cons, List.length_cons]
    omega
theorem sign_len {x y : Str} (h : y ∈ XSt.signs x) : y.length ≤ 1 := by
  obtain ⟨c, _, rfl⟩ := List.mem_map.mp h
  exact Nat.le_refl _
theorem signs_len (x : Str) : (XSt.signs x).length = x.length := by
  rw [XSt.signs, List.length_map, Array.length_toList]
  rfl
/-- what comes of sorted(set(x)): the sum for join -/
theorem joined_fits {x : Str} {L : List Str} (h : x.length ≤ 8000) (p : L.Perm (once (XSt.signs x))) : ((L.mergeSort sLe).map (·.length)).sum + (L.mergeSort sLe).length * (Str.ofString "").length ≤ 16777216 := by
  have a := once_len (XSt.signs x)
  rw [signs_len] at a
  have b := sum_ones (L.mergeSort sLe) fun y m => sign_len (mem_once.mp (p.mem_iff.mp ((List.mergeSort_perm _ _).mem_iff.mp m)))
  have c : (L.mergeSort sLe).length = (once (XSt.signs x)).length := by rw [List.length_mergeSort, p.length_eq]
  have d : (Str.ofString "").length = 0 := rfl
  rw [d, Nat.mul_zero]
  omega
theorem head_at {x : Str} (h : 1 ≤ x.length) : atI x.cps.toList 0 = some (x.cps.toList.headD 0) := by
  have e : x.cps.toList.length = x.length := by rw [Array.length_toList]; rfl
  cases q : x.cps.toList with
  | nil =>
    rw [q] at e
    simp at e
    omega
  | cons c r => exact atI_nat (j := 0) rfl
theorem last_at {x : Str} (h : 1 ≤ x.length) : atI x.cps.toList (-1) = some (x.cps.toList.getLastD 0) := by
  have e : x.cps.toList.length = x.length := by rw [Array.length_toList]; rfl
  generalize x.cps.toList = l at e ⊢
  have z : ixN l.length (-1) = some (l.length - 1) := by
    unfold ixN
    rw [if_neg (by decide), if_pos (by omega)]
    congr 1
    omega
  unfold atI
  rw [z]
  show l[l.length - 1]? = _
  rw [List.getLastD_eq_getLast?, List.getLast?_eq_getElem?]
  cases q : l[l.length - 1]? with
  | none =>
    have := List.getElem?_eq_none_iff.mp q
    omega
  | some c => rfl
theorem not_below (c d : Nat) : (!decide ([c] < [d])) = decide (d ≤ c) := by
  by_cases h : d ≤ c
  · have : ¬ [c] < [d] := by
      rw [List.cons_lt_cons_iff]
      rintro (z | ⟨_, z⟩)
      · omega
      · exact List.not_lt_nil _ z
    simp [h, this]
  · have : [c] < [d] := List.cons_lt_cons_iff.mpr (Or.inl (by omega))
    simp [h, this]

theorem ok_is_letters (F : FnP K "is_letters" sIsLetters f fd) (Z : Sizes mg) (M : Free mg) : FnOk P w K mg base CX0 1 f fd ["value"] (spIsLetters K) := by
  obtain ⟨tk, gL⟩ := Z.letters
  refine F.ok scIsLetters (fun vs H Q E h => ?_) (fun cdv A outer s H vs Q E hr h => ?_)
  · obtain ⟨v, rfl, _⟩ := h
    rfl
  · obtain ⟨v, rfl, ask, q⟩ := h
    refine ⟨_, PSs.nox (pss_cons (ps_if (PW.pt (pw_or (pt_not (pt_val (pe_callB call_isi (by rfl) M.isi (by decide +kernel) (pa_cons (pv 0) (pa_cons (pe_bltn (v := .ty "str") (by rfl) M.str (by decide +kernel) rfl) pa_nil)))))
        (pw_or1 (pt_not (pt_chain op_le op_le pe_int (pe_callB call_len (by rfl) M.len PySem.boot_len (pa_cons (pv 0) pa_nil)) (pe_glob (v := .int 3) (by rfl) gL ⟨tk, rfl⟩)))))) (pss_one (ps_ret pe_bl)) pss_nil)
      (pss_one (ps_ret (pe_and (pe_cmpR op_eq (pv 0) (pe_bm PySem.F.plainAttrs_str PySem.F.slot_str_join PySem.F.type_str_join mt_join pe_str
          (pa_cons (pe_callB (cr_sortedS rfl hr.units) (by rfl) M.sorted (by decide +kernel) (pa_cons (pe_callTy (cr_setS rfl) (by rfl) M.set (by decide +kernel) (pa_cons (pv 0) pa_nil)) pa_nil)) pa_nil)) (nomark _))
        (pe_and (pe_cmpR op_le_str pe_str (pe_ix ix_str (pv 0) pe_int (fun _ _ => rfl)) (nomark _)) (pe_one (pe_cmpR op_le_str (pe_ix ix_str (pv 0) (pe_un un_neg pe_int) (fun _ _ => rfl)) pe_str (nomark _)))))))), ?_⟩
    obtain ⟨t1, k1, k2⟩ := isi_str ask
    refine ⟨v, rfl, _, _, t1, _, _, rfl, .ty "str", k1, k2, _, rfl, ?_⟩
    cases v with
    | str y =>
      have hy : y.length ≤ 8000 := ask.1
      have hs : sizeLine = 16777216 := sizeLine_eq
      refine ⟨_, rfl, _, y.length, rfl, ⟨by omega, rfl⟩, _, _, rfl, rfl, _, rfl, ?_⟩
      by_cases c1 : 1 ≤ y.length
      · have d1 : decide ((1 : Int) ≤ (y.length : Int)) = true := decide_eq_true (by omega)
        rw [d1]
        refine iteT ⟨_, _, rfl, rfl, _, rfl, ?_⟩
        by_cases c2 : y.length ≤ 3
        · have d2 : decide ((y.length : Int) ≤ 3) = true := decide_eq_true (by omega)
          rw [d2]
          refine iteF ⟨.str y, rfl, rfl, .str y, rfl, .str y, XSt.signs y, rfl, Or.inl ⟨y, rfl, rfl⟩, by rw [signs_len]; show y.length < 4096; omega, fun a L ha pL => ?_⟩
          refine ⟨a, L, rfl, upd_same, fun p hp => ⟨_, p, _, rfl, rfl, Or.inl (SqL.of upd_same), joined_fits hy pL, rfl, _, rfl, ?_⟩⟩
          have same : L.mergeSort sLe = (once (XSt.signs y)).mergeSort sLe := sLe_ord.same pL
          rw [same]
          have ext : Ext H (upd (upd H a (SO (txKit P w) a L)) p (.lst ((L.mergeSort sLe).map V.str))) := ((Ext.refl H).new ha).new hp
          rw [same] at ext
          have d3 : decide (1 ≤ y.length ∧ y.length ≤ 3) = true := decide_eq_true ⟨c1, c2⟩
          have tell : lettersV (.str y) = (decide (y = Txt.join ⟨#[]⟩ ((once (XSt.signs y)).mergeSort sLe)) && (decide (97 ≤ y.cps.toList.headD 0) && decide (y.cps.toList.getLastD 0 ≤ 122))) := by
            show (decide (1 ≤ y.length ∧ y.length ≤ 3) && _) = _
            rw [d3, Bool.true_and]
          have q' := q _ ext
          rw [tell] at q'
          have e1 : decide (V.str y = V.str (Txt.join (Str.ofString "") ((once (XSt.signs y)).mergeSort sLe))) = decide (y = Txt.join ⟨#[]⟩ ((once (XSt.signs y)).mergeSort sLe)) := by
            show decide (V.str y = V.str (Txt.join ⟨#[]⟩ ((once (XSt.signs y)).mergeSort sLe))) = _
            simp
          rw [e1]
          generalize decide (y = Txt.join ⟨#[]⟩ ((once (XSt.signs y)).mergeSort sLe)) = g at q' ⊢
          cases g with
          | false => exact iteF q'
          | true =>
            refine iteT ⟨.str y, rfl, y, 0, _, rfl, rfl, by omega, head_at c1, _, _, rfl, rfl, _, rfl, ?_⟩
            have e2 : (!decide ((⟨#[y.cps.toList.headD 0]⟩ : Str).cps.toList < (Str.ofString "a").cps.toList)) = decide (97 ≤ y.cps.toList.headD 0) := not_below _ 97
            rw [e2]
            generalize decide (97 ≤ y.cps.toList.headD 0) = g2 at q' ⊢
            cases g2 with
            | false => exact iteF q'
            | true =>
              refine iteT ⟨.str y, rfl, 1, rfl, y, -1, _, rfl, rfl, by omega, last_at c1, _, _, rfl, rfl, ?_⟩
              have e3 : (!decide ((Str.ofString "z").cps.toList < (⟨#[y.cps.toList.getLastD 0]⟩ : Str).cps.toList)) = decide (y.cps.toList.getLastD 0 ≤ 122) := not_below 122 _
              rw [e3]
              exact q'
        · have d2 : decide ((y.length : Int) ≤ 3) = false := decide_eq_false (by omega)
          rw [d2]
          refine iteT ?_
          have tell : lettersV (.str y) = false := by
            show (decide (1 ≤ y.length ∧ y.length ≤ 3) && _) = _
            rw [decide_eq_false (fun z => c2 z.2), Bool.false_and]
          have q' := q H (Ext.refl H)
          rw [tell] at q'
          exact q'
      · have d1 : decide ((1 : Int) ≤ (y.length : Int)) = false := decide_eq_false (by omega)
        rw [d1]
        refine iteF ⟨_, rfl, iteT ?_⟩
        have tell : lettersV (.str y) = false := by
          show (decide (1 ≤ y.length ∧ y.length ≤ 3) && _) = _
          rw [decide_eq_false (fun z => c1 z.1), Bool.false_and]
        have q' := q H (Ext.refl H)
        rw [tell] at q'
        exact q'
    | int i => exact q H (Ext.refl H)
    | bl b => exact q H (Ext.refl H)
    | non => exact q H (Ext.refl H)
    | ref a => exact q H (Ext.refl H)
    | _ => exact ask.elim

end
end B73

/-! words that are right, put in order -/
namespace B73
open PySem PySem.Spec PyProof.Rows L2 XSt NX XB
open PySem.W (Frag)
abbrev sCheckLetters : Stmt := top 15
abbrev sCheckNumber : Stmt := top 17
theorem tyx_ext {K : Frag} {H H' : Hp} (k : Ext H H') {v : V} {t : Value} (h : TyX K H v t) : TyX K H' v t := by
  cases h with
  | base b =>
    refine .base ?_
    cases b with
    | non => exact .non
    | bl x => exact .bl x
    | int x => exact .int x
    | str x => exact .str x
    | flt x => exact .flt x
    | lst e => exact .lst (k _ _ e)
    | frz e => exact .frz (k _ _ e)
    | tup e => exact .tup (k _ _ e)
    | dK e => exact .dK (k _ _ e)
    | dT e => exact .dT (k _ _ e)
    | ins e a b c d g => exact .ins (k _ _ e) a b c d g
  | byt b => exact .byt b
  | set e => exact .set (k _ _ e)
  | kList a b => exact .kList a b
  | kTuple a b => exact .kTuple a b
  | kDict a b => exact .kDict a b
  | fTuple e => exact .fTuple (k _ _ e)
  | fDict e => exact .fDict (k _ _ e)
theorem asked_ext {K : Frag} {H H' : Hp} (k : Ext H H') {v : V} (h : Asked K H v) : Asked K H' v := by
  cases v with
  | ref a =>
    obtain ⟨b, t, h1, h2⟩ := h
    exact ⟨b, t, tyx_ext k h1, h2⟩
  | _ => exact h
theorem sqT_ext {K : Frag} {H H' : Hp} (k : Ext H H') {a : Addr} {xs : List V} (h : SqT K H a xs) : SqT K H' a xs := by
  rcases h with (h | ⟨o, h⟩) | h
  · exact Or.inl (Or.inl (k _ _ h))
  · exact Or.inl (Or.inr ⟨o, k _ _ h⟩)
  · exact Or.inr h
theorem sqL_ext {K : Frag} {H H' : Hp} (k : Ext H H') {a : Addr} {xs : List V} (h : SqL K H a xs) : SqL K H' a xs := by
  rcases h with (h | ⟨o, h⟩) | h
  · exact Or.inl (Or.inl (k _ _ h))
  · exact Or.inl (Or.inr ⟨o, k _ _ h⟩)
  · exact Or.inr h
theorem sqT_ty {K : Frag} {H : Hp} {a : Addr} {xs : List V} (h : SqT K H a xs) : TyX K H (.ref a) (.type "tuple") := by
  rcases h with (h | ⟨o, h⟩) | ⟨o, its, n, h1, h2, _⟩
  · exact .base (.tup h)
  · exact .fTuple h
  · exact .kTuple h1 h2


def wordV (s : Str) (n : Nat) : V → Bool
  | .str y => decide (Txt.stripChars y s = ⟨#[]⟩) && (decide (1 ≤ y.length) && decide (y.length ≤ n))
  | _ => false
/-- letters, and words over them -/
def GoodL (x : Str) : Prop := x.length ≤ 8000 ∧ PyData.strOk x = true ∧ lettersV (.str x) = true
def GoodW (x y : Str) : Prop := y.length ≤ 400 ∧ PyData.strOk y = true ∧ wordV x 400 (.str y) = true
theorem GoodL.ask {K : Frag} {H : Hp} {x : Str} (h : GoodL x) : Asked K H (.str x) := ⟨h.1, h.2.1⟩
theorem GoodW.ask {K : Frag} {H : Hp} {x y : Str} (h : GoodW x y) : Asked K H (.str y) := ⟨Nat.le_trans h.1 (by decide), h.2.1⟩

def spCheckLetters : Sp := fun vs H Q _ => ∃ x, vs = [.str x] ∧ GoodL x ∧ ∀ H', Ext H H' → Q .non H'
def spIsWordOf (K : Frag) : Sp := fun vs H Q _ => ∃ x v, vs = [.str x, v] ∧ Asked K H v ∧ Q (.bl (wordV x 400 v)) H
def spOrderedWords (K : Frag) : Sp := fun vs H Q _ => ∃ x p ys, vs = [.str x, .ref p] ∧ GoodL x ∧ SqT K H p (ys.map V.str) ∧ (∀ y ∈ ys, GoodW x y) ∧ ys.length < 4096 ∧
  ∀ q H', H q = none → Ext H H' → H' q = some (.tup ((ordT ys).map V.str)) → Q (.ref q) H'
def spCheckNumber : Sp := fun vs H Q _ => ∃ i lo hi : Int, vs = [.int i, .int lo, .int hi] ∧ lo ≤ i ∧ i ≤ hi ∧ 0 ≤ lo ∧ hi ≤ 100000 ∧ Q .non H
section
variable {P : Program} {w : World} {K : Frag} {mg : Str → Option Value} {base : Heap} {f fL fS fI fT fW fO : Addr} {fd dL dS dI dT dW dO : FuncData}
theorem scCheckLetters : FnScope ["letters"] ["letters"] (defScope sCheckLetters) := ⟨rfl, rfl, rfl, by decide +kernel, rfl, by decide +kernel, by decide +kernel⟩
theorem scCheckNumber : FnScope ["value", "low", "high"] ["value", "low", "high"] (defScope sCheckNumber) := ⟨rfl, rfl, rfl, by decide +kernel, rfl, by decide +kernel, by decide +kernel⟩

theorem ok_check_letters (F : FnP K "check_letters" sCheckLetters f fd) (FL : FnOk P w K mg base CX0 1 fL dL ["value"] (spIsLetters K)) (gL : mg "is_letters" = some (.ref fL)) (kL : PySem.W.keepIn K (.ref fL) = true) (bL : Binds K dL ["value"] []) :
    FnOk P w K mg base CX0 2 f fd ["letters"] spCheckLetters := by
  refine F.ok scCheckLetters (fun vs H Q E h => ?_) (fun cdv A outer s H vs Q E hr h => ?_)
  · obtain ⟨v, rfl, _⟩ := h
    rfl
  · obtain ⟨x, rfl, g, q⟩ := h
    refine ⟨_, PSs.nox (pss_one (ps_if (pt_not (pt_val (pe_call FL hr (by rfl) gL kL bL .nil pass0 (pa_cons (pv 0) pa_nil)))) (pss_one ps_never) pss_nil)), ?_⟩
    refine ⟨_, rfl, _, rfl, g.ask, fun H' k => ⟨_, rfl, ?_⟩⟩
    rw [g.2.2]
    exact iteF (q H' k)

theorem ok_check_number (F : FnP K "check_number" sCheckNumber f fd) (FI : FnOk P w K mg base CX0 1 fI dI ["value"] (spIsInteger K)) (gI : mg "is_integer" = some (.ref fI)) (kI : PySem.W.keepIn K (.ref fI) = true) (bI : Binds K dI ["value"] []) :
    FnOk P w K mg base CX0 2 f fd ["value", "low", "high"] spCheckNumber := by
  refine F.ok scCheckNumber (fun vs H Q E h => ?_) (fun cdv A outer s H vs Q E hr h => ?_)
  · obtain ⟨i, lo, hi, rfl, _⟩ := h
    rfl
  · obtain ⟨i, lo, hi, rfl, h1, h2, h3, h4, q⟩ := h
    refine ⟨_, PSs.nox (pss_one (ps_if (PW.pt (pw_or (pt_not (pt_val (pe_call FI hr (by rfl) gI kI bI .nil pass0 (pa_cons (pv 0) pa_nil)))) (pw_or1 (pt_not (pt_chain op_le op_le (pv 1) (pv 0) (pv 2)))))) (pss_one ps_never) pss_nil)), ?_⟩
    refine ⟨_, rfl, _, rfl, trivial, _, rfl, ?_⟩
    have e : longV (.int i) = true := by
      show decide ((if i < 0 then -i else i) < (10 ^ 50) ^ 4) = true
      rw [if_neg (by omega)]
      exact decide_eq_true (Int.lt_of_le_of_lt (show i ≤ 100000 by omega) (by decide +kernel))
    rw [e]
    refine iteF ⟨_, rfl, _, rfl, _, _, rfl, rfl, _, rfl, ?_⟩
    rw [decide_eq_true h1]
    refine iteT ⟨_, rfl, _, _, rfl, rfl, _, rfl, ?_⟩
    rw [decide_eq_true h2]
    exact iteF q

end
end B73

/-! what is refused of names -/
namespace B73
open PySem PySem.Spec PyProof.Rows L2 XSt NX XB
open PySem.W (Frag)
/-- an own class of error without an own __init__ -/
structure Plain (K : Frag) (mg : Str → Option Value) (x : Str) (C : Addr) : Prop where
  at_ : mg x = some (.ref C)
  keep : PySem.W.keepIn K (.ref C) = true
  exc : PySem.W.excIn K C [.type "ValueError", .type "Exception", .type "BaseException", .type "object"] "ValueError.__new__" = true
  sub : PySem.W.subIn K (.ref C) (.type "BaseException") = some true
  ty : PySem.W.typeIn K (.ref C) = some (.type "type")
structure Refusals (K : Frag) (mg : Str → Option Value) (cL cW cO : Addr) : Prop where
  letters : Plain K mg "InvalidLetters" cL
  word : Plain K mg "InvalidWord" cW
  operation : Plain K mg "InvalidOperation" cO
def NoTuple (K : Frag) (H : Hp) (v : V) : Prop := ∃ t, TyX K H v t ∧ PySem.W.kitOne K t (.type "tuple") = some false
def spCheckLettersX (K : Frag) (cL : Addr) : Sp := fun vs H Q E => ∃ v, vs = [v] ∧ Asked K H v ∧ (lettersV v = true → ∀ H', Ext H H' → Q .non H') ∧ (lettersV v = false → ∀ H', Ext H H' → E (.ref cL) none H')
theorem letters_txt {u : V} (h : lettersV u = true) : ∃ x, u = .str x := by
  cases u with
  | str x => exact ⟨x, rfl⟩
  | _ => cases h
section
variable {P : Program} {w : World} {K : Frag} {mg : Str → Option Value} {base : Heap} {f fL fS fI fT fR fO : Addr} {fd dL dS dI dT dR dO : FuncData} {cL cW cO : Addr}
theorem ok_check_lettersX (F : FnP K "check_letters" sCheckLetters f fd) (RL : Plain K mg "InvalidLetters" cL) (FL : FnOk P w K mg base CX0 1 fL dL ["value"] (spIsLetters K)) (gL : mg "is_letters" = some (.ref fL)) (kL : PySem.W.keepIn K (.ref fL) = true) (bL : Binds K dL ["value"] []) :
    FnOk P w K mg base (L2.CX P w) 2 f fd ["letters"] (spCheckLettersX K cL) := by
  refine F.ok scCheckLetters (fun vs H Q E h => ?_) (fun cdv A outer s H vs Q E hr h => ?_)
  · obtain ⟨v, rfl, _⟩ := h
    rfl
  · obtain ⟨v, rfl, ask, q1, q2⟩ := h
    refine ⟨_, pss_one (ps_if (pt_not (pt_val (pe_call FL hr (by rfl) gL kL bL .nil pass0 (pa_cons (pv 0) pa_nil)))) (pss_one (ps_raise rfl (takes_of rfl rfl rfl rfl) (pmk_own PySem.F.excBase_ValueError RL.exc RL.at_ RL.keep (raises_own RL.sub RL.ty) (by exact rfl)))) pss_nil), ?_⟩
    refine ⟨v, rfl, v, rfl, ask, fun H' k => ⟨_, rfl, ?_⟩⟩
    cases c : lettersV v with
    | true => exact iteF (q1 c H' k)
    | false => exact iteT (q2 c H' k)

def spOrderedWordsX (K : Frag) (cL cW cO : Addr) : Sp := fun vs H Q E => ∃ u v, vs = [u, v] ∧ Asked K H u ∧
  ((lettersV u = false ∧ ∀ H', Ext H H' → E (.ref cL) none H') ∨
   (lettersV u = true ∧ NoTuple K H v ∧ ∀ H', Ext H H' → E (.ref cO) none H') ∨
   ∃ x p zs, u = .str x ∧ lettersV u = true ∧ v = .ref p ∧ SqT K H p zs ∧ zs.length < 4096 ∧ (∀ z ∈ zs, Asked K H z) ∧
    (((∃ z ∈ zs, wordV x 400 z = false) ∧ ∀ H', Ext H H' → E (.ref cW) none H') ∨
     ∃ ys : List Str, zs = ys.map V.str ∧ (∀ y ∈ ys, wordV x 400 (.str y) = true) ∧ ys.length < 4096 ∧ ∀ q H', H q = none → Ext H H' → H' q = some (.tup ((ordT ys).map V.str)) → Q (.ref q) H'))
end
end B73

/-! a word that is right -/
namespace B73
open PySem PySem.Spec PyProof.Rows L2 XSt NX XB
open PySem.W (Frag)
def spIsWord (K : Frag) : Sp := fun vs H Q _ => ∃ x v, vs = [.str x, v] ∧ GoodL x ∧ Asked K H v ∧ ∀ H', Ext H H' → Q (.bl (wordV x 400 v)) H'
def spCheckWord : Sp := fun vs H Q _ => ∃ x y, vs = [.str x, .str y] ∧ GoodL x ∧ GoodW x y ∧ ∀ H', Ext H H' → Q .non H'
section
variable {P : Program} {w : World} {K : Frag} {mg : Str → Option Value} {base : Heap} {f fL fS fI fT fW fO : Addr} {fd dL dS dI dT dW dO : FuncData}
end
end B73

/-! what is refused of words -/
namespace B73
open PySem PySem.Spec PyProof.Rows L2 XSt NX XB
open PySem.W (Frag)
def spIsWordX (K : Frag) (cL : Addr) : Sp := fun vs H Q E => ∃ u v, vs = [u, v] ∧ Asked K H u ∧ Asked K H v ∧ (lettersV u = false → ∀ H', Ext H H' → E (.ref cL) none H') ∧ (∀ x, u = .str x → lettersV u = true → ∀ H', Ext H H' → Q (.bl (wordV x 400 v)) H')
def spCheckWordX (K : Frag) (cW : Addr) : Sp := fun vs H Q E => ∃ x v, vs = [.str x, v] ∧ Asked K H (.str x) ∧ Asked K H v ∧ lettersV (.str x) = true ∧ (wordV x 400 v = true → ∀ H', Ext H H' → Q .non H') ∧ (wordV x 400 v = false → ∀ H', Ext H H' → E (.ref cW) none H')
section
variable {P : Program} {w : World} {K : Frag} {mg : Str → Option Value} {base : Heap} {f fL fS fI fT fR fO : Addr} {fd dL dS dI dT dR dO : FuncData} {cL cW cO : Addr}
end
end B73

/-! beginnings and ends of texts -/
namespace XSt
open PySem PySem.Spec PyProof.Rows L2
def cs (x : Str) : List Nat := x.cps.toList
theorem cs_inj {x y : Str} (h : cs x = cs y) : x = y := str_by h
theorem cs_len (x : Str) : (cs x).length = x.length := by
  unfold cs
  rw [Array.length_toList]
  rfl
theorem sub_list (x y : Str) (i : Nat) : Builtin.Str.subAt x y i = decide (((cs x).drop i).take y.length = cs y) := by
  unfold Builtin.Str.subAt
  apply Bool.eq_iff_iff.mpr
  rw [beq_iff_eq, decide_eq_true_eq]
  have e : (x.cps.extract i (i + y.length)).toList = ((cs x).drop i).take y.length := by
    rw [Array.toList_extract, List.extract_eq_take_drop]
    rw [Nat.add_sub_cancel_left]
    rfl
  constructor
  · intro h
    rw [← e, h]
    rfl
  · intro h
    apply Array.toList_inj.mp
    rw [e, h]
    rfl
theorem starts_iff {x y : Str} : Txt.startswith x y = true ↔ cs y <+: cs x := by
  unfold Txt.startswith
  rw [Bool.and_eq_true, decide_eq_true_eq, sub_list, decide_eq_true_eq, List.drop_zero, List.prefix_iff_eq_take, cs_len]
  constructor
  · rintro ⟨_, h⟩
    exact h.symm
  · intro h
    refine ⟨?_, h.symm⟩
    have z := congrArg List.length h
    rw [cs_len, List.length_take, cs_len] at z
    omega
theorem ends_iff {x y : Str} : Txt.endswith x y = true ↔ cs y <:+ cs x := by
  unfold Txt.endswith
  rw [Bool.and_eq_true, decide_eq_true_eq, sub_list, decide_eq_true_eq, List.suffix_iff_eq_drop, cs_len, cs_len]
  constructor
  · rintro ⟨h1, h⟩
    rw [← h, List.take_of_length_le]
    rw [List.length_drop, cs_len]
    omega
  · intro h
    have z := congrArg List.length h
    rw [cs_len, List.length_drop, cs_len] at z
    refine ⟨by omega, ?_⟩
    rw [← h, List.take_of_length_le (by rw [cs_len]; exact Nat.le_refl _)]
theorem cs_rev (x : Str) : cs (revS x) = (cs x).reverse := by
  unfold cs revS
  exact Array.toList_reverse
theorem rev_inj {x y : Str} (h : revS x = revS y) : x = y := by
  have z := congrArg cs h
  rw [cs_rev, cs_rev] at z
  exact cs_inj (List.reverse_inj.mp z)
theorem rev_len (x : Str) : (revS x).length = x.length := by
  rw [← cs_len, ← cs_len, cs_rev, List.length_reverse]
/-- some one begins the one behind it -/
def adjB (l : List Str) : Bool := (l.zip l.tail).any fun p => Txt.startswith p.2 p.1
/-- none begins another one -/
def NoPre (l : List Str) : Prop := ∀ x ∈ l, ∀ y ∈ l, x ≠ y → ¬ cs x <+: cs y
def NoSuf (l : List Str) : Prop := ∀ x ∈ l, ∀ y ∈ l, x ≠ y → ¬ cs x <:+ cs y
theorem pair_mem {l : List Str} {p : Str × Str} (h : p ∈ l.zip l.tail) : p.1 ∈ l ∧ p.2 ∈ l := by
  obtain ⟨a, b⟩ := List.of_mem_zip h
  exact ⟨a, List.mem_of_mem_tail b⟩
theorem pair_ne : ∀ {l : List Str} {p : Str × Str}, l.Nodup → p ∈ l.zip l.tail → p.1 ≠ p.2
  | [], _, _, h => by simp at h
  | [_], _, _, h => by simp at h
  | x :: y :: l, p, nd, h => by
    rw [List.tail_cons, List.zip_cons_cons] at h
    rcases List.mem_cons.mp h with e | h
    · subst e
      exact fun e => (List.nodup_cons.mp nd).1 (by rw [show x = y from e]; exact List.mem_cons_self ..)
    · exact pair_ne (List.nodup_cons.mp nd).2 h
theorem adj_none {l : List Str} (nd : l.Nodup) (h : NoPre l) : adjB l = false := by
  unfold adjB
  rw [List.any_eq_false]
  intro p m
  obtain ⟨a, b⟩ := pair_mem m
  intro z
  exact h _ a _ b (pair_ne nd m) (starts_iff.mp z)
theorem NoPre.perm {l m : List Str} (h : NoPre l) (e : ∀ x, x ∈ m ↔ x ∈ l) : NoPre m := fun x hx y hy n => h x ((e x).mp hx) y ((e y).mp hy) n
theorem NoSuf.perm {l m : List Str} (h : NoSuf l) (e : ∀ x, x ∈ m ↔ x ∈ l) : NoSuf m := fun x hx y hy n => h x ((e x).mp hx) y ((e y).mp hy) n
theorem NoSuf.rev {l : List Str} (h : NoSuf l) : NoPre (l.map revS) := by
  intro x hx y hy n z
  obtain ⟨a, ha, rfl⟩ := List.mem_map.mp hx
  obtain ⟨b, hb, rfl⟩ := List.mem_map.mp hy
  rw [cs_rev, cs_rev, List.reverse_prefix] at z
  exact h a ha b hb (fun e => n (by rw [e])) z
theorem nodup_rev {l : List Str} (h : l.Nodup) : (l.map revS).Nodup := by
  refine List.pairwise_map.mpr (h.imp fun {a b} n e => n (rev_inj e))
theorem ordT_nodup (l : List Str) : (ordT l).Nodup := ((List.mergeSort_perm _ _).nodup_iff).mpr (nodup_once l)
theorem ordT_len (l : List Str) : (ordT l).length ≤ l.length := by
  unfold ordT
  rw [List.length_mergeSort]
  exact once_len l

def rStarts : V → List V → Hp → VK → Prop := fun x xs H Q => ∃ a b, x = .str a ∧ xs = [.str b] ∧ Q (.bl (Txt.startswith a b)) H
theorem mt_starts {X : Cx} : MtR X "str.startswith" rStarts := mt_startswith
def rEnds : V → List V → Hp → VK → Prop := fun x xs H Q => ∃ a b, x = .str a ∧ xs = [.str b] ∧ Q (.bl (Txt.endswith a b)) H
theorem mt_ends {X : Cx} : MtR X "str.endswith" rEnds := mt_endswith
theorem cut_one (xs : List V) : cutV xs (some 1) none = xs.drop 1 := by
  unfold cutV
  have e1 : HT.sIx xs.length 0 (some 1) = min 1 xs.length := HT.sIx_nat xs.length 0 1
  rw [e1, HT.sIx_none]
  cases xs with
  | nil => rfl
  | cons x r =>
    have e2 : min 1 (x :: r).length = 1 := by
      rw [List.length_cons]
      omega
    rw [e2]
    simp
end XSt

/-! whether words clash -/
namespace B73
open PySem PySem.Spec PyProof.Rows L2 XSt NX XB
open PySem.W (Frag)
def spSomeBegins (K : Frag) : Sp := fun vs H Q _ => ∃ (p : Addr) (ks : List Str), vs = [.ref p] ∧ (SqL K H p (ks.map V.str) ∨ SqT K H p (ks.map V.str)) ∧ ks.length ≤ 4096 ∧ ∀ H', Ext H H' → Q (.bl (adjB (ks.mergeSort sLe))) H'
/-- where no two clash -/
def spNoClash (K : Frag) : Sp := fun vs H Q _ => ∃ (p : Addr) (ks : List Str), vs = [.ref p] ∧ SqT K H p (ks.map V.str) ∧ ks.length ≤ 4096 ∧ (∀ k ∈ ks, k.length ≤ 4096) ∧ ks.Nodup ∧ NoPre ks ∧ NoSuf ks ∧ ∀ H', Ext H H' → Q .non H'
theorem free_back {H H' : Hp} (k : Ext H H') {p : Addr} (h : H' p = none) : H p = none := by
  cases e : H p with
  | none => rfl
  | some o =>
    rw [k _ _ e] at h
    cases h
section
variable {P : Program} {w : World} {K : Frag} {mg : Str → Option Value} {base : Heap} {f fS : Addr} {fd dS : FuncData}
end
end B73

/-! texts as data -/
namespace XSt
open PySem PySem.Spec PyProof.Rows L2
open PySem.W (Frag)
/-! lists of texts as data -/
theorem dpa_txt {K : Frag} {H : Hp} : ∀ l : List Str, DpAll K H (l.map V.str) (l.map PyData.str)
  | [] => .nil
  | x :: l => .cons (.str x) (dpa_txt l)
theorem txt_can : ∀ l : List Str, (∀ x ∈ l, PyData.strOk x = true) → PyData.canLayAll0 (l.map PyData.str) = true
  | [], _ => by simp [PyData.canLayAll0]
  | x :: l, h => by
    rw [List.map_cons, PyData.canLayAll0, txt_can l fun y m => h y (List.mem_cons_of_mem _ m)]
    simp [PyData.canLay0, h x (List.mem_cons_self ..)]
theorem txt_depth : ∀ l : List Str, PyData.depthAll (l.map PyData.str) = 0
  | [] => by simp [PyData.depthAll]
  | x :: l => by
    rw [List.map_cons, PyData.depthAll, txt_depth l]
    simp [PyData.depth]
theorem txt_shaped {l : List Str} (h : ∀ x ∈ l, PyData.strOk x = true) : SeqAt.shaped (.list (l.map PyData.str)) = true := by
  unfold SeqAt.shaped
  rw [Bool.and_eq_true, decide_eq_true_eq]
  refine ⟨?_, ?_⟩
  · show PyData.canLayAll0 _ = true
    exact txt_can l h
  · rw [PyData.depth, txt_depth]
    omega
theorem txt_shapedT {l : List Str} (h : ∀ x ∈ l, PyData.strOk x = true) : SeqAt.shaped (.tuple (l.map PyData.str)) = true := by
  unfold SeqAt.shaped
  rw [Bool.and_eq_true, decide_eq_true_eq]
  refine ⟨?_, ?_⟩
  · show PyData.canLayAll0 _ = true
    exact txt_can l h
  · rw [PyData.depth, txt_depth]
    omega
theorem txt_nil (l : List Str) : PyData.eqv (.list (l.map PyData.str)) (.list []) = l.isEmpty := by
  cases l <;> simp [PyData.eqv, PyData.eqvAll]


theorem txt_eqvAll : ∀ xs ys : List Str, PyData.eqvAll (xs.map PyData.str) (ys.map PyData.str) = decide (xs = ys)
  | [], [] => by simp [PyData.eqvAll]
  | [], _ :: _ => by simp [PyData.eqvAll]
  | _ :: _, [] => by simp [PyData.eqvAll]
  | x :: xs, y :: ys => by
    have ih := txt_eqvAll xs ys
    have e : (x == y) = decide (x = y) := by
      apply Bool.eq_iff_iff.mpr
      rw [beq_iff_eq, decide_eq_true_eq]
    simp only [List.map_cons, PyData.eqvAll, PyData.eqv, ih, List.cons.injEq, Bool.decide_and, e]
theorem txt_eqvT (xs ys : List Str) : PyData.eqv (.tuple (xs.map PyData.str)) (.tuple (ys.map PyData.str)) = decide (xs = ys) := by
  simp only [PyData.eqv]
  exact txt_eqvAll xs ys
theorem txt_eqvL (xs ys : List Str) : PyData.eqv (.list (xs.map PyData.str)) (.list (ys.map PyData.str)) = decide (xs = ys) := by
  simp only [PyData.eqv]
  exact txt_eqvAll xs ys
/-- a small number as a text -/
def numS (n : Nat) : Str := toString (n : Int)
theorem numS_len {n : Nat} (h : n ≤ 4096) : (numS n).length ≤ 6 := by
  unfold numS
  rw [PySem.ofString_length]
  exact int_text_length_le10 (k := 5) (by decide) (by show n < 10 ^ 5; omega)
theorem log_small {n : Nat} (h : n ≤ 4096) : ((n : Int)).natAbs.log2 < 1920 := by
  show n.log2 < 1920
  by_cases z : n = 0
  · rw [z]
    decide
  · exact (Nat.log2_lt z).mpr (Nat.lt_of_le_of_lt h (by decide +kernel))
theorem app_len (a b : Str) : (a ++ b).length = a.length + b.length := PySem.Str.length_append a b
end XSt

/-! books -/
namespace B73
open PySem PySem.Spec PyProof.Rows L2 XSt NX XB
open PySem.W (Frag)
abbrev FnM (K : Frag) (x q : Str) (st : Stmt) (f : Addr) (fd : FuncData) : Prop := FunD K x q (defArgs st) (defBody st) (defScope st) [] [] f fd
/-- what the text has of the class -/
structure BookK (K : Frag) (C : Addr) : Prop where
  cls : Cls K C
  nl : NoAttr K C "_letters"
  nw : NoAttr K C "_words"
  nk : NoAttr K C "_known"
  c1 : PySem.W.findIn K (.ref C) "__class__" = some (some (.builtin "object.__class__"))
  c2 : PySem.W.specialIn K (.builtin "object.__class__") "__get__" = some (some (.builtin "getset_descriptor.__get__"))
  c3 : PySem.W.takesIn K (.builtin "object.__class__") = some true
  c4 : PySem.W.mroIn K C (.type "object") = some true
  own : PySem.W.kitOne K (.ref C) (.ref C) = some true
  noStr : PySem.W.kitOne K (.ref C) (.type "str") = some false
  others : ∀ T ∈ (["NoneType", "int", "bool", "str", "tuple", "list", "dict"] : List String), PySem.W.kitOne K (.type T) (.ref C) = some false ∧ PySem.W.notFirst K C (.type T) = true
def bookF (x : Str) (p d : Addr) : List (Str × V) := [("_letters", .str x), ("_words", .ref p), ("_known", .ref d)]
def knownK (ws : List Str) : List (L2.Key × V) := ws.map fun k => (Sum.inr k, .bl true)
/-- at b: the book of the letters x and the set ws -/
def BookAt (H : Hp) (b C : Addr) (x : Str) (ws : List Str) : Prop := ∃ dx p d, H b = some (.ins C dx (bookF x p d)) ∧ H p = some (.tup (ws.map V.str)) ∧ H d = some (.dK (knownK ws))
theorem BookAt.ext {H H' : Hp} (k : Ext H H') {b C : Addr} {x : Str} {ws : List Str} (h : BookAt H b C x ws) : BookAt H' b C x ws := by
  obtain ⟨dx, p, d, h1, h2, h3⟩ := h
  exact ⟨dx, p, d, k _ _ h1, k _ _ h2, k _ _ h3⟩
theorem BookAt.ty {K : Frag} {H : Hp} {b C : Addr} {x : Str} {ws : List Str} (B : BookK K C) (h : BookAt H b C x ws) : TyX K H (.ref b) (.ref C) := by
  obtain ⟨dx, p, d, h1, h2, h3⟩ := h
  exact .base (.ins h1 B.cls B.c1 B.c2 B.c3 B.c4)
theorem fresh_take : ∀ {ws : List Str} {i : Nat} {k : Str}, ws.Nodup → ws[i]? = some k → ¬ k ∈ ws.take i
  | [], _, _, _, g => by simp at g
  | w :: ws, 0, k, nd, g => by simp
  | w :: ws, i + 1, k, nd, g => by
    have g' : ws[i]? = some k := by simpa using g
    rw [List.take_succ_cons]
    intro m
    rcases List.mem_cons.mp m with e | m
    · exact (List.nodup_cons.mp nd).1 (e ▸ List.mem_of_getElem? g')
    · exact fresh_take (List.nodup_cons.mp nd).2 g' m
theorem known_val (z : Str) : ∀ ws : List Str, (valV (knownK ws) (Sum.inr z)).isSome = decide (z ∈ ws)
  | [] => rfl
  | k :: ws => by
    have ih := known_val z ws
    show (valV ((Sum.inr k, V.bl true) :: knownK ws) (Sum.inr z)).isSome = _
    by_cases e : k = z
    · rw [valV_pos (p := (Sum.inr k, V.bl true)) (by rw [e]), e]
      simp
    · rw [valV_neg (p := (Sum.inr k, V.bl true)) (fun y => e (Sum.inr.inj y)), ih]
      have n : ¬ z = k := fun y => e y.symm
      simp [n]
def spInit (K : Frag) (C : Addr) : Sp := fun vs H Q _ => ∃ (b dx p : Addr) (x : Str) (ys : List Str), vs = [.ref b, .str x, .ref p] ∧ H b = some (.ins C dx []) ∧ GoodL x ∧ SqT K H p (ys.map V.str) ∧ p ≠ b ∧ (∀ y ∈ ys, GoodW x y) ∧ ys.length < 4096 ∧ (ordT ys).length ≤ 400 ∧ NoPre ys ∧ NoSuf ys ∧
  ∀ H', (∀ c o, c ≠ b → H c = some o → H' c = some o) → BookAt H' b C x (ordT ys) → Q .non H'
def spLetters (C : Addr) : Sp := fun vs H Q _ => ∃ b x ws, vs = [.ref b] ∧ BookAt H b C x ws ∧ Q (.str x) H
def spWords (C : Addr) : Sp := fun vs H Q _ => ∃ b x ws, vs = [.ref b] ∧ BookAt H b C x ws ∧ ∀ p, H p = some (.tup (ws.map V.str)) → Q (.ref p) H
def lastLen (ws : List Str) : Nat := ((ws.getLast?).map (·.length)).getD 0
def spLongest (C : Addr) : Sp := fun vs H Q _ => ∃ b x ws, vs = [.ref b] ∧ BookAt H b C x ws ∧ (∀ k ∈ ws, k.length ≤ 400) ∧ Q (.int (lastLen ws : Nat)) H
def inBook (ws : List Str) : V → Bool
  | .str z => decide (z ∈ ws)
  | _ => false
/-- what may be asked about: a value of another kind, or a book -/
def AskB (K : Frag) (H : Hp) (C : Addr) (v : V) : Prop := Asked K H v ∨ ∃ b x ws, v = .ref b ∧ BookAt H b C x ws
def spHas (K : Frag) (C : Addr) : Sp := fun vs H Q _ => ∃ b x ws v, vs = [.ref b, v] ∧ BookAt H b C x ws ∧ AskB K H C v ∧ Q (.bl (inBook ws v)) H
def spAt (C : Addr) : Sp := fun vs H Q _ => ∃ b x ws k, ∃ i : Nat, vs = [.ref b, .int (i : Int)] ∧ BookAt H b C x ws ∧ ws.length ≤ 4096 ∧ ws[i]? = some k ∧ Q (.str k) H
def spLen (C : Addr) : Sp := fun vs H Q _ => ∃ b x ws, vs = [.ref b] ∧ BookAt H b C x ws ∧ ws.length ≤ 4096 ∧ Q (.int (ws.length : Nat)) H
/-- a value that is no book -/
inductive NoBook (K : Frag) (H : Hp) : V → Prop where
  | non : NoBook K H .non
  | bl (b : Bool) : NoBook K H (.bl b)
  | int (i : Int) : NoBook K H (.int i)
  | str (z : Str) : NoBook K H (.str z)
  | seq {a : Addr} {T : String} (h : TyX K H (.ref a) (.type T)) (m : T ∈ (["tuple", "list", "dict"] : List String)) : NoBook K H (.ref a)
def spEq (K : Frag) (C : Addr) : Sp := fun vs H Q _ => ∃ b x ws, ∃ v, vs = [.ref b, v] ∧ BookAt H b C x ws ∧ ws.length ≤ 4096 ∧ (∀ k ∈ ws, PyData.strOk k = true) ∧
  ((NoBook K H v ∧ Q (.bl false) H) ∨ ∃ b' y zs, v = .ref b' ∧ BookAt H b' C y zs ∧ zs.length ≤ 4096 ∧ (∀ k ∈ zs, PyData.strOk k = true) ∧ Q (.bl (decide (x = y) && decide (ws = zs))) H)
def told (n : Nat) (x : Str) : Str := Str.empty ++ Str.ofString "book of " ++ numS n ++ Str.ofString " words over " ++ x
def spStr (C : Addr) : Sp := fun vs H Q _ => ∃ b x ws, vs = [.ref b] ∧ BookAt H b C x ws ∧ ws.length ≤ 4096 ∧ x.length ≤ 8000 ∧ Q (.str (told ws.length x)) H
theorem noBook_ty {K : Frag} {H : Hp} {v : V} (h : NoBook K H v) : ∃ T ∈ (["NoneType", "int", "bool", "str", "tuple", "list", "dict"] : List String), TyX K H v (.type T) := by
  cases h with
  | non => exact ⟨_, by simp, .base .non⟩
  | bl b => exact ⟨"bool", by simp, .base (.bl b)⟩
  | int i => exact ⟨"int", by simp, .base (.int i)⟩
  | str z => exact ⟨"str", by simp, .base (.str z)⟩
  | seq h m => exact ⟨_, by simp only [List.mem_cons, List.not_mem_nil, or_false] at m ⊢; rcases m with rfl | rfl | rfl <;> simp, h⟩
theorem last_ix {ws : List Str} {k : Str} (h : ws.getLast? = some k) : atI (ws.map V.str) (-1) = some (.str k) := by
  have ne : ws ≠ [] := fun e => by rw [e] at h; cases h
  have pos : 0 < ws.length := List.length_pos_iff.mpr ne
  have z : ixN (ws.map V.str).length (-1) = some (ws.length - 1) := by
    rw [List.length_map]
    unfold ixN
    rw [if_neg (by decide), if_pos (by omega)]
    congr 1
    omega
  unfold atI
  rw [z]
  show (ws.map V.str)[ws.length - 1]? = _
  rw [List.getElem?_map, ← List.getLast?_eq_getElem?, h]
  rfl
section
variable {P : Program} {w : World} {K : Frag} {mg : Str → Option Value} {base : Heap} {f fO fC fN C : Addr} {fd dO dC dN : FuncData}
end
end B73

/-! texts over letters; all texts of one length; a walk with any body -/
namespace XSt
open PySem PySem.Spec PyProof.Rows L2 NX
theorem tw_short {p : Nat → Bool} {c : Nat} (h : p c = false) : ∀ xs : List Nat, ((xs ++ [c]).takeWhile p).length ≤ xs.length
  | [] => by simp [h]
  | x :: xs => by
    have := tw_short h xs
    by_cases g : p x = true
    · simp [g]
      exact this
    · simp [g]
theorem dw_head {p : Nat → Bool} : ∀ {l : List Nat} {c : Nat} {r : List Nat}, l.dropWhile p = c :: r → p c = false
  | [], _, _, h => by simp at h
  | x :: l, c, r, h => by
    by_cases g : p x = true
    · rw [List.dropWhile_cons_of_pos g] at h
      exact dw_head h
    · rw [List.dropWhile_cons_of_neg g] at h
      injection h with h _
      rw [← h]
      exact Bool.not_eq_true _ |>.mp g
theorem dw_nil {p : Nat → Bool} : ∀ {l : List Nat}, l.dropWhile p = [] → l.all p = true
  | [], _ => rfl
  | x :: l, h => by
    by_cases g : p x = true
    · rw [List.dropWhile_cons_of_pos g] at h
      rw [List.all_cons, g, dw_nil h]
      rfl
    · rw [List.dropWhile_cons_of_neg g] at h
      cases h
theorem drop_tw (p : Nat → Bool) : ∀ l : List Nat, l.drop (l.takeWhile p).length = l.dropWhile p
  | [] => rfl
  | x :: l => by
    by_cases g : p x = true
    · rw [List.takeWhile_cons_of_pos g, List.dropWhile_cons_of_pos g]
      exact drop_tw p l
    · rw [List.takeWhile_cons_of_neg g, List.dropWhile_cons_of_neg g]
      rfl
theorem all_tw {p : Nat → Bool} : ∀ {l : List Nat}, l.all p = true → l.takeWhile p = l ∧ l.dropWhile p = []
  | [], _ => ⟨rfl, rfl⟩
  | x :: l, h => by
    rw [List.all_cons, Bool.and_eq_true] at h
    obtain ⟨a, b⟩ := all_tw h.2
    rw [List.takeWhile_cons_of_pos h.1, List.dropWhile_cons_of_pos h.1]
    exact ⟨by rw [a], b⟩
theorem strip_all (goes : Nat → Bool) (x : Str) : decide (Txt.stripBy goes true true x = ⟨#[]⟩) = x.cps.toList.all goes := by
  have split := List.takeWhile_append_dropWhile (p := goes) (l := x.cps.toList)
  have len : x.cps.toList.length = x.length := by rw [Array.length_toList]; rfl
  have total : (x.cps.toList.takeWhile goes).length + (x.cps.toList.dropWhile goes).length = x.length := by
    rw [← len, ← List.length_append, split]
  have told : (Txt.stripBy goes true true x = x ∧ (x.cps.toList.takeWhile goes).length = 0) ∨
      Txt.stripBy goes true true x = Builtin.Str.strSub x (x.cps.toList.takeWhile goes).length (x.length - ((x.cps.toList.dropWhile goes).reverse.takeWhile goes).length) := by
    unfold Txt.stripBy
    split
    · rename_i h
      have h2 : ((x.cps.toList.takeWhile goes).length == 0 && _) = true := h
      rw [Bool.and_eq_true, beq_iff_eq] at h2
      exact Or.inl ⟨rfl, h2.1⟩
    · refine Or.inr ?_
      rw [← drop_tw]
      rfl
  cases g : x.cps.toList.all goes with
  | true =>
    refine decide_eq_true ?_
    obtain ⟨a, b⟩ := all_tw g
    rw [b] at total told
    rcases told with ⟨e, h⟩ | e
    · rw [e]
      have z : x.length = 0 := by
        simp only [List.length_nil] at total
        omega
      obtain ⟨⟨y⟩⟩ := x
      have z2 : y.length = 0 := z
      rw [List.length_eq_zero_iff.mp z2]
    · rw [e]
      show (⟨x.cps.extract _ _⟩ : Str) = ⟨#[]⟩
      congr 1
      apply Array.extract_eq_empty_of_le
      have w : x.cps.size = x.length := rfl
      simp only [List.length_nil] at total
      omega
  | false =>
    refine decide_eq_false ?_
    have ne : x.cps.toList.dropWhile goes ≠ [] := fun z => by
      rw [dw_nil z] at g
      cases g
    cases q : x.cps.toList.dropWhile goes with
    | nil => exact absurd q ne
    | cons c r =>
      have hc := dw_head q
      have short : ((c :: r).reverse.takeWhile goes).length ≤ r.length := by
        have z := tw_short hc r.reverse
        rw [List.length_reverse] at z
        rw [List.reverse_cons]
        exact z
      rw [q] at total told
      simp only [List.length_cons] at total
      intro bad
      have z : (Txt.stripBy goes true true x).length = 0 := by
        rw [bad]
        rfl
      rcases told with ⟨e, h⟩ | e
      · rw [e] at z
        omega
      · rw [e] at z
        have y : (Builtin.Str.strSub x (x.cps.toList.takeWhile goes).length (x.length - ((c :: r).reverse.takeWhile goes).length)).length = min (x.length - ((c :: r).reverse.takeWhile goes).length) x.cps.size - (x.cps.toList.takeWhile goes).length := Array.size_extract
        have w : x.cps.size = x.length := rfl
        rw [y] at z
        omega

theorem strip_in (x s : Str) : decide (Txt.stripChars x s = ⟨#[]⟩) = x.cps.toList.all fun c => decide (c ∈ s.cps.toList) := by
  unfold Txt.stripChars
  rw [strip_all]
  congr 1
  funext c
  simp [Array.contains_eq_mem]

theorem walk_it {J : It} {n : Nat} {G : Hp → Prop} {Y : Nat → Hp → V → Hp → Prop} (w : Walk J n G Y) {B : V → Hp → (Hp → Prop) → Prop} {H0 : Hp} {Qd : Hp → Prop} (Pv : Nat → Hp → Prop) (h0 : Pv 0 H0) (hG : ∀ i H, i ≤ n → Pv i H → G H)
    (hs : ∀ i x H H', i < n → Pv i H → Y i H x H' → B x H' (Pv (i + 1))) (hd : ∀ H, Pv n H → Qd H) :
    ∃ W : Nat → Nat → Hp → Prop, (∃ m, W 0 m H0) ∧ ∀ i m H, W i m H → (J.stop i H ∧ Qd H) ∨ (J.go i H ∧ ∃ Nx : Hp → Prop, (∀ H', Nx H' → ∃ m', m' < m ∧ W (i + 1) m' H') ∧ ∀ x H', J.yld i H x H' → B x H' Nx) := by
  refine ⟨fun i m H => m + i = n ∧ Pv i H, ⟨n, by omega, h0⟩, fun i m H z => ?_⟩
  obtain ⟨e, p⟩ := z
  have g := hG i H (by omega) p
  rcases Nat.eq_zero_or_pos m with z | z
  · have e2 : i = n := by omega
    subst e2
    exact .inl ⟨w.stops H g, hd H p⟩
  · exact .inr ⟨w.goes i H (by omega) g, Pv (i + 1), fun H' p' => ⟨m - 1, by omega, by omega, p'⟩, fun x H' y => hs i x H H' (by omega) p (w.yields i H x H' (by omega) g y)⟩
/-- all texts of n letters, as they come -/
def unif (x : Str) : Nat → List Str
  | 0 => [⟨#[]⟩]
  | n + 1 => (unif x n).flatMap fun k => (signs x).map fun c => k ++ c
theorem signs_count (x : Str) : (signs x).length = x.length := by
  unfold signs
  rw [List.length_map, Array.length_toList]
  rfl
theorem unif_len (x : Str) : ∀ n, (unif x n).length = x.length ^ n
  | 0 => rfl
  | n + 1 => by
    unfold unif
    rw [List.length_flatMap]
    have e : (fun k => ((signs x).map fun c => k ++ c).length) = fun _ : Str => x.length := by
      funext k
      rw [List.length_map, signs_count]
    rw [e, Nat.pow_succ, ← unif_len x n]
    induction unif x n with
    | nil => simp
    | cons a l ih =>
      rw [List.map_cons, List.sum_cons, ih, List.length_cons, Nat.add_mul, Nat.one_mul, Nat.add_comm]
theorem flat_len (x : Str) (l : List Str) : (l.flatMap fun k => (signs x).map fun c => k ++ c).length = l.length * x.length := by
  induction l with
  | nil => simp
  | cons a l ih => rw [List.flatMap_cons, List.length_append, ih, List.length_map, signs_count, List.length_cons, Nat.add_mul, Nat.one_mul, Nat.add_comm]
theorem cs_app (a b : Str) : cs (a ++ b) = cs a ++ cs b := by
  show (a.cps ++ b.cps).toList = _
  exact Array.toList_append
theorem unif_mem {x : Str} : ∀ {n : Nat} {k : Str}, k ∈ unif x n → k.length = n ∧ ∀ c ∈ cs k, c ∈ cs x
  | 0, k, h => by
    obtain rfl := List.mem_singleton.mp h
    exact ⟨rfl, fun c m => by cases m⟩
  | n + 1, k, h => by
    obtain ⟨a, ma, h⟩ := List.mem_flatMap.mp h
    obtain ⟨c, mc, rfl⟩ := List.mem_map.mp h
    obtain ⟨d, md, rfl⟩ := List.mem_map.mp mc
    obtain ⟨e1, e2⟩ := unif_mem ma
    refine ⟨by rw [app_len, e1]; rfl, fun z m => ?_⟩
    rw [cs_app] at m
    rcases List.mem_append.mp m with m | m
    · exact e2 z m
    · obtain rfl : z = d := List.mem_singleton.mp m
      exact md
theorem lt_app_left {a b : List Nat} (c d : List Nat) (h : a < b) (e : a.length = b.length) : a ++ c < b ++ d := by
  induction a generalizing b with
  | nil =>
    cases b with
    | nil => exact absurd h (List.lt_irrefl _)
    | cons y b => cases e
  | cons x a ih =>
    cases b with
    | nil => cases e
    | cons y b =>
      rw [List.cons_append, List.cons_append, List.cons_lt_cons_iff]
      rcases List.cons_lt_cons_iff.mp h with z | ⟨rfl, z⟩
      · exact .inl z
      · exact .inr ⟨rfl, ih z (by simpa using e)⟩
theorem lt_app_right (a : List Nat) {c d : List Nat} (h : c < d) : a ++ c < a ++ d := by
  induction a with
  | nil => exact h
  | cons x a ih =>
    rw [List.cons_append, List.cons_append, List.cons_lt_cons_iff]
    exact .inr ⟨rfl, ih⟩
def Asc (x : Str) : Prop := (cs x).Pairwise (· < ·)
theorem signs_asc {x : Str} (h : Asc x) : (signs x).Pairwise fun a b => cs a < cs b := by
  unfold signs
  refine List.pairwise_map.mpr (h.imp fun {a b} z => ?_)
  show [a] < [b]
  exact List.cons_lt_cons_iff.mpr (.inl z)
theorem unif_asc {x : Str} (h : Asc x) : ∀ n, (unif x n).Pairwise fun a b => cs a < cs b
  | 0 => List.pairwise_singleton _ _
  | n + 1 => by
    unfold unif
    rw [List.pairwise_flatMap]
    refine ⟨fun a _ => ?_, (unif_asc h n).imp_of_mem fun {a b} ma mb z k mk l ml => ?_⟩
    · refine List.pairwise_map.mpr ((signs_asc h).imp fun {c d} z => ?_)
      rw [cs_app, cs_app]
      exact lt_app_right _ z
    · obtain ⟨c, _, rfl⟩ := List.mem_map.mp mk
      obtain ⟨d, _, rfl⟩ := List.mem_map.mp ml
      rw [cs_app, cs_app]
      exact lt_app_left _ _ z (by rw [cs_len, cs_len, (unif_mem ma).1, (unif_mem mb).1])
theorem asc_nodup {l : List Str} (h : l.Pairwise fun a b => cs a < cs b) : l.Nodup := h.imp fun {a b} z e => by
  rw [e] at z
  exact List.lt_irrefl _ z
/-- ascending, of one length: in order -/
theorem ordT_asc {l : List Str} {n : Nat} (h : l.Pairwise fun a b => cs a < cs b) (e : ∀ k ∈ l, k.length = n) : ordT l = l := by
  symm
  refine tLe_ord.one (perm_once (asc_nodup h) fun _ => Iff.rfl) (h.imp_of_mem fun {a b} ma mb z => ?_)
  unfold tLe
  rw [pLe_iff]
  refine .inr ⟨by show ((a.length : Int)) = b.length; rw [e a ma, e b mb], ?_⟩
  unfold sLe
  exact decide_eq_true (List.le_of_lt z)
theorem ordT_unif {x : Str} (h : Asc x) (n : Nat) : ordT (unif x n) = unif x n := ordT_asc (unif_asc h n) fun k m => (unif_mem m).1
theorem pre_same {l : List Str} {n : Nat} (e : ∀ k ∈ l, k.length = n) : NoPre l := fun a ma b mb ne z => ne (cs_inj (List.IsPrefix.eq_of_length z (by rw [cs_len, cs_len, e a ma, e b mb])))
theorem suf_same {l : List Str} {n : Nat} (e : ∀ k ∈ l, k.length = n) : NoSuf l := fun a ma b mb ne z => ne (cs_inj (List.IsSuffix.eq_of_length z (by rw [cs_len, cs_len, e a ma, e b mb])))
theorem strOk_of {x y : Str} (h : PyData.strOk x = true) (e : ∀ c ∈ cs y, c ∈ cs x) : PyData.strOk y = true := by
  unfold PyData.strOk at h ⊢
  rw [Array.all_eq_true'] at h ⊢
  intro c m
  exact h c (Array.mem_toList_iff.mp (e c (Array.mem_toList_iff.mpr m)))
theorem joinL_nil : ∀ ps : List (List Nat), TL.joinL [] ps = ps.flatten
  | [] => rfl
  | [p] => by simp [TL.joinL]
  | p :: q :: r => by
    show p ++ ([] ++ TL.joinL [] (q :: r)) = _
    rw [joinL_nil (q :: r), List.nil_append]
    rfl
theorem joined_list (l : List Str) : (Txt.join ⟨#[]⟩ l).cps.toList = (l.map fun x => x.cps.toList).flatten := by
  rw [TL.join_eq]
  exact (TL.tl_join ⟨#[]⟩ l).trans (joinL_nil _)
theorem join_signs (x : Str) : Txt.join ⟨#[]⟩ (signs x) = x := by
  apply cs_inj
  have y := joined_list (signs x)
  show (Txt.join ⟨#[]⟩ (signs x)).cps.toList = _
  rw [y]
  unfold signs cs
  rw [List.map_map]
  induction x.cps.toList with
  | nil => rfl
  | cons c l ih =>
    rw [List.map_cons, List.flatten_cons, ih]
    rfl
theorem letters_asc {x : Str} (h : Asc x) (h1 : 1 ≤ x.length) (h3 : x.length ≤ 3) (lo : ∀ c ∈ cs x, 97 ≤ c ∧ c ≤ 122) : lettersV (.str x) = true := by
  have sa := signs_asc h
  have e : (once (signs x)).mergeSort sLe = signs x := by
    symm
    exact sLe_ord.one (perm_once (asc_nodup sa) fun _ => Iff.rfl) (sa.imp fun {a b} z => decide_eq_true (List.le_of_lt z))
  have ne : cs x ≠ [] := fun z => by
    have y := cs_len x
    rw [z] at y
    simp only [List.length_nil] at y
    omega
  show (decide (1 ≤ x.length ∧ x.length ≤ 3) && (decide (x = Txt.join ⟨#[]⟩ ((once (signs x)).mergeSort sLe)) && (decide (97 ≤ (cs x).headD 0) && decide ((cs x).getLastD 0 ≤ 122)))) = true
  rw [e, join_signs, decide_eq_true ⟨h1, h3⟩, decide_eq_true rfl, Bool.true_and, Bool.true_and, Bool.and_eq_true, decide_eq_true_eq, decide_eq_true_eq]
  cases q : cs x with
  | nil => exact absurd q ne
  | cons c l =>
    rw [q] at lo
    refine ⟨(lo c (List.mem_cons_self ..)).1, ?_⟩
    rw [List.getLastD_eq_getLast?, List.getLast?_eq_some_getLast (List.cons_ne_nil c l)]
    exact (lo _ (List.getLast_mem _)).2
end XSt
namespace XSt
open PySem PySem.Spec PyProof.Rows L2 NX
theorem cs_mk (l : List Nat) : cs ⟨l.toArray⟩ = l := by
  unfold cs
  simp
theorem cut_pre {z : Str} {n : Nat} (h : n ≤ z.length) : cs (cutS z none (some (n : Int))) = (cs z).take n := by
  unfold cutS
  rw [cs_mk, HT.sIx_none, HT.sIx_nat, Nat.min_eq_left h, List.drop_zero, Nat.sub_zero]
  rfl
theorem cut_suf {z : Str} {n : Nat} (h : n ≤ z.length) : cs (cutS z (some (n : Int)) none) = (cs z).drop n := by
  unfold cutS
  rw [cs_mk, HT.sIx_none, HT.sIx_nat, Nat.min_eq_left h]
  refine List.take_of_length_le ?_
  have y := cs_len z
  unfold cs at y
  rw [List.length_drop, y]
  exact Nat.le_refl _
theorem cut_starts {l s : Str} (h : s.length ≤ l.length) : decide (V.str (cutS l none (some (s.length : Int))) = V.str s) = Txt.startswith l s := by
  apply Bool.eq_iff_iff.mpr
  rw [decide_eq_true_eq, starts_iff, List.prefix_iff_eq_take, cs_len]
  constructor
  · intro e
    have z := congrArg cs (V.str.inj e)
    rw [cut_pre h] at z
    exact z.symm
  · intro e
    congr 1
    apply cs_inj
    rw [cut_pre h]
    exact e.symm
theorem cut_ends {l s : Str} (h : s.length ≤ l.length) : decide (V.str (cutS l (some ((l.length : Int) - (s.length : Int))) none) = V.str s) = Txt.endswith l s := by
  have e0 : ((l.length : Int) - (s.length : Int)) = ((l.length - s.length : Nat) : Int) := by omega
  rw [e0]
  apply Bool.eq_iff_iff.mpr
  rw [decide_eq_true_eq, ends_iff, List.suffix_iff_eq_drop, cs_len, cs_len]
  constructor
  · intro e
    have z := congrArg cs (V.str.inj e)
    rw [cut_suf (by omega)] at z
    exact z.symm
  · intro e
    congr 1
    apply cs_inj
    rw [cut_suf (by omega)]
    exact e.symm
/-- the shorter one begins or ends the longer one -/
def meetB (a b : Str) : Bool := if a.length ≤ b.length then (Txt.startswith b a || Txt.endswith b a) else (Txt.startswith a b || Txt.endswith a b)
theorem meet_free {a b : Str} (h : meetB a b = false) : (¬ cs a <+: cs b ∧ ¬ cs b <+: cs a) ∧ ¬ cs a <:+ cs b ∧ ¬ cs b <:+ cs a := by
  have la := cs_len a
  have lb := cs_len b
  unfold meetB at h
  split at h
  · rename_i c
    rw [Bool.or_eq_false_iff] at h
    have n1 : ¬ cs a <+: cs b := fun z => by rw [starts_iff.mpr z] at h; cases h.1
    have n2 : ¬ cs a <:+ cs b := fun z => by rw [ends_iff.mpr z] at h; cases h.2
    refine ⟨⟨n1, fun z => ?_⟩, n2, fun z => ?_⟩
    · have e := List.IsPrefix.eq_of_length z (by have := z.length_le; omega)
      exact n1 (by rw [e]; exact List.prefix_rfl)
    · have e := List.IsSuffix.eq_of_length z (by have := z.length_le; omega)
      exact n2 (by rw [e]; exact List.suffix_rfl)
  · rename_i c
    rw [Bool.or_eq_false_iff] at h
    have n1 : ¬ cs b <+: cs a := fun z => by rw [starts_iff.mpr z] at h; cases h.1
    have n2 : ¬ cs b <:+ cs a := fun z => by rw [ends_iff.mpr z] at h; cases h.2
    refine ⟨⟨fun z => ?_, n1⟩, fun z => ?_, n2⟩
    · have := z.length_le
      omega
    · have := z.length_le
      omega
theorem NoPre.snoc {l : List Str} {k : Str} (h : NoPre l) (e : ∀ a ∈ l, meetB a k = false) : NoPre (l ++ [k]) := by
  intro x mx y my ne
  rcases List.mem_append.mp mx with mx | mx <;> rcases List.mem_append.mp my with my | my
  · exact h x mx y my ne
  · rw [List.mem_singleton.mp my]
    exact (meet_free (e x mx)).1.1
  · rw [List.mem_singleton.mp mx]
    exact (meet_free (e y my)).1.2
  · exact absurd ((List.mem_singleton.mp mx).trans (List.mem_singleton.mp my).symm) ne
theorem NoSuf.snoc {l : List Str} {k : Str} (h : NoSuf l) (e : ∀ a ∈ l, meetB a k = false) : NoSuf (l ++ [k]) := by
  intro x mx y my ne
  rcases List.mem_append.mp mx with mx | mx <;> rcases List.mem_append.mp my with my | my
  · exact h x mx y my ne
  · rw [List.mem_singleton.mp my]
    exact (meet_free (e x mx)).2.1
  · rw [List.mem_singleton.mp mx]
    exact (meet_free (e y my)).2.2
  · exact absurd ((List.mem_singleton.mp mx).trans (List.mem_singleton.mp my).symm) ne
theorem ordT_twice (l : List Str) : ordT (ordT l) = ordT l := ordT_same fun _ => ordT_mem
end XSt

namespace XSt
open PySem PySem.Spec PyProof.Rows L2 NX
def Grows (H H' : Hp) : Prop := ∀ b o, H b = some o → H' b = some o
theorem grows_new {H : Hp} {p : Addr} {o : HO} (h : H p = none) : Grows H (upd H p o) := fun b u e => by
  rw [upd_ne (ne_of_none e h)]
  exact e
/-- a slice of a tuple that is tracked: a tuple, new or not -/
def rSlX2 : V → Option Int → Option Int → Hp → VK → Prop := fun x lo hi H Q => ∃ a xs, x = .ref a ∧ H a = some (.tup xs) ∧ ∀ p H', Grows H H' → H' p = some (.tup (cutV xs lo hi)) → Q (.ref p) H'
theorem sl_tupX {X : Cx} : SlR X rSlX2 := by
  intro pins s σ H x v vl vu lo hi sl Q I rx hs pl pu h
  obtain ⟨a, xs, rfl, ea, q⟩ := h
  refine sl_tupA pins s σ H _ v vl vu lo hi sl Q I rx hs pl pu ⟨a, xs, rfl, SqT.of ea, fun c => ?_, fun _ p hp => q p _ (grows_new hp) upd_same⟩
  refine q a H (fun _ _ e => e) ?_
  unfold cutV
  rw [c.1, c.2, List.drop_zero, Nat.sub_zero, List.take_length]
  exact ea
def rCatX : R2 := fun x y H Q => ∃ a b xs ys, x = .ref a ∧ y = .ref b ∧ H a = some (.tup xs) ∧ H b = some (.tup ys) ∧ xs.length + ys.length ≤ sizeLine ∧ ∀ p H', Grows H H' → H' p = some (.tup (xs ++ ys)) → Q (.ref p) H'
theorem op_catX {X : Cx} : OpR X (binaryOp .Add) rCatX := by
  intro pins s σ H x y v u Q I rx ry h
  obtain ⟨a, b, xs, ys, rfl, rfl, ea, eb, few, q⟩ := h
  refine op_catA pins s σ H _ _ v u Q I rx ry ⟨a, b, xs, ys, rfl, rfl, SqT.of ea, SqT.of eb, few, fun e => ?_, fun _ e => ?_, fun _ _ p hp => q p _ (grows_new hp) upd_same⟩
  · refine q b H (fun _ _ e => e) ?_
    rw [e]
    exact eb
  · refine q a H (fun _ _ e => e) ?_
    rw [e, List.append_nil]
    exact ea
theorem cut_mem {xs : List V} {lo hi : Option Int} {v : V} (h : v ∈ cutV xs lo hi) : v ∈ xs := List.mem_of_mem_drop (List.mem_of_mem_take h)
theorem cut_sub (xs : List V) (lo hi : Option Int) : (cutV xs lo hi).Sublist xs := (List.take_sublist _ _).trans (List.drop_sublist _ _)
theorem ordT_sub {l m : List Str} (h : l.Sublist m) (o : ordT m = m) : ordT l = l := by
  have srt : m.Pairwise (fun a b => XSt.tLe a b = true) := by
    rw [← o]
    exact List.pairwise_mergeSort tLe_ord.tr tLe_ord.tot _
  have nd : m.Nodup := by
    rw [← o]
    exact ordT_nodup m
  symm
  exact tLe_ord.one (perm_once (nd.sublist h) fun _ => Iff.rfl) (srt.sublist h)
theorem NoPre.sub {l m : List Str} (h : NoPre m) (e : ∀ k ∈ l, k ∈ m) : NoPre l := fun a ma b mb n => h a (e a ma) b (e b mb) n
theorem NoSuf.sub {l m : List Str} (h : NoSuf m) (e : ∀ k ∈ l, k ∈ m) : NoSuf l := fun a ma b mb n => h a (e a ma) b (e b mb) n
end XSt

/-! letters -/
namespace B73
open PySem PySem.Spec PyProof.Rows L2 XSt NX XB
open PySem.W (Frag)
structure Abc (x : Str) : Prop where
  good : GoodL x
  asc : Asc x
  one : 1 ≤ x.length
  few : x.length ≤ 3
  ok : PyData.strOk x = true
  small : ∀ c ∈ cs x, 97 ≤ c ∧ c ≤ 122
theorem abc_of {x : Str} (asc : Asc x) (one : 1 ≤ x.length) (few : x.length ≤ 3) (small : ∀ c ∈ cs x, 97 ≤ c ∧ c ≤ 122) : Abc x := by
  have ok : PyData.strOk x = true := by
    unfold PyData.strOk
    rw [Array.all_eq_true']
    intro c m
    have z := small c (Array.mem_toList_iff.mpr m)
    exact decide_eq_true (by omega)
  exact ⟨⟨by omega, ok, letters_asc asc one few small⟩, asc, one, few, ok, small⟩
theorem goodW_of {x y : Str} (a : Abc x) (h : ∀ c ∈ cs y, c ∈ cs x) (one : 1 ≤ y.length) (few : y.length ≤ 400) : GoodW x y := by
  refine ⟨few, strOk_of a.ok h, ?_⟩
  show (decide (Txt.stripChars y x = ⟨#[]⟩) && (decide (1 ≤ y.length) && decide (y.length ≤ 400))) = true
  rw [strip_in, decide_eq_true one, decide_eq_true few, Bool.and_self, Bool.and_true, List.all_eq_true]
  exact fun c m => decide_eq_true (h c m)
def rAddS : R2 := fun x y H Q => ∃ i j, x = .str i ∧ y = .str j ∧ i.length + j.length ≤ sizeLine ∧ Q (.str (i ++ j)) H
theorem op_addS {X : Cx} : OpR X (binaryOp .Add) rAddS := op_add_str
theorem pow_few {a n : Nat} (h : a ≤ 3) (hn : n ≤ 5) : a ^ n ≤ 243 := Nat.le_trans (Nat.pow_le_pow_left h n) (Nat.le_trans (Nat.pow_le_pow_right (by decide) hn) (by decide))
end B73

/-! the law's own order, its draws -/
namespace B73
open PySem PySem.Spec PyProof.Rows L2 XSt NX XB
open PySem.W (Frag)
abbrev sLine : Stmt := top 34
def spSorted (K : Frag) : Sp := fun vs H Q _ => ∃ (l : Addr) (ys : List Str), vs = [.ref l] ∧ SqL K H l (ys.map V.str) ∧ ys.length < 64 ∧ (∀ y ∈ ys, y.length ≤ 8000) ∧ ∀ q H', H q = none → Ext H H' → H' q = some (.tup ((ordT ys).map V.str)) → Q (.ref q) H'
section
variable {P : Program} {w : World} {K : Frag} {mg : Str → Option Value} {base : Heap} {f fB fS : Addr} {fd dB dS : FuncData}
end
def spPickS (K : Frag) : Sp := fun vs H Q _ => ∃ (j : Addr) (x : V), vs = [.ref j, x] ∧ JugAt H j ∧
  ((∃ p xs, x = .ref p ∧ SqL K H p xs ∧ p ≠ j ∧ xs ≠ [] ∧ xs.length ≤ 1000 ∧ ∀ y H', y ∈ xs → Kj j H H' → Q y H') ∨
   ∃ z : Str, x = .str z ∧ 1 ≤ z.length ∧ z.length ≤ 1000 ∧ ∀ c H', c ∈ z.cps.toList → Kj j H H' → Q (.str ⟨#[c]⟩) H')
def spLine : Sp := fun vs H Q _ => ∃ (j : Addr) (z : Str) (n : Nat), vs = [.ref j, .str z, .int (n : Int)] ∧ JugAt H j ∧ 1 ≤ z.length ∧ z.length ≤ 1000 ∧ n ≤ 1000 ∧
  ∀ x H', (∀ c ∈ x.cps.toList, c ∈ z.cps.toList) → x.length ≤ n → Kj j H H' → Q (.str x) H'
section
variable {P : Program} {w : World} {K : Frag} {mg : Str → Option Value} {base : Heap} {f fB fP : Addr} {fd dB dP : FuncData}
theorem scLine : FnScope ["jug", "signs", "most", "turn"] ["jug", "signs", "most"] (defScope sLine) := ⟨rfl, rfl, rfl, by decide +kernel, rfl, by decide +kernel, by decide +kernel⟩
theorem ok_pickS (F : FnP K "_law_pick" sPick f fd) (FB : FnOk P w K mg base CX0 1 fB dB ["jug", "much"] spBit) (gB : mg "_law_bit" = some (.ref fB)) (kB : PySem.W.keepIn K (.ref fB) = true) (bB : Binds K dB ["jug", "much"] []) (M : Free mg) :
    FnOk P w K mg base CX0 2 f fd ["jug", "items"] (spPickS K) := by
  refine F.ok scPick (fun vs H Q E h => ?_) (fun cdv A outer s H vs Q E hr h => ?_)
  · obtain ⟨j, x, rfl, _⟩ := h
    rfl
  · obtain ⟨j, x, rfl, hj, way⟩ := h
    have hs : sizeLine = 16777216 := sizeLine_eq
    refine ⟨_, PSs.nox (pss_one (ps_ret (pe_ix ix_seq (pv 1) (pe_call FB hr rfl gB kB bB .nil pass0 (pa_cons (pv 0) (pa_cons (pe_callB call_len (by rfl) M.len PySem.boot_len (pa_cons (pv 1) pa_nil)) pa_nil))) (fun _ _ => rfl)))), ?_⟩
    rcases way with ⟨p, xs, rfl, sq, hpj, ne, few, q⟩ | ⟨z, rfl, one, few, q⟩
    · have h0 : 0 < xs.length := List.length_pos_iff.mpr ne
      refine ⟨_, rfl, _, rfl, _, rfl, _, xs.length, rfl, Or.inl ⟨xs, sq, rfl⟩, j, _, rfl, hj, by omega, by omega, fun r H' r0 r1 hk => ?_⟩
      have hi : r.toNat < xs.length := by omega
      have er : r = ((r.toNat : Nat) : Int) := by omega
      rw [er]
      exact Or.inl ⟨_, _, _, _, rfl, rfl, hk.sqL hpj sq, atI_nat (List.getElem?_eq_getElem hi), q _ _ (List.getElem_mem hi) hk⟩
    · refine ⟨_, rfl, _, rfl, _, rfl, _, z.length, rfl, ⟨by omega, rfl⟩, j, _, rfl, hj, by omega, by omega, fun r H' r0 r1 hk => ?_⟩
      have len : z.cps.toList.length = z.length := by rw [Array.length_toList]; rfl
      have hi : r.toNat < z.cps.toList.length := by omega
      have er : r = ((r.toNat : Nat) : Int) := by omega
      rw [er]
      exact Or.inr (Or.inr ⟨_, _, _, rfl, rfl, by omega, atI_nat (List.getElem?_eq_getElem hi), q _ _ (List.getElem_mem hi) hk⟩)

theorem ok_line (F : FnP K "_law_line" sLine f fd) (M : Free mg) (mR : mg "range" = none) (FB : FnOk P w K mg base CX0 1 fB dB ["jug", "much"] spBit) (gB : mg "_law_bit" = some (.ref fB)) (kB : PySem.W.keepIn K (.ref fB) = true) (bB : Binds K dB ["jug", "much"] [])
    (FP : FnOk P w K mg base CX0 2 fP dP ["jug", "items"] (spPickS K)) (gP : mg "_law_pick" = some (.ref fP)) (kP : PySem.W.keepIn K (.ref fP) = true) (bP : Binds K dP ["jug", "items"] []) :
    FnOk P w K mg base CX0 3 f fd ["jug", "signs", "most"] spLine := by
  refine F.ok scLine (fun vs H Q E h => ?_) (fun cdv A outer s H vs Q E hr h => ?_)
  · obtain ⟨j, z, n, rfl, _⟩ := h
    rfl
  · obtain ⟨j, z, n, rfl, hj, one, few, lim, q⟩ := h
    have hs : sizeLine = 16777216 := sizeLine_eq
    refine ⟨_, PSs.nox (pss_one (ps_ret (pe_bm PySem.F.plainAttrs_str PySem.F.slot_str_join PySem.F.type_str_join mt_join pe_str
      (pa_cons (pe_lc (own := [("turn", 3)]) (g := gName 3) (tt := tYes) (te := tCall (spPickS K) [] E0 (tCons (tVar 0) (tCons (tVar 1) tNil))) rfl scLine.nd
        (pi_range1 (by rfl) mR (pa_cons (pe_call FB (hr.mono (by decide)) (by rfl) gB kB bB .nil pass0 (pa_cons (pv 0) (pa_cons (pe_op op_add (pv 2) pe_int) pa_nil))) pa_nil))
        (blkOk_by (N := ["jug", "signs", "most", "turn"]) (sc := defScope sLine) (by decide +kernel)) (fun _ _ _ _ _ => pg_name (i := 3) scLine.nd rfl (Or.inl rfl)) (fun _ _ _ _ _ => pts_nil)
        (fun _ _ _ _ _ => by exact pe_call FP hr (by rfl) gP kP bP .nil pass0 (pa_cons (pv 0) (pa_cons (pv 1) pa_nil)))) pa_nil)))), ?_⟩
    refine ⟨rfl, _, rfl, _, rfl, _, _, rfl, rfl, j, _, rfl, hj, by omega, by omega, fun r H1 r0 r1 hk => ?_⟩
    refine ⟨_, rfl, by omega, by omega, fun D hD => ?_⟩
    have nDj : D ≠ j := fun z => by
      obtain ⟨a, b, c, e, _⟩ := hk.2
      rw [z, e] at hD
      cases hD
    have hDH : H D = none := by
      cases e : H D with
      | none => rfl
      | some o =>
        rw [hk.1 D o nDj e] at hD
        cases hD
    refine lc_range (n := r.toNat) (fun i H2 => ∃ l : List Str, H2 D = some (.lst (l.map V.str)) ∧ l.length = i ∧ (∀ y ∈ l, ∃ c, y = ⟨#[c]⟩ ∧ c ∈ z.cps.toList) ∧ Kj j H H2) ⟨[], upd_same, rfl, fun _ y => (by cases y), hk.new hDH nDj⟩ ?_ ?_
    · rintro i H2 hi ⟨l, e1, e2, e3, k2⟩
      refine ⟨rfl, _, rfl, _, rfl, j, _, rfl, k2.2, Or.inr ⟨z, rfl, one, few, fun c H3 mc k3 => ?_⟩⟩
      have e4 := k3.1 D _ nDj e1
      refine ⟨_, e4, by rw [List.length_map]; omega, l ++ [⟨#[c]⟩], ?_, by rw [List.length_append, e2]; rfl, fun y my => ?_, (k2.trans k3).new hDH nDj⟩
      · rw [List.map_append]
        exact upd_same
      · rcases List.mem_append.mp my with my | my
        · exact e3 y my
        · exact ⟨c, List.mem_singleton.mp my, mc⟩
    · rintro H2 ⟨l, e1, e2, e3, k2⟩
      have ones : (l.map (·.length)).sum ≤ l.length := sum_ones l fun y my => by
        obtain ⟨c, rfl, _⟩ := e3 y my
        exact Nat.le_refl _
      have e0 : (Str.ofString "").length = 0 := rfl
      refine ⟨_, D, l, rfl, rfl, Or.inl (SqL.of e1), by rw [e0]; omega, q _ H2 (fun c mc => ?_) ?_ k2⟩
      · have y : (Txt.join (Str.ofString "") l).cps.toList = (l.map fun x => x.cps.toList).flatten := joined_list l
        rw [y] at mc
        obtain ⟨t, mt, mc⟩ := List.mem_flatten.mp mc
        obtain ⟨y, my, rfl⟩ := List.mem_map.mp mt
        obtain ⟨d, rfl, md⟩ := e3 y my
        obtain rfl : c = d := List.mem_singleton.mp mc
        exact md
      · have y : (Txt.join (Str.ofString "") l).cps.toList = (l.map fun x => x.cps.toList).flatten := joined_list l
        have len : (Txt.join (Str.ofString "") l).cps.toList.length = (Txt.join (Str.ofString "") l).length := by rw [Array.length_toList]; rfl
        have sum : ∀ l : List Str, (l.map fun x => x.cps.toList).flatten.length = (l.map (·.length)).sum := by
          intro l
          induction l with
          | nil => rfl
          | cons a l ih =>
            rw [List.map_cons, List.flatten_cons, List.length_append, ih, List.map_cons, List.sum_cons, Array.length_toList]
            rfl
        rw [← len, y, sum]
        omega
end
end B73

/-! letters that are drawn, texts that meet, sets of words that don't -/
namespace B73
open PySem PySem.Spec PyProof.Rows L2 XSt NX XB
open PySem.W (Frag)
abbrev sSigns : Stmt := top 33
def fourS : List Str := [Str.ofString "ab", Str.ofString "ab", Str.ofString "ab", Str.ofString "xy", Str.ofString "a", Str.ofString "abc"]
theorem four_abc : ∀ x ∈ fourS, Abc x := by
  have a : ∀ x ∈ fourS, Asc x := by unfold Asc; decide +kernel
  have b : ∀ x ∈ fourS, 1 ≤ x.length ∧ x.length ≤ 3 ∧ ∀ c ∈ cs x, 97 ≤ c ∧ c ≤ 122 := by decide +kernel
  exact fun x m => abc_of (a x m) (b x m).1 (b x m).2.1 (b x m).2.2
theorem jug_none {H : Hp} {j p : Addr} (h : JugAt H j) (n : H p = none) : p ≠ j := fun z => by
  obtain ⟨a, b, c, e, _⟩ := h
  rw [z, e] at n
  cases n
theorem Kj.none {H H' : Hp} {j p : Addr} (k : Kj j H H') (n : H' p = none) : H p = none := by
  have d := jug_none k.2 n
  cases e : H p with
  | none => rfl
  | some o =>
    rw [k.1 _ _ d e] at n
    cases n
theorem Kj.ext {H H1 H2 : Hp} {j : Addr} (k : Kj j H H1) (e : Ext H1 H2) : Kj j H H2 := ⟨fun b o n h => e _ _ (k.1 b o n h), by
  obtain ⟨a, b, c, h, z⟩ := k.2
  exact ⟨a, b, c, e _ _ h, z⟩⟩
def spSigns : Sp := fun vs H Q _ => ∃ j, vs = [.ref j] ∧ JugAt H j ∧ ∀ x H', x ∈ fourS → Kj j H H' → Q (.str x) H'
def spMeet : Sp := fun vs H Q _ => ∃ a b : Str, vs = [.str a, .str b] ∧ a.length ≤ 8000 ∧ b.length ≤ 8000 ∧ ∀ H', Ext H H' → Q (.bl (meetB a b)) H'
/-- a drawn set: words over x, of at most n letters, no two of which meet, in order -/
structure LotOk (x : Str) (n : Nat) (ws : List Str) : Prop where
  one : ∀ k ∈ ws, 1 ≤ k.length ∧ k.length ≤ n ∧ ∀ c ∈ cs k, c ∈ cs x
  pre : NoPre ws
  suf : NoSuf ws
  ord : ordT ws = ws
def spLot : Sp := fun vs H Q _ => ∃ (j : Addr) (x : Str) (m n : Nat), vs = [.ref j, .str x, .int (m : Int), .int (n : Int)] ∧ JugAt H j ∧ Abc x ∧ m ≤ 60 ∧ 1 ≤ n ∧ n ≤ 400 ∧
  ∀ p ws H', H p = none → Kj j H H' → H' p = some (.tup (ws.map V.str)) → LotOk x n ws → ws.length ≤ m → Q (.ref p) H'
section
variable {P : Program} {w : World} {K : Frag} {mg : Str → Option Value} {base : Heap} {f fB fP fL fM fS : Addr} {fd dB dP dL dM dS : FuncData}
theorem scSigns : FnScope ["jug"] ["jug"] (defScope sSigns) := ⟨rfl, rfl, rfl, by decide +kernel, rfl, by decide +kernel, by decide +kernel⟩
theorem ok_signs (F : FnP K "_law_signs" sSigns f fd) (FP : FnOk P w K mg base CX0 2 fP dP ["jug", "items"] (spPickS K)) (gP : mg "_law_pick" = some (.ref fP)) (kP : PySem.W.keepIn K (.ref fP) = true) (bP : Binds K dP ["jug", "items"] []) :
    FnOk P w K mg base CX0 3 f fd ["jug"] spSigns := by
  refine F.ok scSigns (fun vs H Q E h => ?_) (fun cdv A outer s H vs Q E hr h => ?_)
  · obtain ⟨j, rfl, _⟩ := h
    rfl
  · obtain ⟨j, rfl, hj, q⟩ := h
    refine ⟨_, PSs.nox (pss_one (ps_ret (pe_call FP hr (by rfl) gP kP bP .nil pass0 (pa_cons (pv 0) (pa_cons (pe_lst (pa_cons pe_str (pa_cons pe_str (pa_cons pe_str (pa_cons pe_str (pa_cons pe_str (pa_cons pe_str pa_nil))))))) pa_nil))))), ?_⟩
    refine ⟨_, rfl, by show 6 ≤ sizeLine; decide, fun p hp => ?_⟩
    have npj := jug_none hj hp
    have k0 := (Kj.refl hj).new hp npj (o := .lst (fourS.map V.str))
    refine ⟨j, _, rfl, k0.2, Or.inl ⟨p, fourS.map V.str, rfl, SqL.of upd_same, npj, by simp [fourS], by simp [fourS], fun y H' my k1 => ?_⟩⟩
    obtain ⟨x, mx, rfl⟩ := List.mem_map.mp my
    exact q x H' mx (k0.trans k1)
end
end B73

/-! the first two that clash -/
namespace XSt
open PySem PySem.Spec PyProof.Rows L2
/-- the first two, in order, that clash -/
def firstV : List Str → Option (Str × Str)
  | [] => none
  | a :: r => match r.find? (meetB a) with
    | some b => some (a, b)
    | none => firstV r
theorem between : ∀ {x z t : List Nat}, x ≤ z → z ≤ x ++ t → x <+: z
  | [], z, t, _, _ => ⟨z, rfl⟩
  | a :: x, [], t, h, _ => by
    exact absurd h (by simp [List.le_iff_lt_or_eq])
  | a :: x, b :: z, t, h, g => by
    rw [List.cons_append] at g
    rw [List.cons_le_cons_iff] at h g
    rcases h with h | ⟨rfl, h⟩
    · rcases g with g | ⟨g, _⟩
      · omega
      · omega
    · rcases g with g | ⟨_, g⟩
      · omega
      · obtain ⟨u, e⟩ := between h g
        exact ⟨u, by rw [List.cons_append, e]⟩
theorem pre_le {x y : List Nat} (h : x <+: y) : x ≤ y := by
  obtain ⟨t, rfl⟩ := h
  exact List.le_append_left
theorem adj_cons {x y : Str} {l : List Str} (h : adjB (x :: y :: l) = false) : ¬ cs x <+: cs y ∧ adjB (y :: l) = false := by
  unfold adjB at h
  rw [List.tail_cons, List.zip_cons_cons, List.any_cons, Bool.or_eq_false_iff] at h
  refine ⟨fun z => ?_, h.2⟩
  have z2 := starts_iff.mpr z
  rw [h.1] at z2
  cases z2
theorem adj_full : ∀ {l : List Str}, l.Pairwise (fun a b => sLe a b = true) → adjB l = false → NoPre l
  | [], _, _ => fun x hx => by cases hx
  | [a], _, _ => fun x hx y hy n => absurd ((List.mem_singleton.mp hx).trans (List.mem_singleton.mp hy).symm) n
  | x :: z :: l, srt, h => by
    obtain ⟨h1, h2⟩ := adj_cons h
    have ih := adj_full (List.pairwise_cons.mp srt).2 h2
    have le : ∀ y ∈ z :: l, cs x ≤ cs y := fun y m => of_decide_eq_true ((List.pairwise_cons.mp srt).1 y m)
    have lz : ∀ y ∈ z :: l, cs z ≤ cs y := fun y m => by
      rcases List.mem_cons.mp m with rfl | m
      · exact List.le_refl _
      · exact of_decide_eq_true ((List.pairwise_cons.mp (List.pairwise_cons.mp srt).2).1 y m)
    have nx : ∀ y ∈ z :: l, ¬ cs x <+: cs y := fun y m q => by
      obtain ⟨t, e⟩ := q
      exact h1 (between (t := t) (le z List.mem_cons_self) (by rw [e]; exact lz y m))
    intro a ma b mb n q
    rcases List.mem_cons.mp ma with e0 | ma' <;> rcases List.mem_cons.mp mb with e | mb'
    · exact n (e0.trans e.symm)
    · rw [e0] at q
      exact nx b mb' q
    · rw [e] at q
      exact n (by rw [e]; exact cs_inj (List.le_antisymm (pre_le q) (le a ma')))
    · exact ih a ma' b mb' n q
theorem firstV_none : ∀ {l : List Str}, l.Nodup → NoPre l → NoSuf l → firstV l = none
  | [], _, _, _ => rfl
  | a :: r, nd, np, ns => by
    have e : r.find? (meetB a) = none := by
      rw [List.find?_eq_none]
      intro b mb z
      have ne : a ≠ b := fun e => (List.nodup_cons.mp nd).1 (e ▸ mb)
      unfold meetB at z
      split at z
      · rw [Bool.or_eq_true] at z
        rcases z with z | z
        · exact np a List.mem_cons_self b (List.mem_cons_of_mem _ mb) ne (starts_iff.mp z)
        · exact ns a List.mem_cons_self b (List.mem_cons_of_mem _ mb) ne (ends_iff.mp z)
      · rw [Bool.or_eq_true] at z
        rcases z with z | z
        · exact np b (List.mem_cons_of_mem _ mb) a List.mem_cons_self ne.symm (starts_iff.mp z)
        · exact ns b (List.mem_cons_of_mem _ mb) a List.mem_cons_self ne.symm (ends_iff.mp z)
    unfold firstV
    rw [e]
    exact firstV_none (List.nodup_cons.mp nd).2 (fun x hx y hy => np x (List.mem_cons_of_mem _ hx) y (List.mem_cons_of_mem _ hy)) (fun x hx y hy => ns x (List.mem_cons_of_mem _ hx) y (List.mem_cons_of_mem _ hy))
theorem NoPre.unrev {l : List Str} (h : NoPre (l.map revS)) : NoSuf l := by
  intro x hx y hy n z
  refine h _ (List.mem_map_of_mem hx) _ (List.mem_map_of_mem hy) (fun e => n (rev_inj e)) ?_
  rw [cs_rev, cs_rev, List.reverse_prefix]
  exact z
theorem sorted_adj {l : List Str} (h : adjB (l.mergeSort sLe) = false) : NoPre l :=
  (adj_full (List.pairwise_mergeSort sLe_ord.tr sLe_ord.tot _) h).perm fun x => (List.mergeSort_perm _ _).mem_iff.symm
/-- where no neighbours begin one another, on either side, none clash -/
theorem first_by_adj {l : List Str} (nd : l.Nodup) (h1 : adjB (l.mergeSort sLe) = false) (h2 : adjB ((l.map revS).mergeSort sLe) = false) : firstV l = none :=
  firstV_none nd (sorted_adj h1) (sorted_adj h2).unrev
theorem firstV_drop {l : List Str} {i : Nat} {a : Str} (g : l[i]? = some a) : firstV (l.drop i) = match (l.drop (i + 1)).find? (meetB a) with
    | some b => some (a, b)
    | none => firstV (l.drop (i + 1)) := by
  obtain ⟨hi, e⟩ := List.getElem?_eq_some_iff.mp g
  rw [List.drop_eq_getElem_cons hi, e]
  rfl
theorem firstV_mem : ∀ {l : List Str} {a b : Str}, firstV l = some (a, b) → a ∈ l ∧ b ∈ l ∧ meetB a b = true
  | [], _, _, h => by cases h
  | x :: r, a, b, h => by
    unfold firstV at h
    cases e : r.find? (meetB x) with
    | some y =>
      rw [e] at h
      cases h
      exact ⟨List.mem_cons_self, List.mem_cons_of_mem _ (List.mem_of_find?_eq_some e), List.find?_some e⟩
    | none =>
      rw [e] at h
      obtain ⟨m1, m2, m3⟩ := firstV_mem h
      exact ⟨List.mem_cons_of_mem _ m1, List.mem_cons_of_mem _ m2, m3⟩
/-- no first two: none clash -/
theorem none_clash : ∀ {l : List Str}, firstV l = none → NoPre l ∧ NoSuf l
  | [], _ => ⟨(fun x hx => by cases hx), (fun x hx => by cases hx)⟩
  | a :: r, h => by
    unfold firstV at h
    cases e : r.find? (meetB a) with
    | some y =>
      rw [e] at h
      cases h
    | none =>
      rw [e] at h
      obtain ⟨np, ns⟩ := none_clash h
      have fr : ∀ b ∈ r, meetB a b = false := fun b m => Bool.eq_false_iff.mpr (List.find?_eq_none.mp e b m)
      constructor
      · intro x mx y my n
        rcases List.mem_cons.mp mx with e1 | mx' <;> rcases List.mem_cons.mp my with e2 | my'
        · exact absurd (e1.trans e2.symm) n
        · rw [e1]
          exact (meet_free (fr y my')).1.1
        · rw [e2]
          exact (meet_free (fr x mx')).1.2
        · exact np x mx' y my' n
      · intro x mx y my n
        rcases List.mem_cons.mp mx with e1 | mx' <;> rcases List.mem_cons.mp my with e2 | my'
        · exact absurd (e1.trans e2.symm) n
        · rw [e1]
          exact (meet_free (fr y my')).2.1
        · rw [e2]
          exact (meet_free (fr x mx')).2.2
        · exact ns x mx' y my' n
theorem find_at : ∀ {l : List Str} {j : Nat} {b : Str} {p : Str → Bool}, l[j]? = some b → p b = true → (∀ x ∈ l.take j, p x = false) → l.find? p = some b
  | [], j, b, p, g, _, _ => by simp at g
  | x :: l, 0, b, p, g, h, _ => by
    obtain rfl : x = b := by simpa using g
    rw [List.find?_cons, h]
  | x :: l, j + 1, b, p, g, h, k => by
    have hx : p x = false := k x (by rw [List.take_succ_cons]; exact List.mem_cons_self)
    rw [List.find?_cons, hx]
    exact find_at (by simpa using g) h fun y m => k y (by rw [List.take_succ_cons]; exact List.mem_cons_of_mem _ m)
theorem find_no {l : List Str} {p : Str → Bool} (k : ∀ x ∈ l, p x = false) : l.find? p = none := by
  rw [List.find?_eq_none]
  intro x m z
  rw [k x m] at z
  cases z
theorem cut_from (xs : List V) (n : Nat) : cutV xs (some (n : Int)) none = xs.drop n := by
  unfold cutV
  have e1 : HT.sIx xs.length 0 (some (n : Int)) = min n xs.length := HT.sIx_nat xs.length 0 n
  rw [e1, HT.sIx_none]
  by_cases h : n ≤ xs.length
  · rw [Nat.min_eq_left h]
    rw [List.take_of_length_le]
    simp
  · rw [Nat.min_eq_right (by omega), List.drop_of_length_le (Nat.le_refl _), List.drop_of_length_le (by omega)]
    simp
end XSt

/-! enumerate of a tuple -/
namespace XN
open PySem PySem.Spec PyProof.Rows L2
open Sem (wp)
open AutoSeq1 (wpAny_loadPart')
theorem meets_enumerate_newT (l : Addr) (items : Array Value) (n : Nat) (dct : Option Addr) (sl : Array (Option Value)) :
    Meets (Builtin.«enumerate.__new__» ⟨[.type "enumerate", .ref l], []⟩) (fun _ R s => s.heap.get? l = some { cls := .type "tuple", dict := dct, data := .seq items n, slots := sl } ∧
      R (.ok (.ret (.ref (s.heap.push { cls := .type "tuple_iterator", data := .fields #[.ref l, .int 0 0] }).objs.size)))
        { s with heap := (s.heap.push { cls := .type "tuple_iterator", data := .fields #[.ref l, .int 0 0] }).push { cls := .type "enumerate", data := .fields #[.none, .bool false, .ref s.heap.objs.size, rawInt 0, .none, .none] } }) :=
  .of_wp fun prog w A R s h => by
    obtain ⟨hp, g, d, tk, os⟩ := s; obtain ⟨hl, h⟩ := h
    have hsub := sub_enumerate
    have hL : Heap.IsTuple (Shared.heap ⟨hp, g, d, tk, os⟩) l items := ⟨_, hl, rfl, n, rfl⟩
    wp_walk using wpAny_loadPart' hl
    refine wpAny_stack_any fun st => wpAny_pure ?_
    split
    · rename_i c _ _ _ _ _
      cases (c == Value.type "enumerate")
      · wp_walk using wpAny_loadPart' hl, wpAny_pyIter_tuple hL
        exact ⟨_, rfl, h⟩
      · wp_walk using wpAny_loadPart' hl, wpAny_pyIter_tuple hL
        exact ⟨_, rfl, h⟩
    · wp_walk using wpAny_loadPart' hl, wpAny_pyIter_tuple hL
      exact ⟨_, rfl, h⟩
section
variable {prog : Program} {w : World} {A : Around} {E : Value → Shared → Prop} {s : Shared}
theorem call_enumerate_tup {l : Addr} {items : Array Value} {Q : Value → Shared → Prop} (hL : s.heap.IsTuple l items)
    (h : ∀ h', IsEnum h' (s.heap.objs.size + 1) s.heap.objs.size 0 .none → h'.IsTupleIter s.heap.objs.size l 0 → h'.objs.size = s.heap.objs.size + 2 →
      (∀ b o, s.heap.get? b = some o → h'.get? b = some o) → Q (.ref (s.heap.objs.size + 1)) { s with heap := h' }) :
    wpAny (model prog w) A (call (.type "enumerate") [.ref l]) Q E s := by
  obtain ⟨⟨c, dct, dt, sl⟩, hl, hc, n, hd⟩ := hL
  replace hc : c = .type "tuple" := hc
  replace hd : dt = .seq items n := hd
  subst hc hd
  refine callType_new F.called_enumerate (by decide) (F.typeCall_enumerate_1 _) (F.newCall_enumerate_1 _) (fun obj => F.args_object_init_2 obj _) F.entry_enumerate_new
    (meets_enumerate_newT l items n dct sl) ⟨hl, ?_⟩
  have hz : (s.heap.push { cls := .type "tuple_iterator", data := .fields #[.ref l, .int 0 0] }).objs.size = s.heap.objs.size + 1 := Heap.size_push ..
  show _ ∧ _
  rw [hz]
  have he : IsEnum ((s.heap.push { cls := .type "tuple_iterator", data := .fields #[.ref l, .int 0 0] }).push
      { cls := .type "enumerate", data := .fields #[.none, .bool false, .ref s.heap.objs.size, rawInt 0, .none, .none] }) (s.heap.objs.size + 1) s.heap.objs.size 0 .none := by
    have := Heap.get?_push_size (s.heap.push { cls := .type "tuple_iterator", data := .fields #[.ref l, .int 0 0] })
      (o := { cls := .type "enumerate", data := .fields #[.none, .bool false, .ref s.heap.objs.size, rawInt 0, .none, .none] }) rfl
    rw [hz] at this; exact this
  refine ⟨⟨_, he, rfl⟩, h _ he ⟨_, Heap.get?_push_of_some _ (Heap.get?_push_size _ rfl), rfl, rfl⟩ (by rw [Heap.size_push, hz]) fun b o x => Heap.get?_push_of_some _ (Heap.get?_push_of_some _ x)⟩
end
/-- the tuple at a as it stands, its items in new pairs with their numbers -/
def IteT (K : PySem.W.Frag) (a : Addr) : It :=
  ⟨fun i H => ∃ (xs : List V) (x : V), SqT K H a xs ∧ xs[i]? = some x, fun i H v H' => ∃ T x, v = .ref T ∧ H T = none ∧ H' = upd H T (.tup [.int (i : Nat), x]) ∧ ∀ xs, SqT K H a xs → xs[i]? = some x, fun i H => ∃ xs : List V, SqT K H a xs ∧ xs.length ≤ i⟩
theorem turn_enumT {P : Program} {w : World} {K : PySem.W.Frag} {elts : List Expr} {kk : Nat} {tpos : Pos} (a e it : Addr) :
    Turn P w K (.Tuple elts kk tpos) (IteT K a) [e, it] e (fun i h => (∃ old, IsEnum h e it ((i : Nat) : Int) old) ∧ h.IsTupleIter it a i ∧ e ≠ it ∧ a ≠ it ∧ e ≠ a) where
  mem := by simp
  obj := fun i h st b hb => by
    obtain ⟨⟨old, he⟩, ⟨o, ho, hc, hd⟩, _⟩ := st
    have e' : b = e ∨ b = it := by simpa using hb
    rcases e' with z | z
    · rw [z]; exact ⟨_, he, fun v q => nomatch q⟩
    · rw [z]; exact ⟨o, ho, fun v q => by rw [hd] at q; cases q⟩
  keep := fun i h h' st k => let ⟨⟨old, he⟩, hi, hne⟩ := st; ⟨⟨old, k e (by simp) _ he⟩, hi.at fun o q => k it (by simp) o q, hne⟩
  item := by
    intro X hP hw hK hc i pins s σ H E I hf st hg
    subst hP hw hK
    obtain ⟨⟨old, he⟩, hit, hne, hai, hea⟩ := st
    obtain ⟨xs, x, hq, hx⟩ := hg
    obtain ⟨its, rv, p, hz⟩ := I.tuple hq
    obtain ⟨u, hu, ru⟩ := rv.get hx
    have hel : e < s.heap.objs.size := Heap.lt_size he
    have hil : it < s.heap.objs.size := by obtain ⟨_, q, _⟩ := hit; exact Heap.lt_size q
    have hh : X.A.in1.handled = none := I.ok.hd hc
    have hi : i < its.toArray.size := by
      have z := (List.getElem?_eq_some_iff.mp hu).1
      simpa using z
    have D := Draws.tuple (prog := X.prog) (w := X.w) (A := X.A.in1) hh it a hai its.toArray
    refine wpAny_pyNext_enum_itemD D he ⟨hit, p⟩ hi hne (by simp [hne, hea]) fun y h' tk ey ho st' hT hsz hk => ?_
    have ey : its.toArray[i]? = some y := ey
    obtain rfl : u = y := by
      have z : its.toArray[i]? = some u := by simpa using hu
      exact Option.some.inj (z.symm.trans ey)
    refine ⟨_, rfl, wpAny_letOwnedTupleGo_enum (s := { s with heap := h', toks := tk + 1 }) ho fun h'' he' sb => ?_⟩
    have hT2 : h''.get? s.heap.objs.size = some { cls := .type "tuple", data := .seq #[.int i tk, u] } := (sb.2 _ (Nat.ne_of_gt hel)).trans hT
    have new : ObjOk X.prog X.w (upd H s.heap.objs.size (.tup [.int (i : Nat), x])) h'' s.heap.objs.size (.tup [.int (i : Nat), x]) :=
      ⟨by show 2 ≤ sizeLine; decide, [.int i tk, u], .cons ⟨_, rfl⟩ (.cons ru .nil), ⟨_, hT2, rfl, _, rfl⟩⟩
    have I1 : Inv X pins σ (upd H s.heap.objs.size (.tup [.int (i : Nat), x])) { s with heap := h'', toks := tk + 1 } :=
      I.turnedNew (ch := [e, it]) (fun b ob hb q => (sb.2 b (fun z => hb (by simp [z]))).trans (hk b ob (fun z => hb (by simp [z])) (fun z => hb (by simp [z])) q)) hf (Nat.le_refl _) new
    refine ⟨.ref s.heap.objs.size, _, I1, rfl, ⟨_, x, rfl, I.hok.fresh (Nat.le_refl _), rfl, fun ys hy => by rw [I.tuple_inj hy hq]; exact hx⟩, ⟨⟨u, ?_⟩, st'.1.at fun o q => (sb.2 it (Ne.symm hne)).trans q, hne, hai, hea⟩, fun b hb => ?_⟩
    · have e1 : ((i + 1 : Nat) : Int) = (i : Int) + 1 := by omega
      rw [e1]; exact he'
    · have hb' : b < s.heap.objs.size := by
        have e' : b = e ∨ b = it := by simpa using hb
        rcases e' with z | z
        · rw [z]; exact hel
        · rw [z]; exact hil
      rw [upd_ne (Nat.ne_of_lt hb')]
      exact (hf b hb).1
  done := by
    intro X hP hw hK hc i pins s σ H E I hf st hg
    subst hP hw hK
    obtain ⟨⟨old, he⟩, hit, hne, hai, hea⟩ := st
    obtain ⟨xs, hq, hx⟩ := hg
    obtain ⟨its, rv, p, hz⟩ := I.tuple hq
    have hl := rv.length
    have hh : X.A.in1.handled = none := I.ok.hd hc
    -- the end, whatever lies behind it
    have D : Draws X.prog X.w X.A.in1 it [it, a] i (fun _ _ => False) (fun j h => j = i ∧ h.IsTupleIter it a i ∧ h.IsTuple a its.toArray) := {
      live := fun _ _ st => let ⟨o, ho, _⟩ := st.2.1; ⟨o, ho⟩
      frame := fun _ _ _ st hk => ⟨st.1, st.2.1.at fun o e => hk it (by simp) o e, st.2.2.at fun o e => hk a (by simp) o e⟩
      item := fun j s Q E hj st _ => by have := st.1; omega
      done := fun s Q E st hE => wpAny_nextOf_tuple_end hh st.2.1 st.2.2 (by simp; omega) hE }
    exact wpAny_pyNext_enum_endD D he ⟨rfl, hit, p⟩ fun h' eb => ⟨rfl, I.turnedL (t' := s.toks) (ch := [e, it]) (fun b o hb q => eb b o (fun z => hb (by simp [z])) q) hf⟩
  self := fun A i s Q E st h => let ⟨⟨_, he⟩, _⟩ := st; wpAny_pyIter_enum he h
def iEnumT (K : PySem.W.Frag) (ta : TA) : TI := fun σ H R => ta σ H fun vs H1 => ∃ a xs, vs = [.ref a] ∧ SqT K H1 a xs ∧ R (IteT K a) H1
theorem pi_enumT {X : Cx} {e : Expr} {ta : TA} {p pos tpos : Pos} {elts : List Expr} {kk : Nat} (hg : Gl X "enumerate") (hm : X.mg "enumerate" = none) (ha : PA X [e] ta) (hs : starEach [e] X.env = [(false, eval e X.env)] := by rfl) :
    PI X (.Tuple elts kk tpos) (.Call (.Name "enumerate" p) [e] [] pos) (iEnumT X.K ta) := by
  refine ⟨fun pins s σ H R I h => ?_⟩
  refine Call_ (ld_blt I hg hm boot_enumerate (PyProof.Rows.callWith_type1 (thn (ha.run pos pins s σ H _ I h) fun us s1 ⟨vs, H1, I1, r1, q1⟩ => ?_) hs rfl))
  obtain ⟨a, xs, ex, hq, q⟩ := q1
  subst ex
  cases r1 with
  | cons r rr =>
    cases rr
    cases r
    obtain ⟨its, rv, p', hz⟩ := I1.tuple hq
    have hlt : a < s1.heap.objs.size := by obtain ⟨_, q0, _⟩ := id p'; exact Heap.lt_size q0
    refine call_enumerate_tup (show s1.heap.IsTuple a its.toArray from p') fun h' he hit hsz hk => wpAny_pyIter_enum he ?_
    have I2 : Inv X pins σ H1 { s1 with heap := h' } := I1.kept (t' := s1.toks) hk
    refine ⟨s1.heap.objs.size + 1, [s1.heap.objs.size + 1, s1.heap.objs.size], _, _, H1, rfl, I2, turn_enumT a (s1.heap.objs.size + 1) s1.heap.objs.size, ⟨⟨.none, he⟩, hit, Nat.succ_ne_self _, Nat.ne_of_lt hlt, Nat.ne_of_gt (Nat.lt_succ_of_lt hlt)⟩, fun b hb => ?_, q⟩
    have e' : b = s1.heap.objs.size + 1 ∨ b = s1.heap.objs.size := by simpa using hb
    have hle : s1.heap.objs.size ≤ b := by
      rcases e' with z | z
      · rw [z]; exact Nat.le_add_right _ _
      · rw [z]; exact Nat.le_refl _
    exact I1.fpOk hle (I1.hok.fresh hle)
theorem walk_enumT {K : PySem.W.Frag} {a : Addr} {xs : List V} : Walk (IteT K a) xs.length (fun H => SqT K H a xs) (YPair (fun i => some (.int (i : Nat))) (fun i => xs[i]?)) := by
  refine ⟨fun i _ hi q => ⟨xs, xs[i], q, by simp [hi]⟩, fun _ q => ⟨xs, q, Nat.le_refl _⟩, fun i H v H' _ q y => ?_⟩
  obtain ⟨T, x, h1, h2, h3, h4⟩ := y
  exact ⟨T, .int (i : Nat), x, h1, h2, h3, rfl, h4 xs q⟩
end XN

/-! own exceptions with an own __init__, of any base: fields stored, objects made -/
namespace XE
open PySem PySem.W PySem.Calls PyProof.Rows PySem.Spec Builtin Builtin.ObjectAttr
section
variable {prog : Program} {w : World} {A : Around} {R : Result → Shared → Prop} {hp : Heap} {g : Array GenState} {dr : Drawn} {t : Nat} {os : OsState} {K : Frag} {C : Addr} {B : String} {bmB : List Value}
/-- the first field: the dict is made -/
theorem first_field {x : Addr} {fv : Array Value} {name : Str} {tk : Tok} {v : Value} (SF : StoreFacts B bmB "object.__setattr__" "object") (KI : K.In hp) (ov : excOver K C bmB = true) (tn : takerIn K C name = some none) (hh : hasDictIn K C = true)
    (hx : hp.get? x = some { cls := .ref C, data := .fields fv })
    (fin : ∀ h' tk' dx, (∀ b o, b ≠ x → hp.get? b = some o → h'.get? b = some o) → hp.objs.size ≤ dx → dx ≠ x → h'.get? x = some { cls := .ref C, dict := some dx, data := .fields fv } →
      h'.Ns1 dx (fun y => if y = name then some v else none) → R (.ok (.ret .none)) ⟨h', g, dr, tk', os⟩) :
    codeAny (model prog w) A (.call (.builtin "object.__setattr__") ⟨[.ref x, .str name tk, v], []⟩) R ⟨hp, g, dr, t, os⟩ := by
  have away : x ≠ hp.objs.size := Nat.ne_of_lt (Heap.lt_size hx)
  obtain ⟨cd, hcd, hd1⟩ := any_some hh
  have look : Looks (model prog w) hp (classData C) cd := looks_clsIn KI hcd
  refine osa_openX (s := ⟨hp, g, dr, t, os⟩) (od := none) SF KI ⟨hx, rfl, rfl, trivial⟩ ov tn fun b => ?_
  show wpAny _ _ (storeInOwnDict (.ref x) (.ref C) (.str name tk) name v b) _ _ _
  obtain ⟨nm, bs, mro, ns, qn, hdd, sn, sb, ab, col, del⟩ := cd
  dsimp only at hd1
  subst hd1
  unfold storeInOwnDict ownDictForStores
  repeat (first | with_reducible refine PX.store_in_new ?_ ?_ | with_reducible refine wpAny_loadPart_at hx ?_ | with_reducible refine look.at ?_ | wp_step)
  · exact ⟨_, #[], _, (Heap.get?_update_ne _ _ _ _ away.symm).trans (Heap.get?_push_at rfl rfl), rfl, fun e he => absurd he (by simp), fun _ => rfl⟩
  · intro h' tk' hn' hs
    have hx1 : (hp.push { cls := .type "dict", data := .dict #[] }).get? x = some { cls := .ref C, data := .fields fv } := Heap.get?_push_of_some _ hx
    refine fin h' tk' hp.objs.size (fun b o hb ho => ?_) (Nat.le_refl _) away.symm ?_ hn'
    · exact (hs.2 b (Nat.ne_of_lt (Heap.lt_size ho))).trans ((Heap.get?_update_ne _ _ _ _ hb).trans (Heap.get?_push_of_some _ ho))
    · exact (hs.2 x away).trans (Heap.get?_update_self _ hx1 rfl)
/-- a further field -/
theorem more_field {x dx : Addr} {fv : Array Value} {name : Str} {tk : Tok} {v : Value} {m0 : Str → Option Value} {nl : List Str} (SF : StoreFacts B bmB "object.__setattr__" "object") (KI : K.In hp) (ov : excOver K C bmB = true) (tn : takerIn K C name = some none) (hh : hasDictIn K C = true)
    (hx : hp.get? x = some { cls := .ref C, dict := some dx, data := .fields fv }) (hns : hp.Ns1 dx m0) (hw : Within m0 nl) (hz : nl.length ≤ 1000)
    (fin : ∀ h' tk', (∀ b o, b ≠ dx → hp.get? b = some o → h'.get? b = some o) → h'.Ns1 dx (fun y => if y = name then some v else m0 y) → R (.ok (.ret .none)) ⟨h', g, dr, tk', os⟩) :
    codeAny (model prog w) A (.call (.builtin "object.__setattr__") ⟨[.ref x, .str name tk, v], []⟩) R ⟨hp, g, dr, t, os⟩ := by
  obtain ⟨oD, _, _, hoD, _, _⟩ := hns.count hw
  obtain ⟨cd, hcd, hd1⟩ := any_some hh
  have look : Looks (model prog w) hp (classData C) cd := looks_clsIn KI hcd
  refine osa_openX (s := ⟨hp, g, dr, t, os⟩) (od := some oD) SF KI ⟨hx, rfl, rfl, hoD⟩ ov tn fun b => ?_
  show wpAny _ _ (storeInOwnDict (.ref x) (.ref C) (.str name tk) name v b) _ _ _
  obtain ⟨nm, bs, mro, ns, qn, hdd, sn, sb, ab, col, del⟩ := cd
  dsimp only at hd1
  subst hd1
  unfold storeInOwnDict ownDictForStores
  repeat (first | with_reducible refine PX.store_in_old hns hw hz ?_ | with_reducible refine wpAny_loadPart_at hx ?_ | with_reducible refine look.at ?_ | wp_step)
  intro h' tk' hn' hs
  exact fin h' tk' (fun b o hb ho => (hs.2 b hb).trans ho) hn'
end
end XE

/-! own exceptions with an own __init__, in the layer -/
namespace XE
open PySem PySem.Spec PyProof.Rows L2
open PySem.W (Frag)
/-- what the written part says of an own exception class with its own __init__, of any base -/
structure InitC (K : Frag) (C fI : Addr) : Prop where
  how : ∃ B newId initId bmB, ExcBaseFacts B newId initId bmB ∧ StoreFacts B bmB "object.__setattr__" "object" ∧ PySem.W.excInitIn K C bmB newId = true ∧ PySem.W.excOver K C bmB = true
  sa : PySem.W.findIn K (.ref C) "__setattr__" = some (some (.builtin "object.__setattr__"))
  hd : PySem.W.hasDictIn K C = true
  iC : PySem.W.findIn K (.ref C) "__init__" = some (some (.ref fI))
  fI : PySem.W.isFn K (.ref fI) = true
  kC : PySem.W.keepIn K (.ref C) = true
section
variable {X : Cx} {pins : List (Addr × Obj)} {σ : L2.St} {H : Hp} {s : Shared} {a C fI dx : Addr} {f : Str} {y : V} {u : Value} {fs : List (Str × V)} {Q : Unit → Shared → Prop} {E : Value → Shared → Prop} {A : Around}
theorem put_first (T : InitC X.K C fI) (I : Inv X pins σ H s) (ea : H a = some (exo a C none)) (tn : PySem.W.takerIn X.K C f = some none) (ry : RelV y u)
    (h : ∀ d s', H d = none → d ≠ a → Inv X pins σ (upd (upd H d (exd d [(f, y)])) a (exo a C (some d))) s' → Q () s') : wpAny (model X.prog X.w) A (setAttr (.ref a) f u) Q E s := by
  obtain ⟨B, newId, initId, bmB, FB, SF, -, ov⟩ := T.how
  obtain ⟨tt, there⟩ := exo_at I.hok ea
  obtain ⟨hp, g, dr, t, os⟩ := s
  refine PySem.W.set_plain I.kIn (ox := { cls := .ref C, dict := none, data := .fields #[.ref tt, .none, .none, .none, .bool false, .none] }) (od := none) ⟨there, rfl, rfl, trivial⟩ T.sa ?_
  refine first_field SF I.kIn ov tn T.hd there fun h' tk' d keep dn dne hxa hns => ?_
  have fresh : H d = none := I.hok.fresh dn
  have old : ∀ {b : Addr} {o : Obj}, hp.get? b = some o → b ≠ d := fun {b o} q => Nat.ne_of_lt (Nat.lt_of_lt_of_le (Heap.lt_size q) dn)
  have apart : ∀ {b : Addr}, H b = none → b ≠ a := fun {b} n z => by
    subst z
    rw [ea] at n
    cases n
  refine h d ⟨h', g, dr, tk', os⟩ fresh dne (I.un (t' := tk') ?_ fun b o q => ?_)
  · exact {
      keep := fun b o q n _ _ => keep b o (apart n) q
      slot := fun b o q n _ _ => ⟨o.slots, keep b o (apart n) q⟩
      free := fun b o q n _ => (upd_ne (apart n)).trans ((upd_ne (old q)).trans n)
      there := fun b o q _ => by
        rcases Classical.em (b = a) with e | e
        · subst e
          exact ⟨_, hxa⟩
        · exact ⟨o, keep b o e q⟩
      tups := fun b xs q => (upd_ne (at_ne ea q exo_tup)).trans ((upd_ne (ne_of_none q fresh)).trans q)
      frzs := fun b o v q => (upd_ne (at_ne ea q exo_frz)).trans ((upd_ne (ne_of_none q fresh)).trans q)
      tbls := fun b ps q => ⟨#[], by rw [Array.append_empty]; exact (upd_ne (at_ne ea q exo_tbl)).trans ((upd_ne (ne_of_none q fresh)).trans q)⟩ }
  · rcases Classical.em (b = a) with e | e
    · subst e
      obtain rfl := Option.some.inj (upd_same.symm.trans q)
      exact exo_ok hxa
    · rw [upd_ne e] at q
      rcases Classical.em (b = d) with e2 | e2
      · subst e2
        obtain rfl := Option.some.inj (upd_same.symm.trans q)
        exact exd_ok hns (relO_put (fs := []) ry fun _ => True.intro)
      · rw [upd_ne e2] at q
        refine (I.hok b o q).stay (fun c v hc z => keep c v ?_ z) (fun c hc => (upd_ne (at_ne ea hc exo_own)).trans ((upd_ne (ne_of_none hc fresh)).trans hc)) fun c xs hc => (upd_ne (at_ne ea hc exo_tup)).trans ((upd_ne (ne_of_none hc fresh)).trans hc)
        rcases hc with hc | hc
        · rw [hc]; exact e
        · exact at_ne ea hc exo_own
theorem put_more (T : InitC X.K C fI) (I : Inv X pins σ H s) (ea : H a = some (exo a C (some dx))) (ed : H dx = some (exd dx fs)) (few : fs.length ≤ 900) (tn : PySem.W.takerIn X.K C f = some none) (ry : RelV y u)
    (h : ∀ s', Inv X pins σ (upd H dx (exd dx ((f, y) :: fs))) s' → Q () s') : wpAny (model X.prog X.w) A (setAttr (.ref a) f u) Q E s := by
  obtain ⟨B, newId, initId, bmB, FB, SF, -, ov⟩ := T.how
  obtain ⟨tt, there⟩ := exo_at I.hok ea
  obtain ⟨mA, hns, rel⟩ := exd_at I.hok ed
  have hw := within_of rel
  obtain ⟨hp, g, dr, t, os⟩ := s
  obtain ⟨oD, _, _, hoD, _, _⟩ := hns.count hw
  refine PySem.W.set_plain I.kIn (ox := { cls := .ref C, dict := some dx, data := .fields #[.ref tt, .none, .none, .none, .bool false, .none] }) (od := some oD) ⟨there, rfl, rfl, hoD⟩ T.sa ?_
  refine more_field SF I.kIn ov tn T.hd there hns hw (by rw [List.length_map]; omega) fun h' tk' keep hn => ?_
  have gone : ∃ o, h'.get? dx = some o := ⟨hn.choose, hn.choose_spec.choose_spec.choose_spec.1⟩
  exact h _ (I.write (t' := tk') (x := dx) (e := dx) (o := exd dx ((f, y) :: fs)) (by rw [ed]; exact True.intro) (.inl rfl) keep gone (exd_ok hn (relO_put ry rel)))
end
/-- self.f = e in such an __init__ -/
def tPut (K : Frag) (f : Str) (to te : TE) : TS := fun D σ H => te σ H fun y H1 => to σ H1 fun x H2 => ∃ a C fI : Addr, x = .ref a ∧ InitC K C fI ∧ PySem.W.takerIn K C f = some none ∧
  ((H2 a = some (exo a C none) ∧ ∀ d, H2 d = none → d ≠ a → D.nx σ (upd (upd H2 d (exd d [(f, y)])) a (exo a C (some d)))) ∨
    ∃ (d : Addr) (fs : List (Str × V)), H2 a = some (exo a C (some d)) ∧ H2 d = some (exd d fs) ∧ fs.length ≤ 900 ∧ D.nx σ (upd H2 d (exd d ((f, y) :: fs))))
section
variable {X : Cx} {o e : Expr} {to te : TE} {f : Str} {p' pos : Pos}
theorem ps_put (ho : PE X o to) (he : PE X e te) (hs : swapsWith e (some (.Attribute o f p')) pos.line X.env = pure false := by rfl) : PS X (.Assign [.Attribute o f p'] e pos) (tPut X.K f to te) := by
  refine ⟨fun pins s σ H D I h => ?_⟩
  refine plainObj_wpAny_Assign_Attribute (thn (he.run pins s σ H _ I h) fun v s1 ⟨y, H1, I1, r1, q1⟩ => thn (ho.run pins s1 σ H1 _ I1 q1) fun u s2 ⟨x, H2, I2, r2, hz⟩ => ?_) hs
  obtain ⟨a, C, fI, rfl, T, tn, q⟩ := hz
  cases (show u = Value.ref a from r2)
  rcases q with ⟨ea, q⟩ | ⟨d, fs, ea, ed, few, q⟩
  · exact put_first T I2 ea tn r1 fun d s' n ne J => ⟨σ, _, J, q d n ne⟩
  · exact put_more T I2 ea ed few tn r1 fun s' J => ⟨σ, _, J, q⟩
end
end XE

/-! C(e, ..) for such a class: as a value, and raised -/
namespace XE
open PySem PySem.Spec PyProof.Rows L2
open PySem.W (Frag)
section
variable {X : Cx} {CX : CXT} {pins : List (Addr × Obj)} {σ : L2.St} {H : Hp} {s : Shared} {C fI : Addr} {k : Nat} {fd : FuncData} {ps : List Str} {sp : Sp} {E : XK} {us : List Value} {vs : List V} {Q1 : VK}
/-- the call of the class: what its __init__ leaves -/
theorem run_new {Z : Value → Shared → Prop} (T : InitC X.K C fI) (F1 : FnOk X.prog X.w X.K X.mg X.base CX k fI fd ps sp) (hr : Room (k + 1) X.A) (hb : Binds X.K fd ps []) (hx : Passes CX X E)
    (I : Inv X pins σ H s) (r : Vals vs us) (few : us.length ≤ 1000)
    (h : H (s.heap.objs.size + 1) = none → sp (.ref (s.heap.objs.size + 1) :: vs) (upd H (s.heap.objs.size + 1) (exo (s.heap.objs.size + 1) C none)) Q1 E)
    (fin : ∀ u s' hp2, (∀ b o, s.heap.get? b = some o → hp2.get? b = some o) → CE X.stack X.prog X.w (upd H (s.heap.objs.size + 1) (exo (s.heap.objs.size + 1) C none)) { s with heap := hp2 } Q1 u s' →
      Inv X pins σ (upd H (s.heap.objs.size + 1) (exo (s.heap.objs.size + 1) C none)) { s with heap := hp2 } → u = .none ∧ Z (.ref (s.heap.objs.size + 1)) s') :
    wpAny (model X.prog X.w) X.A (call (.ref C) us) Z X.xe s := by
  obtain ⟨B, newId, initId, bmB, FB, -, ini, -⟩ := T.how
  obtain ⟨nm, N', qn, bs, bm, hdct, sn, sub, ab, col, dd, k0, k1, k2, k3, k5, hC, hT⟩ := PySem.W.excInit_of I.kIn ini
  obtain ⟨hp, g, dr, tk, os⟩ := s
  have next : hp.objs.size ≤ hp.objs.size + 1 := Nat.le_succ _
  have start := h (I.hok.fresh next)
  have grown : ∀ b o, hp.get? b = some o → ((hp.push (PySem.W.kdv_tup us)).push (PX.excO C hp.objs.size)).get? b = some o := fun b o e => Heap.get?_push_of_some _ (Heap.get?_push_of_some _ e)
  have laid : ((hp.push (PySem.W.kdv_tup us)).push (PX.excO C hp.objs.size)).get? (hp.objs.size + 1) = some (PX.excO C hp.objs.size) := by heap_get
  have J : Inv X pins σ (upd H (hp.objs.size + 1) (exo (hp.objs.size + 1) C none)) ⟨(hp.push (PySem.W.kdv_tup us)).push (PX.excO C hp.objs.size), g, dr, tk, os⟩ :=
    I.laid (t' := tk) (a := hp.objs.size + 1) grown next (exo_ok laid)
  have rr : Vals (V.ref (hp.objs.size + 1) :: vs) (Value.ref (hp.objs.size + 1) :: us) := .cons rfl r
  have many : (Value.ref (hp.objs.size + 1) :: us).length = ps.length := (rr.length.symm).trans (F1.len _ _ _ _ start)
  have bound := hb _ (Value.ref (hp.objs.size + 1) :: us) J.kIn (by rw [List.append_nil]; exact many)
  rw [List.append_nil] at bound
  have small : us.length ≤ sizeLine := Nat.le_trans few (by decide)
  have isf : PySem.W.typeIn X.K (.ref fI) = some (.type "function") := beq_iff_eq.mp T.fI
  refine wpAny_call (PX.call_own FB hT hC (PySem.W.looks_findIn I.kIn T.iC) (fun self => PySem.W.bind_fn I.kIn self isf) small
    (codeAny_mono (F1.run _ X.stack _ _ ⟨Value.ref (hp.objs.size + 1) :: us, []⟩ _ _ _ E (hr.make C us []) (J.env0.make C us []) bound rr start) fun r s' done => ?_))
  cases r with
  | error er => exact hx pins σ _ _ er s' J done
  | ok fl =>
    cases fl with
    | ret u => exact fin u s' _ grown done J
    | next => exact False.elim done
    | brk => exact False.elim done
    | cont => exact False.elim done
end
/-- C(e, ..) as a value -/
def tNew (C : Addr) (sp : Sp) (E : XK) (ta : TA) : TE := fun σ H Q => ta σ H fun vs H1 => vs.length ≤ 1000 ∧ ∀ a, H1 a = none → sp (.ref a :: vs) (upd H1 a (exo a C none)) (fun v H2 => v = .non ∧ Q (.ref a) H2) E
/-- C(e, ..) to be raised -/
def tNewX (C : Addr) (sp : Sp) (ta : TA) : L2.St → Hp → XK → Prop := fun σ H Q => ta σ H fun vs H1 => vs.length ≤ 1000 ∧ ∀ a, H1 a = none → sp (.ref a :: vs) (upd H1 a (exo a C none))
  (fun v H2 => v = .non ∧ ∃ (d : Addr) (fs : List (Str × V)), H2 a = some (exo a C (some d)) ∧ H2 d = some (exd d fs) ∧ H1 d = none ∧ Q (.ref C) (some d) (upd (del H2 a) d (.xd fs))) E0
section
variable {X : Cx} {CX : CXT} {C fI : Addr} {k : Nat} {fd : FuncData} {ps : List Str} {sp : Sp} {E : XK} {x : Str} {e : Expr} {es : List Expr} {p pos : Pos} {ta : TA}
theorem pe_new (T : InitC X.K C fI) (F1 : FnOk X.prog X.w X.K X.mg X.base CX k fI fd ps sp) (hr : Room (k + 1) X.A) (hb : Binds X.K fd ps []) (hx : Passes CX X E) (hg : Gl X x) (hm : X.mg x = some (.ref C)) (ha : PA X (e :: es) ta)
    (hdb : (x == ("__debug__" : Str)) = false := by decide) (he : starEach (e :: es) X.env = (false, eval e X.env) :: starEach es X.env := by rfl) (hpl : (backTo pos (starEach es X.env)).any (·.1) = false := by rfl) :
    PE X (.Call (.Name x p) (e :: es) [] pos) (tNew C sp E ta) := by
  refine ⟨fun pins s σ H Q I h => ?_⟩
  refine wpAny_Call_Name_kw (ld_glob I hg hm ?_ hdb)
  refine PySem.W.callWith_K (h₀ := X.base) I.ok.mod.kin T.kC (thn (ha.run pos pins s σ H _ I h) fun us s1 ⟨vs, H1, I1, r1, few, go⟩ => ⟨I1.kIn, ?_⟩) he hpl
  refine run_new T F1 hr hb hx I1 r1 (by rw [List.nil_append, ← r1.length]; exact few) (go _) fun u s' hp2 _ done J => ?_
  obtain ⟨v, H2, J2, rv, rfl, q⟩ := J.after done
  exact ⟨rv, .ref _, H2, J2, rfl, q⟩
theorem pmk_new (T : InitC X.K C fI) (R : Raises X (.ref C)) (F1 : FnOk X.prog X.w X.K X.mg X.base CX0 k fI fd ps sp) (hr : Room (k + 1) X.A) (hb : Binds X.K fd ps []) (hg : Gl X x) (hm : X.mg x = some (.ref C)) (ha : PA X (e :: es) ta)
    (hdb : (x == ("__debug__" : Str)) = false := by decide) (he : starEach (e :: es) X.env = (false, eval e X.env) :: starEach es X.env := by rfl) (hpl : (backTo pos (starEach es X.env)).any (·.1) = false := by rfl) :
    PMk X (.Call (.Name x p) (e :: es) [] pos) (tNewX C sp ta) := by
  intro pins s σ H Q I h
  refine wpAny_Call_Name_kw (ld_glob I hg hm ?_ hdb)
  refine PySem.W.callWith_K (h₀ := X.base) I.ok.mod.kin T.kC (thn (ha.run pos pins s σ H _ I h) fun us s1 ⟨vs, H1, I1, r1, few, go⟩ => ⟨I1.kIn, ?_⟩) he hpl
  refine run_new T F1 hr hb pass0 I1 r1 (by rw [List.nil_append, ← r1.length]; exact few) (go _) fun u s' hp2 grown done J => ?_
  obtain ⟨hp, g, dr, tk, os⟩ := s1
  obtain ⟨h2, g2, d2, t2, o2⟩ := s'
  obtain ⟨v, H2, os2, bare2, un2, hok2, rv, rfl, d, fs, ea, ed, hd1, q⟩ := done
  exact ⟨rv, mk_end R I1 (Nat.le_succ _) grown un2 hok2 os2 bare2 ea ed hd1 q⟩
end
end XE

/-! the first two that clash -/
namespace B73
open PySem PySem.Spec PyProof.Rows L2 XSt NX XB
open PySem.W (Frag)
def spClash : Sp := fun vs H Q _ => ∃ a b : Str, vs = [.str a, .str b] ∧ a.length ≤ 8000 ∧ b.length ≤ 8000 ∧ Q (.bl (meetB a b)) H
/-- the first two that clash, or None -/
def spFirst (K : Frag) : Sp := fun vs H Q _ => ∃ (p : Addr) (ks : List Str), vs = [.ref p] ∧ H p = some (.tup (ks.map V.str)) ∧ ks.length ≤ 4096 ∧ (∀ k ∈ ks, k.length ≤ 4096) ∧ ks.Nodup ∧
  (firstV ks = none → ∀ H', Ext H H' → Q .non H') ∧ (∀ a b r H', firstV ks = some (a, b) → H r = none → Ext H H' → H' r = some (.tup [.str a, .str b]) → Q (.ref r) H')
section
variable {P : Program} {w : World} {K : Frag} {mg : Str → Option Value} {base : Heap} {f fS fC fM : Addr} {fd dS dC dM : FuncData}
end
end B73

/-! books that are refused, whatever is given -/
namespace B73
open PySem PySem.Spec PyProof.Rows L2 XSt NX XB XE
open PySem.W (Frag)
def spInitC (K : Frag) (C : Addr) : Sp := fun vs H Q _ => ∃ (a fI : Addr) (v u : V), vs = [.ref a, v, u] ∧ InitC K C fI ∧ PySem.W.takerIn K C "one" = some none ∧ PySem.W.takerIn K C "other" = some none ∧ H a = some (exo a C none) ∧
  ∀ d H', H d = none → d ≠ a → (∀ b, b ≠ a → b ≠ d → H' b = H b) → H' a = some (exo a C (some d)) → H' d = some (exd d [("other", u), ("one", v)]) → Q .non H'
/-- the class Clash, what the text has of it -/
structure ClashK (P : Program) (w : World) (K : Frag) (mg : Str → Option Value) (base : Heap) (cC : Addr) : Prop where
  at_ : mg "Clash" = some (.ref cC)
  sub : PySem.W.subIn K (.ref cC) (.type "BaseException") = some true
  ty : PySem.W.typeIn K (.ref cC) = some (.type "type")
  t1 : PySem.W.takerIn K cC "one" = some none
  t2 : PySem.W.takerIn K cC "other" = some none
  f1 : PySem.W.findIn K (.ref cC) "one" = some none
  f2 : PySem.W.findIn K (.ref cC) "other" = some none
  xf : XfC K cC
  init : ∃ fI fd, InitC K cC fI ∧ FnOk P w K mg base CX0 1 fI fd ["self", "one", "other"] (spInitC K cC) ∧ Binds K fd ["self", "one", "other"] []
def clashF (u v : Str) : List (Str × V) := [("other", .str v), ("one", .str u)]
def spInitM (K : Frag) (C : Addr) : Sp := fun vs H Q _ => ∃ (a fI : Addr) (v : V), vs = [.ref a, v] ∧ InitC K C fI ∧ PySem.W.takerIn K C "limit" = some none ∧ H a = some (exo a C none) ∧
  ∀ d, H d = none → d ≠ a → Q .non (upd (upd H d (exd d [("limit", v)])) a (exo a C (some d)))
/-- the class TooMany, what the text has of it -/
structure ManyK (P : Program) (w : World) (K : Frag) (mg : Str → Option Value) (base : Heap) (cM : Addr) : Prop where
  at_ : mg "TooMany" = some (.ref cM)
  sub : PySem.W.subIn K (.ref cM) (.type "BaseException") = some true
  ty : PySem.W.typeIn K (.ref cM) = some (.type "type")
  t1 : PySem.W.takerIn K cM "limit" = some none
  f1 : PySem.W.findIn K (.ref cM) "limit" = some none
  xf : XfC K cM
  init : ∃ fI fd, InitC K cM fI ∧ FnOk P w K mg base CX0 1 fI fd ["self", "limit"] (spInitM K cM) ∧ Binds K fd ["self", "limit"] []
def manyF : List (Str × V) := [("limit", .int 400)]
def spInitY (K : Frag) (C cL cW cO cC cM : Addr) : Sp := fun vs H Q E => ∃ (b dx : Addr) (u v : V), vs = [.ref b, u, v] ∧ H b = some (.ins C dx []) ∧ Asked K H u ∧
  ((lettersV u = false ∧ ∀ H', Ext H H' → E (.ref cL) none H') ∨
   (lettersV u = true ∧ NoTuple K H v ∧ ∀ H', Ext H H' → E (.ref cO) none H') ∨
   ∃ x p zs, u = .str x ∧ lettersV u = true ∧ v = .ref p ∧ p ≠ b ∧ SqT K H p zs ∧ zs.length < 4096 ∧ (∀ z ∈ zs, Asked K H z) ∧
    (((∃ z ∈ zs, wordV x 400 z = false) ∧ ∀ H', Ext H H' → E (.ref cW) none H') ∨
     ∃ ys : List Str, zs = ys.map V.str ∧ (∀ y ∈ ys, wordV x 400 (.str y) = true) ∧ ys.length < 4096 ∧
      (400 < (ordT ys).length → ∀ d H', Ext H H' → H' d = some (.xd manyF) → E (.ref cM) (some d) H') ∧
      ((ordT ys).length ≤ 400 → firstV (ordT ys) = none → ∀ H', (∀ c o, c ≠ b → H c = some o → H' c = some o) → BookAt H' b C x (ordT ys) → Q .non H') ∧
      ((ordT ys).length ≤ 400 → ∀ u v, firstV (ordT ys) = some (u, v) → ∀ d H', (∀ c o, c ≠ b → H c = some o → H' c = some o) → H' d = some (.xd (clashF u v)) → E (.ref cC) (some d) H')))
section
variable {P : Program} {w : World} {K : Frag} {mg : Str → Option Value} {base : Heap} {f fO fC fW fI C cC cO cL cW cM : Addr} {fd dO dC dW dI : FuncData}
end
end B73

/-! numbers, texts and books that are refused -/
namespace B73
open PySem PySem.Spec PyProof.Rows L2 XSt NX XB XE
open PySem.W (Frag)
abbrev sNumC : Stmt := top 5
abbrev sInitN : Stmt := inClass sNumC 0
def spInitN (K : Frag) (C : Addr) : Sp := fun vs H Q _ => ∃ (a fI : Addr) (v : V), vs = [.ref a, v] ∧ InitC K C fI ∧ PySem.W.takerIn K C "value" = some none ∧ H a = some (exo a C none) ∧
  ∀ d, H d = none → d ≠ a → Q .non (upd (upd H d (exd d [("value", v)])) a (exo a C (some d)))
/-- the class InvalidNumber, what the text has of it -/
structure NumK (P : Program) (w : World) (K : Frag) (mg : Str → Option Value) (base : Heap) (cN : Addr) : Prop where
  at_ : mg "InvalidNumber" = some (.ref cN)
  sub : PySem.W.subIn K (.ref cN) (.type "BaseException") = some true
  ty : PySem.W.typeIn K (.ref cN) = some (.type "type")
  t1 : PySem.W.takerIn K cN "value" = some none
  f1 : PySem.W.findIn K (.ref cN) "value" = some none
  xf : XfC K cN
  init : ∃ fI fd, InitC K cN fI ∧ FnOk P w K mg base CX0 1 fI fd ["self", "value"] (spInitN K cN) ∧ Binds K fd ["self", "value"] []
def numF (v : V) : List (Str × V) := [("value", v)]
def numV (lo hi : Int) : V → Bool
  | .int i => longV (.int i) && (decide (lo ≤ i) && decide (i ≤ hi))
  | _ => false
def spCheckNumberX (K : Frag) (cN : Addr) : Sp := fun vs H Q E => ∃ (v : V) (lo hi : Int), vs = [v, .int lo, .int hi] ∧ Asked K H v ∧ (numV lo hi v = true → ∀ H', Ext H H' → Q .non H') ∧ (numV lo hi v = false → ∀ d H', Ext H H' → H' d = some (.xd (numF v)) → E (.ref cN) (some d) H')
section
variable {P : Program} {w : World} {K : Frag} {mg : Str → Option Value} {base : Heap} {f fL fS fI fT fR fO C : Addr} {fd dL dS dI dT dR dO : FuncData} {cL cT cO cN cB : Addr}
theorem scInitN : FnScope ["self", "value"] ["self", "value"] (defScope sInitN) := ⟨rfl, rfl, rfl, by decide +kernel, rfl, by decide +kernel, by decide +kernel⟩
theorem ok_initN (F : FnM K "__init__" "InvalidNumber.__init__" sInitN f fd) : FnOk P w K mg base CX0 1 f fd ["self", "value"] (spInitN K C) := by
  refine F.ok scInitN (fun vs H Q E h => ?_) (fun cdv A outer s H vs Q E hr h => ?_)
  · obtain ⟨a, fI, v, rfl, _⟩ := h
    rfl
  · obtain ⟨a, fI, v, rfl, T, tn, ha, q⟩ := h
    exact ⟨_, PSs.nox (pss_one (ps_put (pv 0) (pv 1))), _, rfl, _, rfl, a, C, fI, rfl, T, tn, .inl ⟨ha, q⟩⟩
theorem ok_check_numberX (F : FnP K "check_number" sCheckNumber f fd) (NN : NumK P w K mg base cN) (FI : FnOk P w K mg base CX0 1 fI dI ["value"] (spIsInteger K)) (gI : mg "is_integer" = some (.ref fI)) (kI : PySem.W.keepIn K (.ref fI) = true) (bI : Binds K dI ["value"] []) :
    FnOk P w K mg base (L2.CX P w) 3 f fd ["value", "low", "high"] (spCheckNumberX K cN) := by
  obtain ⟨fJ, dJ, TJ, FJ, bJ⟩ := NN.init
  refine F.ok scCheckNumber (fun vs H Q E h => ?_) (fun cdv A outer s H vs Q E hr h => ?_)
  · obtain ⟨v, lo, hi, rfl, _⟩ := h
    rfl
  · obtain ⟨v, lo, hi, rfl, ask, q1, q2⟩ := h
    refine ⟨_, (pss_one (ps_if (PW.pt (pw_or (pt_not (pt_val (pe_call FI (hr.mono (by decide)) (by rfl) gI kI bI .nil pass0 (pa_cons (pv 0) pa_nil)))) (pw_or1 (pt_not (pt_chain op_le op_le (pv 1) (pv 0) (pv 2)))))) (pss_one (ps_raise (W := fun cls d _ H => E cls d H) rfl (takes_of rfl rfl rfl rfl) (pmk_new TJ (raises_own NN.sub NN.ty) FJ (hr.mono (by decide)) bJ (by rfl) NN.at_ (pa_cons (pv 0) pa_nil)))) pss_nil)), ?_⟩
    have refuse : numV lo hi v = false → tNewX cN (spInitN K cN) (tCons (tVar 0) tNil) [some v, some (.int lo), some (.int hi)] H (fun cls d H => E cls d H) := fun bad => by
      refine ⟨_, rfl, by show 1 ≤ 1000; decide, fun e he => ⟨e, fJ, v, rfl, TJ, NN.t1, upd_same, fun dd hd1 hne => ⟨rfl, dd, _, upd_same, by rw [upd_ne hne]; exact upd_same, ?_, q2 bad dd _ (fun c o z => ?_) upd_same⟩⟩⟩
      · rw [upd_ne hne] at hd1
        exact hd1
      · have n1 := ne_of_none z he
        rw [upd_ne hne] at hd1
        have n2 := ne_of_none z hd1
        rw [upd_ne n2, del_ne n1, upd_ne n1, upd_ne n2, upd_ne n1]
        exact z
    refine ⟨_, rfl, _, rfl, ask, _, rfl, ?_⟩
    cases v with
    | int i =>
      have e : numV lo hi (.int i) = (longV (.int i) && (decide (lo ≤ i) && decide (i ≤ hi))) := rfl
      rw [e] at q1 refuse
      generalize longV (.int i) = g at q1 refuse ⊢
      cases g with
      | false => exact iteT (iteT (refuse rfl))
      | true =>
        refine iteF ⟨_, rfl, _, rfl, _, _, rfl, rfl, _, rfl, ?_⟩
        by_cases h1 : lo ≤ i
        · rw [decide_eq_true h1] at q1 refuse ⊢
          refine iteT ⟨_, rfl, _, _, rfl, rfl, _, rfl, ?_⟩
          by_cases h2 : i ≤ hi
          · rw [decide_eq_true h2] at q1 refuse ⊢
            exact iteF (q1 rfl _ (Ext.refl _))
          · rw [decide_eq_false h2] at q1 refuse ⊢
            exact iteT (refuse rfl)
        · rw [decide_eq_false h1] at q1 refuse ⊢
          exact iteF ⟨_, rfl, iteT (refuse rfl)⟩
    | bl b => exact iteT (iteT (refuse rfl))
    | str b => exact iteT (iteT (refuse rfl))
    | non => exact iteT (iteT (refuse rfl))
    | ref b => exact iteT (iteT (refuse rfl))
    | _ => exact ask.elim
end
end B73

/-! o[i] of an own class, which may be refused -/
namespace XB
open PySem PySem.Spec PyProof.Rows L2 PySem.Calls
section
variable {X : Cx} {CX : CXT} {pins : List (Addr × Obj)} {σ : L2.St} {H : Hp} {s : Shared} {a C dx f : Addr} {fs : List (Str × V)} {k : Nat} {fd : FuncData} {ps : List Str} {sp : Sp} {Ex : XK}
theorem run_ownX {A : Around} {Q : VK} {us : List Value} {vs : List V} (F : FnOk X.prog X.w X.K X.mg X.base CX k f fd ps sp) (hr : Room k A) (e0 : Env0 X.prog X.w X.K X.mg X.base A X.stack s H) (hb : Binds X.K fd ps []) (hx : Passes CX X Ex)
    (I : Inv X pins σ H s) (r : Vals vs us) (h : sp vs H Q Ex) : wpAny (model X.prog X.w) A (call (.ref f) us) (EP X pins σ Q) X.xe s := by
  have hl : us.length = ps.length := by rw [← r.length]; exact F.len _ _ _ _ h
  have bound := hb s us I.kIn (by simpa using hl)
  rw [List.append_nil] at bound
  refine wpAny_call (codeAny_mono (F.run A X.stack s H ⟨us, []⟩ us vs Q Ex hr e0 bound r h) fun r s' done => ?_)
  cases r with
  | error er => exact hx pins σ _ _ er s' I done
  | ok fl =>
    cases fl with
    | ret u => exact I.after done
    | next => exact False.elim done
    | brk => exact False.elim done
    | cont => exact False.elim done
def rIxOX (C : Addr) (sp : Sp) (Ex : XK) : R2 := fun x y H Q => ∃ a dx fs, x = .ref a ∧ H a = some (.ins C dx fs) ∧ sp [.ref a, y] H Q Ex
theorem pe_ixOX {e1 e2 : Expr} {ta tb : TE} {pos : Pos} (F : FnOk X.prog X.w X.K X.mg X.base CX k f fd ps sp) (hr : Room (k + 1) X.A) (O : Own X.K C "__getitem__" f) (hf : PySem.W.fnIn X.K f = true) (hb : Binds X.K fd ps []) (hx : Passes CX X Ex) (h1 : PE X e1 ta) (h2 : PE X e2 tb)
    (hsl : ∀ o i, subscripted e2 true o i = runValue (.builtin "lifetime.subscript" ⟨[o, i], []⟩) := by intro _ _; with_unfolding_all rfl) : PE X (.Subscript e1 e2 pos) (tOp (rIxOX C sp Ex) ta tb) := by
  refine ⟨fun pins s σ H Q I h => ?_⟩
  refine Subscript_ (binT h1 h2 I h fun v u s2 x y H2 I2 rx ry q => ?_)
  obtain ⟨a, dx, fs, rfl, ea, q⟩ := q
  obtain rfl : v = Value.ref a := rx
  obtain ⟨ox, od, J⟩ := ins_inst I2 ea
  obtain ⟨m, hF⟩ := I2.fr
  exact PySem.W.sub_K hF I2.ok.mod.kin J O.at_ hf O.fn (run_ownX F hr.in1 I2.env0.in1 hb hx I2 (.cons (rel_ref a) (.cons ry .nil)) q) (hsl _ _)
end
end XB

/-! texts and books that are refused; an index that is refused; whether a text can stand -/
namespace B73
open PySem PySem.Spec PyProof.Rows L2 XSt NX XB XE
open PySem.W (Frag)
abbrev sIsText : Stmt := top 13
abbrev sCheckText : Stmt := top 16
def textV (s : Str) (n : Nat) : V → Bool
  | .str y => decide (Txt.stripChars y s = ⟨#[]⟩) && decide (y.length ≤ n)
  | _ => false
def spIsTextX (K : Frag) (cL : Addr) : Sp := fun vs H Q E => ∃ u v, vs = [u, v] ∧ Asked K H u ∧ Asked K H v ∧ (lettersV u = false → ∀ H', Ext H H' → E (.ref cL) none H') ∧ (∀ x, u = .str x → lettersV u = true → ∀ H', Ext H H' → Q (.bl (textV x 4000 v)) H')
def spCheckTextX (K : Frag) (cT : Addr) : Sp := fun vs H Q E => ∃ x v, vs = [.str x, v] ∧ Asked K H (.str x) ∧ Asked K H v ∧ lettersV (.str x) = true ∧ (textV x 4000 v = true → ∀ H', Ext H H' → Q .non H') ∧ (textV x 4000 v = false → ∀ H', Ext H H' → E (.ref cT) none H')
def spCheckBookX (K : Frag) (C cB : Addr) : Sp := fun vs H Q E => ∃ v, vs = [v] ∧ ((NoBook K H v ∧ E (.ref cB) none H) ∨ ∃ b x ws, v = .ref b ∧ BookAt H b C x ws ∧ Q .non H)
def spAtX (K : Frag) (C cN : Addr) : Sp := fun vs H Q E => ∃ b x ws v, vs = [.ref b, v] ∧ BookAt H b C x ws ∧ ws.length ≤ 4096 ∧ Asked K H v ∧
  (numV 0 ((ws.length : Int) - 1) v = false → ∀ d H', Ext H H' → H' d = some (.xd (numF v)) → E (.ref cN) (some d) H') ∧ (∀ (i : Nat) k, v = .int (i : Int) → ws[i]? = some k → ∀ H', Ext H H' → Q (.str k) H')
/-- whether a text can stand beside words -/
def standB (ws : List Str) (y : Str) : Bool := !decide (y = Str.ofString "") && !ws.any fun k => meetB k y
def spCanStandX (K : Frag) (C cB cT : Addr) : Sp := fun vs H Q E => ∃ u v, vs = [u, v] ∧
  ((NoBook K H u ∧ E (.ref cB) none H) ∨ ∃ b x ws, u = .ref b ∧ BookAt H b C x ws ∧ ws.length ≤ 4096 ∧ (∀ k ∈ ws, k.length ≤ 400) ∧ Asked K H (.str x) ∧ Asked K H v ∧ lettersV (.str x) = true ∧
    (textV x 4000 v = false → ∀ H', Ext H H' → E (.ref cT) none H') ∧ (∀ y, v = .str y → textV x 4000 v = true → ∀ H', Ext H H' → Q (.bl (standB ws y)) H'))
section
variable {P : Program} {w : World} {K : Frag} {mg : Str → Option Value} {base : Heap} {f fL fS fI fT fR fO fN fB fM C : Addr} {fd dL dS dI dT dR dO dN dB dM gd : FuncData} {g cL cT cO cN cB : Addr}
theorem scIsText : FnScope ["letters", "value"] ["letters", "value"] (defScope sIsText) := ⟨rfl, rfl, rfl, by decide +kernel, rfl, by decide +kernel, by decide +kernel⟩
theorem scCheckText : FnScope ["letters", "text"] ["letters", "text"] (defScope sCheckText) := ⟨rfl, rfl, rfl, by decide +kernel, rfl, by decide +kernel, by decide +kernel⟩
theorem ok_is_textX (F : FnP K "is_text" sIsText f fd) (M : Free mg) (gM : ∃ t, mg "MAX_TEXT" = some (.int 4000 t)) (FL : FnOk P w K mg base (L2.CX P w) 2 fL dL ["letters"] (spCheckLettersX K cL)) (gL : mg "check_letters" = some (.ref fL)) (kL : PySem.W.keepIn K (.ref fL) = true) (bL : Binds K dL ["letters"] [])
    (FS : FnOk P w K mg base CX0 1 fS dS ["letters", "value"] (spIsSpelled K)) (gS : mg "_is_spelled" = some (.ref fS)) (kS : PySem.W.keepIn K (.ref fS) = true) (bS : Binds K dS ["letters", "value"] []) :
    FnOk P w K mg base (L2.CX P w) 3 f fd ["letters", "value"] (spIsTextX K cL) := by
  obtain ⟨tk, gM⟩ := gM
  refine F.ok scIsText (fun vs H Q E h => ?_) (fun cdv A outer s H vs Q E hr h => ?_)
  · obtain ⟨u, v, rfl, _⟩ := h
    rfl
  · obtain ⟨u, v, rfl, a1, a2, q1, q2⟩ := h
    refine ⟨_, pss_cons (ps_expr (pe_call FL hr (by rfl) gL kL bL .nil (passes_call (takes_of rfl rfl rfl rfl) (fun _ _ _ _ z => z)) (pa_cons (pv 0) pa_nil)))
      (pss_one (ps_ret (pe_and (pe_call FS (hr.mono (by decide)) (by rfl) gS kS bS .nil pass0 (pa_cons (pv 0) (pa_cons (pv 1) pa_nil))) (pe_one (pe_cmpR op_le (pe_callB call_len (by rfl) M.len PySem.boot_len (pa_cons (pv 1) pa_nil)) (pe_glob (v := .int 4000) (by rfl) gM ⟨tk, rfl⟩) (nomark _)))))), ?_⟩
    refine ⟨u, rfl, u, rfl, a1, fun c H' k => ?_, fun c H' k => q1 c H' k⟩
    obtain ⟨x, rfl⟩ := letters_txt c
    have q3 := q2 x rfl c H' k
    refine ⟨_, rfl, _, rfl, x, v, rfl, asked_ext k a2, _, rfl, ?_⟩
    cases v with
    | str y =>
      have hy : y.length ≤ 8000 := a2.1
      have hs : sizeLine = 16777216 := sizeLine_eq
      have e : textV x 4000 (.str y) = (spelledV x (.str y) && decide (y.length ≤ 4000)) := rfl
      rw [e] at q3
      generalize spelledV x (.str y) = g at q3 ⊢
      cases g with
      | false => exact iteF q3
      | true =>
        refine iteT ⟨.str y, rfl, _, y.length, rfl, ⟨by omega, rfl⟩, _, _, rfl, rfl, ?_⟩
        have e2 : decide ((y.length : Int) ≤ 4000) = decide (y.length ≤ 4000) := by
          by_cases z : y.length ≤ 4000
          · rw [decide_eq_true z, decide_eq_true (by omega)]
          · rw [decide_eq_false z, decide_eq_false (by omega)]
        show Q (.bl (decide ((y.length : Int) ≤ 4000))) H'
        rw [e2]
        exact q3
    | int i => exact iteF q3
    | bl b => exact iteF q3
    | non => exact iteF q3
    | ref a => exact iteF q3
    | _ => exact a2.elim

theorem ok_check_textX (F : FnP K "check_text" sCheckText f fd) (RT : Plain K mg "InvalidText" cT) (FT : FnOk P w K mg base (L2.CX P w) 3 fT dT ["letters", "value"] (spIsTextX K cL)) (gT : mg "is_text" = some (.ref fT)) (kT : PySem.W.keepIn K (.ref fT) = true) (bT : Binds K dT ["letters", "value"] []) :
    FnOk P w K mg base (L2.CX P w) 4 f fd ["letters", "text"] (spCheckTextX K cT) := by
  refine F.ok scCheckText (fun vs H Q E h => ?_) (fun cdv A outer s H vs Q E hr h => ?_)
  · obtain ⟨x, v, rfl, _⟩ := h
    rfl
  · obtain ⟨x, v, rfl, a1, a2, c, q1, q2⟩ := h
    refine ⟨_, pss_one (ps_if (pt_not (pt_val (pe_call FT hr (by rfl) gT kT bT .nil (passes_call (takes_of rfl rfl rfl rfl) (fun _ _ _ _ z => z)) (pa_cons (pv 0) (pa_cons (pv 1) pa_nil)))))
      (pss_one (ps_raise rfl (takes_of rfl rfl rfl rfl) (pmk_own PySem.F.excBase_ValueError RT.exc RT.at_ RT.keep (raises_own RT.sub RT.ty) (by exact rfl)))) pss_nil), ?_⟩
    refine ⟨_, rfl, _, rfl, .str x, v, rfl, a1, a2, fun z => (by rw [c] at z; cases z), fun y ey _ H' k => ⟨_, rfl, ?_⟩⟩
    injection ey with ey
    subst ey
    cases g : textV x 4000 v with
    | true => exact iteF (q1 g H' k)
    | false => exact iteT (q2 g H' k)

def spInOrder (K : Frag) (cL cT cO : Addr) : Sp := fun vs H Q E => ∃ u v, vs = [u, v] ∧ Asked K H u ∧
  ((lettersV u = false ∧ ∀ H', Ext H H' → E (.ref cL) none H') ∨
   (lettersV u = true ∧ NoTuple K H v ∧ ∀ H', Ext H H' → E (.ref cO) none H') ∨
   ∃ x p zs, u = .str x ∧ lettersV u = true ∧ v = .ref p ∧ SqT K H p zs ∧ (∀ z ∈ zs, Asked K H z) ∧
    (((∃ z ∈ zs, textV x 4000 z = false) ∧ ∀ H', Ext H H' → E (.ref cT) none H') ∨
     ∃ ys : List Str, zs = ys.map V.str ∧ (∀ y ∈ ys, textV x 4000 (.str y) = true) ∧ ys.length < 4096 ∧ ∀ q H', H q = none → Ext H H' → H' q = some (.tup ((ordT ys).map V.str)) → Q (.ref q) H'))
end
end B73

/-! try: body, then clauses of any kind: one class or a tuple of classes, with a name or without -/
namespace XE
open PySem PySem.Spec PyProof.Rows L2
open PySem.W (Frag)
/-! ### except (C1, C2, ..) -/
theorem loop_pass {M : Model} {A : Around} {E : Value → Shared → Prop} {s : Shared} {f : Value → PUnit → Sem (ForInStep PUnit)} : ∀ (cs : List Value), (∀ c ∈ cs, ∀ Q : ForInStep PUnit → Shared → Prop, Q (.yield PUnit.unit) s → wpAny M A (f c PUnit.unit) Q E s) →
    ∀ {Q : PUnit → Shared → Prop}, Q PUnit.unit s → wpAny M A (forIn cs PUnit.unit f) Q E s
  | [], _, _, q => by
    rw [List.forIn_nil]
    exact wpAny_pure q
  | c :: cs, h, _, q => by
    rw [List.forIn_cons]
    exact wpAny_bind (h c List.mem_cons_self _ (loop_pass cs (fun c' hc => h c' (List.mem_cons_of_mem _ hc)) q))
theorem loop_find {M : Model} {A : Around} {E : Value → Shared → Prop} {s : Shared} {t : Value → Bool} {f : Value → (Option Bool × Unit) → Sem (ForInStep (Option Bool × Unit))} : ∀ (cs : List Value),
    (∀ c ∈ cs, ∀ Q : ForInStep (Option Bool × Unit) → Shared → Prop, Q (if t c = true then .done (some true, ()) else .yield (none, ())) s → wpAny M A (f c (none, ())) Q E s) →
    ∀ {Q : (Option Bool × Unit) → Shared → Prop}, Q (if cs.any t = true then (some true, ()) else (none, ())) s → wpAny M A (forIn cs ((none, ()) : Option Bool × Unit) f) Q E s
  | [], _, _, q => by
    rw [List.forIn_nil]
    exact wpAny_pure q
  | c :: cs, h, _, q => by
    rw [List.forIn_cons]
    refine wpAny_bind (h c List.mem_cons_self _ ?_)
    rw [List.any_cons] at q
    cases e : t c with
    | true =>
      rw [e, Bool.true_or, if_pos rfl] at q
      rw [if_pos rfl]
      exact wpAny_pure q
    | false =>
      rw [e, Bool.false_or] at q
      rw [if_neg Bool.false_ne_true]
      exact loop_find cs (fun c' hc => h c' (List.mem_cons_of_mem _ hc)) q
theorem any_is {K : Frag} {cls : Value} : ∀ (cs : List Value) (b : Bool), PySem.W.exmAny K cls cs = some b → (cs.any fun c => PySem.W.exmOne K cls c == some true) = b ∧ ∀ c ∈ cs, PySem.W.exmOne K cls c = some (PySem.W.exmOne K cls c == some true)
  | [], b, h => ⟨Option.some.inj h, fun _ z => nomatch z⟩
  | c :: cs, b, h => by
    obtain ⟨b1, d1, h1, h2, rfl⟩ := PySem.W.exmAny_cons h
    obtain ⟨i1, i2⟩ := any_is cs d1 h2
    have e1 : (PySem.W.exmOne K cls c == some true) = b1 := by rw [h1]; cases b1 <;> rfl
    refine ⟨by rw [List.any_cons, i1, e1], fun c' hc => ?_⟩
    rcases List.mem_cons.mp hc with rfl | hc
    · rw [e1]; exact h1
    · exact i2 c' hc
theorem tup_matches {M : Model} {K : Frag} {h : Heap} {cls : Value} {e tp : Addr} {n : Nat} (KI : K.In h) (LT : PySem.W.Looks M h (typeOf (.ref e)) cls) :
    ∀ (cs : List Value) (b : Bool), h.get? tp = some { cls := .type "tuple", data := .seq cs.toArray n } → PySem.W.exmAny K cls cs = some b → PySem.W.Looks M h (excMatches (.ref e) (.ref tp)) b := by
  intro cs b htp ok A Q E s k q
  obtain ⟨hh, g, d, tk, os⟩ := s
  obtain ⟨eb, each⟩ := any_is cs b ok
  have isT : PySem.W.Looks M h (isInstance (.ref tp) (.type "tuple")) true := ((PySem.W.Looks.ld htp).andThen .now).andThen (PySem.W.Looks.of_pure isSubtype_tuple_tuple)
  unfold excMatches
  refine wpAny_bind ((isT.keeps k).at ?_)
  dsimp only
  rw [if_pos rfl]
  first
    | refine wpAny_bind (wpAny_seqItems (k _ _ htp) rfl (wpAny_bind (wpAny_pure ?_)))
    | refine wpAny_bind (wpAny_bind (wpAny_seqItems (k _ _ htp) rfl (wpAny_pure ?_)))
  dsimp only [Option.getD_some, Option.getD]
  refine wpAny_bind (loop_pass cs (fun c hc Q1 q1 => ?_) ?_)
  · obtain ⟨x1, _⟩ := PySem.W.exm_cls (M := M) KI (each c hc)
    refine wpAny_bind ((x1.keeps k).at ?_)
    exact wpAny_pure q1
  · refine wpAny_bind ((LT.keeps k).at (wpAny_bind (loop_find (t := fun c => PySem.W.exmOne K cls c == some true) cs (fun c hc Q1 q1 => ?_) ?_)))
    · obtain ⟨_, x2⟩ := PySem.W.exm_cls (M := M) KI (each c hc)
      refine wpAny_bind ((x2.keeps k).at ?_)
      cases e : (PySem.W.exmOne K cls c == some true) with
      | true =>
        simp only [e, if_true] at q1 ⊢
        exact wpAny_pure q1
      | false =>
        simp only [e] at q1 ⊢
        exact wpAny_pure q1
    · rw [eb]
      cases b with
      | true => exact wpAny_pure q
      | false => exact wpAny_pure q
/-! ### the clauses' tests -/
/-- the test of a clause names these classes, whatever exception is handled; it makes nothing but, perhaps, a tuple -/
def Tests (X : Cx) (t : Expr) (cs : List Value) : Prop := ∀ (a : Addr) (oe : Obj) (pn : List (Addr × Obj)) (σ : L2.St) (H : Hp) (s : Shared) (cls : Value) (b : Bool), Inv (X.suite a ((a, oe) :: pn)) [] σ H s → s.heap.get? a = some oe → oe.cls = cls → PySem.W.exmAny X.K cls cs = some b →
  ∀ {Q : Value → Shared → Prop} {E : Value → Shared → Prop}, (∀ h' t' c, (∀ b o, s.heap.get? b = some o → h'.get? b = some o) → PySem.W.Looks (model X.prog X.w) h' (excMatches (.ref a) c) b → Q c { s with heap := h', toks := t' }) →
    wpAny (model X.prog X.w) (X.A.mark (some (.ref a))) (eval t X.env) Q E s
section
variable {X : Cx}
theorem cls_looks {M : Model} {h : Heap} {a : Addr} {oe : Obj} {cls : Value} (he : h.get? a = some oe) (hc : oe.cls = cls) : PySem.W.Looks M h (typeOf (.ref a)) cls := fun A Q E s k q => wpAny_typeOf_ref (k _ _ he) (by rw [hc]; exact q)
/-- a class's name, looked up in an except clause -/
theorem name_eval {x : Str} {c : Value} {np : Pos} {a : Addr} {oe : Obj} {pn : List (Addr × Obj)} {σ : L2.St} {H : Hp} {s : Shared} (hc : Names X x c) (I : Inv (X.suite a ((a, oe) :: pn)) [] σ H s) {Q : Value → Shared → Prop} {E : Value → Shared → Prop} (q : Q c s) :
    wpAny (model X.prog X.w) (X.A.mark (some (.ref a))) (eval (.Name x np) X.env) Q E s := by
  obtain ⟨hg, hdbg, hm | ⟨hm, hv, hnn⟩⟩ := hc
  · exact ld_glob (X := X.suite a ((a, oe) :: pn)) I hg hm q hdbg
  · exact ld_blt (X := X.suite a ((a, oe) :: pn)) I hg hm hv q hnn hdbg
theorem tests_name {x : Str} {c : Value} {np : Pos} (hc : Names X x c) : Tests X (.Name x np) [c] := by
  intro a oe pn σ H s cls b I he hcl ok Q E q
  obtain ⟨b1, d1, h1, h2, rfl⟩ := PySem.W.exmAny_cons ok
  obtain rfl : false = d1 := Option.some.inj h2
  refine name_eval hc I ?_
  rw [Bool.or_false] at q
  exact q s.heap s.toks c (fun _ _ z => z) (PySem.W.exm_one I.kIn (cls_looks he hcl) h1)
/-- the names of a tuple of classes -/
inductive NamesAll (X : Cx) : List Expr → List Value → Prop
  | nil : NamesAll X [] []
  | cons {x : Str} {c : Value} {np : Pos} {es : List Expr} {cs : List Value} (h : Names X x c) (r : NamesAll X es cs) : NamesAll X (.Name x np :: es) (c :: cs)
theorem names_eval {pos : Pos} {a : Addr} {oe : Obj} {pn : List (Addr × Obj)} {σ : L2.St} {H : Hp} {s : Shared} (I : Inv (X.suite a ((a, oe) :: pn)) [] σ H s) {es : List Expr} {cs : List Value} (h : NamesAll X es cs) :
    ∀ {Q : List Value → Shared → Prop} {E : Value → Shared → Prop}, Q cs s → wpAny (model X.prog X.w) (X.A.mark (some (.ref a))) (spliced (backTo pos (starEach es X.env))) Q E s := by
  induction h with
  | nil => exact fun q => wpAny_items_nil q
  | cons h r ih => exact fun q => wpAny_items_cons (name_eval h I (ih q))
theorem tests_tuple {es : List Expr} {cs : List Value} {k : Nat} {np : Pos} (hc : NamesAll X es cs) (few : cs.length ≤ 100) : Tests X (.Tuple es k np) cs := by
  intro a oe pn σ H s cls b I he hcl ok Q E q
  refine wpAny_Tuple (names_eval I hc ⟨Nat.le_trans few (by decide), ?_⟩)
  have grown : ∀ b o, s.heap.get? b = some o → (s.heap.push { cls := .type "tuple", data := .seq cs.toArray }).get? b = some o := fun _ _ z => Heap.get?_push_of_some _ z
  exact q _ s.toks _ grown (tup_matches (PySem.W.Frag.In.keeps I.kIn grown) (cls_looks (grown _ _ he) hcl) cs b (Heap.get?_push_size s.heap rfl) ok)
end
/-! ### the statement -/
/-- a clause: its classes, the slot of its name, its suite -/
structure Cl where
  cs : List Value
  slot : Option Nat
  ts : Addr → Value → Option Addr → TS
/-- the name of a clause is gone behind its suite -/
def wipeE (D : Ends) (i : Nat) : Ends := { nx := fun σ' H' => D.nx (σ'.set i none) H', rt := D.rt, bk := fun σ' H' => D.bk (σ'.set i none) H', ct := fun σ' H' => D.ct (σ'.set i none) H' }
def enters (D : Ends) (c : Cl) (cls : Value) (d : Option Addr) (a : Addr) (σ : L2.St) (H : Hp) : Prop := match c.slot with
  | none => c.ts a cls d D σ H
  | some i => c.ts a cls d (wipeE D i) (σ.set i (some (.ref a))) H
def wAll (K : Frag) (Wout : WX) (D : Ends) : List Cl → WX
  | [] => Wout
  | c :: r => fun cls d σ H => ∃ b, PySem.W.exmAny K cls c.cs = some b ∧ (b = true → ∀ a, H a = none → enters D c cls d a σ H) ∧ (b = false → wAll K Wout D r cls d σ H)
inductive Hds (X : Cx) : List ExceptHandler → List Cl → Prop
  | nil : Hds X [] []
  | plain {t : Expr} {cs : List Value} {ts : Addr → Value → Option Addr → TS} {b₀ : Stmt} {suite : List Stmt} {hp : Pos} {hds : List ExceptHandler} {l : List Cl} (ht : Tests X t cs)
      (hsu : ∀ (a : Addr) (oe : Obj) (cls : Value) (d : Option Addr) (pn : List (Addr × Obj)), Zc cls d oe → (∃ vs, oe.data = .fields vs) → PSs (X.suite a ((a, oe) :: pn)) (b₀ :: suite) (ts a cls d)) (r : Hds X hds l) :
      Hds X (.ExceptHandler (some t) none (b₀ :: suite) hp :: hds) (⟨cs, none, ts⟩ :: l)
  | named {t : Expr} {n : Str} {i : Nat} {cs : List Value} {ts : Addr → Value → Option Addr → TS} {b₀ : Stmt} {suite : List Stmt} {hp : Pos} {hds : List ExceptHandler} {l : List Cl} (ht : Tests X t cs) (hi : X.N[i]? = some n) (hln : X.env.kindOf n = some .local)
      (hsu : ∀ (a : Addr) (oe : Obj) (cls : Value) (d : Option Addr) (pn : List (Addr × Obj)), Zc cls d oe → (∃ vs, oe.data = .fields vs) → PSs (X.suite a ((a, oe) :: pn)) (b₀ :: suite) (ts a cls d)) (r : Hds X hds l) :
      Hds X (.ExceptHandler (some t) (some n) (b₀ :: suite) hp :: hds) (⟨cs, some i, ts⟩ :: l)
theorem flying_grown {base h h' : Heap} {l : List Env} {e : Addr} {Z : Obj → Prop} (fl : PySem.HandSPX.FlyingZ base l e Z h) (k : ∀ b o, h.get? b = some o → h'.get? b = some o) : PySem.HandSPX.FlyingZ base l e Z h' := by
  obtain ⟨k1, k2, k3, oe, vs, T, oT, ts, h1, h2, h3, h4, h5, h6, h7, h8, h9⟩ := fl
  exact ⟨fun b o z => k b o (k1 b o z), k2, k3.of_keeps fun b o z _ => ⟨o, k b o z, rfl⟩, oe, vs, T, oT, ts, k _ _ h1, h2, h3, h4, h5, h6, k _ _ h7, h8, h9⟩
section
variable {X : Cx} {body : List Stmt} {h₀ : ExceptHandler} {hds : List ExceptHandler} {l : List Cl} {pos : Pos} {tb : WX → TS} {Wout : WX}
theorem ps_try_all (hs : X.stack = X.env :: X.outer) (hf : X.env.frame = some X.env.locals) (hN : X.N.Nodup) (tk : Takes X Wout)
    (hb : ∀ (W : WX) (pn : List (Addr × Obj)) (xe : Value → Shared → Prop), Takes (X.tr pn xe) W → PassesOwn (model X.prog X.w) X.A X.env xe → PSs (X.tr pn xe) body (tb W))
    (hh : Hds X (h₀ :: hds) l) : PS X (.Try body (h₀ :: hds) [] [] pos) (fun D σ H => tb (wAll X.K Wout D l) D σ H) := by
  refine ⟨fun pins s σ H D I h => ?_⟩
  have ok := I.ok
  have frames : X.A.frames = some (X.env :: X.outer) := ok.frames.trans (congrArg some hs)
  refine wpAny_Try_except (wpAny_mono ((hb (wAll X.K Wout D l) (X.pn ++ pins) _ (fun u s' xx => ?_) PassesOwn.looking).run [] s σ H D (I.toTry _) h) (fun f s1 out => ?_) fun _ _ z => z)
  · obtain ⟨a, B, sI, pins', σ', H', cls, d, rfl, J', nb, up, sky, na, os, ag, w⟩ := xx
    have J : Inv X pins σ' H' sI := J'.ofTry ok
    rw [hs] at sky
    refine Sky.land Zc.steady frames hf sky fun h3 fl3 up3 => ?_
    obtain ⟨oe3, vs3, he3, hz3, hd3⟩ := fl3.there
    have nofr : a ∉ frs (X.env :: X.outer) := fun hm => by
      obtain ⟨_, o', e', hnf⟩ := fl3.2.2.1.mem hm
      obtain rfl := Option.some.inj (he3.symm.trans e')
      exact hnf _ hd3
    have nL : a ≠ X.env.locals := fun z => nofr (List.mem_filterMap.mpr ⟨X.env, List.mem_cons_self, by rw [hf, z]⟩)
    have nF : a ∉ X.fs := fun hm => by
      obtain ⟨e, he, q⟩ := List.mem_filterMap.mp hm
      exact nofr (List.mem_filterMap.mpr ⟨e, List.mem_cons_of_mem _ he, q⟩)
    have go : ∀ {hds' : List ExceptHandler} {l' : List Cl}, Hds X hds' l' → ∀ (h4 : Heap) (t4 : Nat), PySem.HandSPX.FlyingZ B (X.env :: X.outer) a (Zc cls d) h4 → sI.heap.UpToSlots h4 → wAll X.K Wout D l' cls d σ' H' →
        wpAny (model X.prog X.w) X.A (handleBy (.ref a) X.env hds') (SP X pins D) X.xe { s' with heap := h4, toks := t4 } := by
      intro hds' l' hk
      induction hk with
      | nil =>
        intro h4 t4 fl4 up4 w
        refine wpAny_handleBy_nil ?_
        obtain ⟨k1, k2, k3, oe, vs, T, oT, ts', he, hz, hd, h1, hr⟩ := id fl4
        have J4 : Inv X pins σ' H' { s' with heap := h4, toks := t4 } := J.landed nb fl4.1 up4 os ag
        unfold PySem.passOn
        refine wpAny_bind (wpAny_field he hd h1 ?_)
        rw [if_neg (show ¬ ((Value.ref T == Value.none) = true) from by simp)]
        have last : wpAny (model X.prog X.w) X.A (setFlight (.ref a) X.env.frame) (fun _ s5 => wpAny (model X.prog X.w) X.A (throw (.ref a) : Sem Flow) (SP X pins D) X.xe s5) X.xe { s' with heap := h4, toks := t4 } := by
          rw [hf]
          refine PySem.HandSPX.setFlight_upZ fl4 fun h5 hh5 up5 => wpAny_throw (tk _ _ ?_)
          exact ⟨a, B, sI, pins, σ', H', cls, d, rfl, J, nb, up4.trans up5, .inr (.inr (by rw [hs]; exact hh5)), na, os, ag, w⟩
        first
          | exact wpAny_bind (wpAny_pure (wpAny_bind last))
          | exact wpAny_bind last
      | @plain t cs ts b₀ suite hp hds2 l2 ht hsu r ih =>
        intro h4 t4 fl4 up4 ⟨b, hb1, hyes, hno⟩
        have J4 : Inv X pins σ' H' { s' with heap := h4, toks := t4 } := J.landed nb fl4.1 up4 os ag
        obtain ⟨oe4, vs4, he4, hz4, hd4⟩ := fl4.there
        refine wpAny_handleBy_cons (codeAny_handlers_test ?_) (by intro q; cases q)
        refine ht a oe4 _ σ' H' _ cls b (J4.suite he4 hd4 na nL nF) he4 hz4.1 hb1 fun h5 t5 c k5 LM => LM.here ?_
        have fl5 := flying_grown fl4 k5
        have up5 := up4.trans (Heap.UpToSlots.of_keeps k5)
        cases b with
        | true =>
          refine codeAny_handlers_suite ?_
          refine PySem.HandSPX.lands_againZ fl5 fun h6 fl6 up6 => ?_
          have J6 : Inv X pins σ' H' { s' with heap := h6, toks := t5 } := J.landed nb fl6.1 (up5.trans up6) os ag
          obtain ⟨oe6, vs6, he6, hz6, hd6⟩ := fl6.there
          refine wpAny_mono ((hsu a oe6 cls d (X.pn ++ pins) hz6 ⟨_, hd6⟩).run [] _ _ H' _ (J6.suite he6 hd6 na nL nF) (hyes rfl a na)) (fun f s7 out => ?_) (fun _ _ z => False.elim z)
          cases f with
          | next => exact out.elim fun σ7 z => z.elim fun H7 z => ⟨σ7, H7, z.1.unsuite ok, z.2⟩
          | brk => exact out.elim fun σ7 z => z.elim fun H7 z => ⟨σ7, H7, z.1.unsuite ok, z.2⟩
          | cont => exact out.elim fun σ7 z => z.elim fun H7 z => ⟨σ7, H7, z.1.unsuite ok, z.2⟩
          | ret u =>
            obtain ⟨v7, σ7, H7, S7, r7, q7⟩ := out
            exact ⟨v7, σ7, H7, S7.unsuite ok, r7, q7⟩
        | false => exact ih h5 t5 fl5 up5 (hno rfl)
      | @named t n i cs ts b₀ suite hp hds2 l2 ht hi hln hsu r ih =>
        intro h4 t4 fl4 up4 ⟨b, hb1, hyes, hno⟩
        have J4 : Inv X pins σ' H' { s' with heap := h4, toks := t4 } := J.landed nb fl4.1 up4 os ag
        obtain ⟨oe4, vs4, he4, hz4, hd4⟩ := fl4.there
        refine wpAny_handleBy_cons (codeAny_handlers_test ?_) (by intro q; cases q)
        refine ht a oe4 _ σ' H' _ cls b (J4.suite he4 hd4 na nL nF) he4 hz4.1 hb1 fun h5 t5 c k5 LM => LM.here ?_
        have fl5 := flying_grown fl4 k5
        have up5 := up4.trans (Heap.UpToSlots.of_keeps k5)
        cases b with
        | true =>
          refine codeAny_handlers_suite_as ?_
          refine PySem.HandSPX.lands_againZ fl5 fun h6 fl6 up6 => ?_
          have J6 : Inv X pins σ' H' { s' with heap := h6, toks := t5 } := J.landed nb fl6.1 (up5.trans up6) os ag
          obtain ⟨oe6, vs6, he6, hz6, hd6⟩ := fl6.there
          refine store_ok (X := X.suite a ((a, oe6) :: (X.pn ++ pins))) (v := .ref a) (J6.suite he6 hd6 na nL nF) hN hi (.inl hln) rfl (fun s7 S7 => ?_) (.inr hln)
          refine wpAny_mono ((hsu a oe6 cls d (X.pn ++ pins) hz6 ⟨_, hd6⟩).run [] s7 _ H' _ S7 (hyes rfl a na)) (fun f s8 out => ?_) (fun _ _ z => False.elim z)
          cases f with
          | next => exact out.elim fun σ8 z => z.elim fun H8 z => gone_ok (z.1.unsuite ok) hN hi hln fun s9 J9 => ⟨_, H8, J9, z.2⟩
          | brk => exact out.elim fun σ8 z => z.elim fun H8 z => gone_ok (z.1.unsuite ok) hN hi hln fun s9 J9 => ⟨_, H8, J9, z.2⟩
          | cont => exact out.elim fun σ8 z => z.elim fun H8 z => gone_ok (z.1.unsuite ok) hN hi hln fun s9 J9 => ⟨_, H8, J9, z.2⟩
          | ret u =>
            obtain ⟨v8, σ8, H8, S8, r8, q8⟩ := out
            exact gone_ok (S8.unsuite ok) hN hi hln fun s9 J9 => ⟨v8, _, H8, J9, r8, q8⟩
        | false => exact ih h5 t5 fl5 up5 (hno rfl)
    exact go hh h3 s'.toks fl3 (up.trans up3) w
  · cases f with
    | next => exact out.elim fun σ' z => z.elim fun H' z => wpAny_execs_nil ⟨σ', H', z.1.ofTry ok, z.2⟩
    | brk => exact out.elim fun σ' z => z.elim fun H' z => ⟨σ', H', z.1.ofTry ok, z.2⟩
    | cont => exact out.elim fun σ' z => z.elim fun H' z => ⟨σ', H', z.1.ofTry ok, z.2⟩
    | ret u =>
      obtain ⟨v, σ', H', J', r, q⟩ := out
      exact ⟨v, σ', H', J'.ofTry ok, r, q⟩
end
end XE

/-! defs that may ask for a repr: called where no repr is under way -/
namespace XE
open PySem PySem.Spec PyProof.Rows L2
open PySem.W (Frag)
/-- FnOk, where no repr is under way -/
structure FnG (P : Program) (w : World) (K : Frag) (mg : Str → Option Value) (base : Heap) (CX : CXT) (k : Nat) (f : Addr) (fd : FuncData) (ps : List Str) (sp : Sp) : Prop where
  len : ∀ vs H Q E, sp vs H Q E → vs.length = ps.length
  run : ∀ (A : Around) (outer : List Env) (s : Shared) (H : Hp) (args : Args) (us : List Value) (vs : List V) (Q : VK) (E : XK), A.guards = some [] → Room k A → Env0 P w K mg base A outer s H → BindsTo s fd args (ps.zip us) → Vals vs us → sp vs H Q E →
    codeAny (model P w) A (.call (.ref f) args) (CR CX outer P w H s Q E) s
theorem guards_deeper {A : Around} {env : Env} (h : A.guards = some []) : (A.deeper env).guards = some [] := by
  first
    | exact h
    | (show (pushGuards _ _) = _; rw [h]; rfl)
section
variable {P : Program} {w : World} {K : Frag} {mg : Str → Option Value} {base : Heap} {x qual : Str} {params : Arguments} {body : List Stmt} {scope : Scope} {dvs : List V} {kws : List (Str × V)} {f : Addr} {fd : FuncData}
theorem fnG {CX : CXT} {N ps : List Str} {k : Nat} {sp : Sp} (F : FunD K x qual params body scope dvs kws f fd) (S : FnScope N ps scope) (len : ∀ vs H Q E, sp vs H Q E → vs.length = ps.length)
    (hbody : ∀ (cdv : Value) (A : Around) (outer : List Env) (s : Shared) (H : Hp) (vs : List V) (Q : VK) (E : XK), (A.deeper (envOfC qual scope s.heap.objs.size f cdv)).guards = some [] → Room k (A.deeper (envOfC qual scope s.heap.objs.size f cdv)) → sp vs H Q E →
      ∃ t, PSs (cxOf CX P w K mg base N qual scope f cdv A outer s H E) body t ∧ t { nx := fun _ H' => Q .non H', rt := Q } (start N vs) H) : FnG P w K mg base CX (k + 1) f fd ps sp := by
  obtain ⟨oc, od, dV, kV, doc, pm, an, cdv, ct, osl, rfl, lk, hcd, _, _⟩ := F.ex
  refine ⟨len, fun A outer s H args us vs Q E hg hr e0 hb r hsp => ?_⟩
  have inK : K.In s.heap := PySem.W.Frag.In.keeps e0.mod.kin fun b o e => (e0.bs b o e).1
  have unlim : s.heap.NoLimit := e0.mod.nolimit.keeps fun b o e => (e0.bs b o e).1
  have many := len _ _ _ _ hsp
  refine codeAny_call_function hr.depth (inK _ _ lk) rfl S.co S.gen rfl (PySem.W.codeRec_of inK hcd) (hb _ _ _ _ ?_)
  refine wpAny_newFunctionEnv_cells S.kind (fun y hy => ?_) fun env he s1 into => ?_
  · rcases S.par y.1 (List.of_mem_zip (show (y.1, y.2) ∈ ps.zip us from hy)).1 with q | q
    · exact .inl q
    · exact .inr ⟨q, PySem.W.cellsFrom_some _ _ _ (.inl q)⟩
  · subst he
    obtain ⟨t, body', reads⟩ := hbody cdv A outer s H vs Q E (guards_deeper hg) (hr.deeper _) hsp
    refine ⟨unlim.keeps into.toInCall.keep, codeAny_func (wpAny_mono (body'.run [] s1 (start N vs) H _ (inv_start S hr.hd e0 many r into) reads) (fun fl s' out => ?_) fun _ _ z => z)⟩
    cases fl with
    | ret u => exact out.elim fun v z => z.elim fun σ' z => z.elim fun H' z => ⟨v, H', z.1.os, z.1.bare, z.1.base, z.1.hok, z.2.1, z.2.2⟩
    | next => exact out.elim fun σ' z => z.elim fun H' z => ⟨.non, H', z.1.os, z.1.bare, z.1.base, z.1.hok, rfl, z.2⟩
    | brk => exact out.elim fun _ z => z.elim fun _ z => False.elim z.2
    | cont => exact out.elim fun _ z => z.elim fun _ z => False.elim z.2
end
theorem FnG.mono {P : Program} {w : World} {K : Frag} {mg : Str → Option Value} {base : Heap} {CX : CXT} {j k : Nat} {f : Addr} {fd : FuncData} {ps : List Str} {sp : Sp} (F : FnG P w K mg base CX j f fd ps sp) (h : j ≤ k) : FnG P w K mg base CX k f fd ps sp :=
  ⟨F.len, fun A outer s H args us vs Q E hg hr => F.run A outer s H args us vs Q E hg (hr.mono h)⟩
section
variable {X : Cx} {CX : CXT} {k : Nat} {f : Addr} {fd : FuncData} {ps : List Str} {sp : Sp} {E : XK} {x : Str} {p pos : Pos} {e : Expr} {es : List Expr} {ta : TA}
theorem run_guarded {pins : List (Addr × Obj)} {σ : L2.St} {H : Hp} {s : Shared} {Q : VK} {us : List Value} {vs : List V} (F : FnG X.prog X.w X.K X.mg X.base CX k f fd ps sp) (hg0 : X.A.guards = some []) (hr : Room k X.A) (hb : Binds X.K fd ps []) (hx : Passes CX X E)
    (I : Inv X pins σ H s) (r : Vals vs us) (h : sp vs H Q E) : wpAny (model X.prog X.w) X.A (call (.ref f) us) (EP X pins σ Q) X.xe s := by
  have bound := hb s us I.kIn (by rw [List.append_nil]; exact r.length.symm.trans (F.len _ _ _ _ h))
  rw [List.append_nil] at bound
  refine wpAny_call (codeAny_mono (F.run X.A X.stack s H ⟨us, []⟩ us vs Q E hg0 hr I.env0 bound r h) fun r s' done => ?_)
  cases r with
  | error er => exact hx pins σ H s er s' I done
  | ok fl =>
    cases fl with
    | ret u => exact I.after done
    | next => exact False.elim done
    | brk => exact False.elim done
    | cont => exact False.elim done
theorem pe_callG (F : FnG X.prog X.w X.K X.mg X.base CX k f fd ps sp) (hg0 : X.A.guards = some []) (hr : Room k X.A) (hg : Gl X x) (hm : X.mg x = some (.ref f)) (hk : PySem.W.keepIn X.K (.ref f) = true) (hb : Binds X.K fd ps []) (hx : Passes CX X E) (ha : PA X (e :: es) ta)
    (hdb : (x == ("__debug__" : Str)) = false := by decide) (he : starEach (e :: es) X.env = (false, eval e X.env) :: starEach es X.env := by rfl) (hpl : (backTo pos (starEach es X.env)).any (·.1) = false := by rfl) :
    PE X (.Call (.Name x p) (e :: es) [] pos) (tCall sp [] E ta) := by
  refine ⟨fun pins s σ H Q I h => wpAny_Call_Name_kw (ld_glob I hg hm ?_ hdb)⟩
  refine PySem.W.callWith_K (h₀ := X.base) I.ok.mod.kin hk (thn (ha.run pos pins s σ H _ I h) fun us s1 ⟨vs, H1, I1, r, q⟩ => ⟨I1.kIn, ?_⟩) he hpl
  have q2 : sp (vs ++ []) H1 Q E := q
  rw [List.append_nil] at q2
  exact run_guarded F hg0 hr hb hx I1 r q2
end
/-! ### the end of a law whose def is guarded -/
theorem law_guarded {P : Program} {w : World} {K : Frag} {mg mb : Str → Option Value} {CX : CXT} {k : Nat} {fa a : Addr} {fd : FuncData} {x : Str} {sp : Sp} {s₁ : Shared} {vs : List Value} {ns : List Int}
    (KX : K.In s₁.heap) (hns : s₁.heap.Ns mainGlobals mg) (hb : s₁.heap.Ns builtinsNs mb) (hbb : ∀ x : Str, x ≠ "__name__" → mb x = bootBuiltins x) (hlim : s₁.heap.NoLimit) (hg : s₁.gens = #[])
    (ha : s₁.heap.get? a = some { cls := .type "list", data := .seq vs.toArray }) (hi : IntsAre vs ns) (hl : ns.length ≤ sizeLine) (hr : Room k callerA)
    (F : ∀ base : Heap, K.In base → base.Ns mainGlobals mg → FnG P w K mg base CX k fa fd [x] sp) (hbind : ∀ (s : Shared) (u : Value), BindsTo s fd ⟨[u], []⟩ [(x, u)])
    (hsp : ∀ H : Hp, Only H → SqL K H a (ns.map V.int) → sp [.ref a] H (fun v _ => v = .bl true) fun _ _ _ => False)
    (hCX : ∀ H e s', CX [] H s₁ (fun _ _ _ => False) e s' → False) :
    codeAny (model P w) callerA (.call (.ref fa) ⟨[.ref a], []⟩) (fun r s' => r = .ok (.ret (.bool true)) ∧ OldK s₁.heap s'.heap ∧ s'.os = s₁.os ∧ AllBare s'.gens) s₁ := by
  have values := vals_ints hi
  have howmany := hi.length
  have main : ∀ H : Hp, Only H → SqL K H a (ns.map V.int) → HOk P w H s₁.heap → (∀ b, H b ≠ none → b = a) → (H a ≠ none → K.lookup a = none) →
      codeAny (model P w) callerA (.call (.ref fa) ⟨[.ref a], []⟩) (fun r s' => r = .ok (.ret (.bool true)) ∧ OldK s₁.heap s'.heap ∧ s'.os = s₁.os ∧ AllBare s'.gens) s₁ := by
    intro H hO hS hok hA hK
    have below : ∀ {b : Addr} {o : Obj}, s₁.heap.get? b = some o → H b = none → (hidT s₁.heap H).get? b = some o := fun e n => hidT_get e n
    have nodict : ∀ {b : Addr} {o : Obj} {es : Array DictEntry} {ep : Nat}, s₁.heap.get? b = some o → o.data = .dict es ep → H b = none := by
      intro b o es ep e d
      refine Classical.byContradiction fun z => ?_
      obtain rfl := hA b z
      obtain rfl := Option.some.inj (ha.symm.trans e)
      exact Data.noConfusion d
    have spaces : ∀ {b : Addr} {m : Str → Option Value}, s₁.heap.Ns b m → (hidT s₁.heap H).Ns b m := fun {b m} ⟨o, es, ep, e, d, r⟩ => ⟨o, es, ep, below e (nodict e d), d, r⟩
    have written : K.In (hidT s₁.heap H) := fun b o e => below (KX b o e) (by
      refine Classical.byContradiction fun z => ?_
      obtain rfl := hA b z
      rw [hK z] at e
      cases e)
    have ground : Mod K mg (hidT s₁.heap H) := ⟨written, spaces hns, ⟨mb, spaces hb, hbb⟩, hlim.elim fun mc z => ⟨mc, spaces z.1, z.2⟩⟩
    have entry : Env0 P w K mg (hidT s₁.heap H) callerA [] s₁ H := ⟨rfl, ground, fun b o e => of_hidT e, Nat.le_of_eq (hidT_size _ _), trivial, fun b z => absurd (show b ∈ ([] : List Addr) from z) (by simp), hok, .of_eq hg⟩
    refine codeAny_mono ((F _ written (spaces hns)).run callerA [] s₁ H ⟨[.ref a], []⟩ [.ref a] [.ref a] _ _ rfl hr entry (hbind s₁ (.ref a)) (.cons rfl .nil) (hsp H hO hS)) fun r s' out => ?_
    cases r with
    | error e => exact (hCX H e s' out).elim
    | ok fl =>
      cases fl with
      | next => exact False.elim out
      | brk => exact False.elim out
      | cont => exact False.elim out
      | ret u =>
        obtain ⟨v, H', os, bare, un, hok', rv, rfl⟩ := out
        obtain rfl : u = Value.bool true := rv
        refine ⟨rfl, OldK.of_keep fun b o e => ?_, os, bare⟩
        rcases hO b with z | ⟨ob, xs, z⟩
        · exact un.keep b o e z (fun y => absurd (show b ∈ ([] : List Addr) from y) (by simp)) (by simp)
        · obtain ⟨e1, _⟩ := hok b _ z
          obtain ⟨e2, _⟩ := hok' b _ (un.frzs b ob _ z)
          obtain rfl := Option.some.inj (e1.symm.trans e)
          exact e2
  rcases Option.eq_none_or_eq_some (K.lookup a) with free | ⟨o, own⟩
  · refine main (fun b => if b = a then some (.frz { cls := .type "list", data := .seq vs.toArray } (.lst (ns.map V.int))) else none) (fun b => ?_) (.inl (.inr ⟨{ cls := .type "list", data := .seq vs.toArray }, if_pos rfl⟩)) (fun b u z => ?_) (fun b z => ?_) fun _ => free
    · rcases Classical.em (b = a) with e | e
      · exact .inr ⟨_, _, if_pos e⟩
      · exact .inl (if_neg e)
    · rcases Classical.em (b = a) with e | e
      · subst e
        obtain rfl := Option.some.inj ((if_pos rfl).symm.trans z)
        exact ⟨ha, by rw [List.length_map]; exact hl, vs, _, values, ha⟩
      · have y := (if_neg e).symm.trans z
        cases y
    · exact Classical.byContradiction fun e => z (if_neg e)
  · obtain rfl := Option.some.inj ((KX a o own).symm.trans ha)
    exact main (fun _ => none) (fun _ => .inl rfl) (.inr ⟨_, vs.toArray, _, own, rfl, rfl, rfl, by rw [List.size_toArray, howmany]; exact hl, by simpa using values⟩) (fun b u z => by have y : (none : Option HO) = some u := z; cases y) (fun b z => absurd rfl z) fun z => absurd rfl z
theorem walk_guarded {l : PySem.W.OpenLaw} {n k : Nat} {q : Program} {loose : List Str} {XP : (Str → Option Value) → Heap → Prop} {YP : World → Heap → Prop} {d : DefRec} {CX : CXT} {x : Str}
    (hn : l.most = some n) (hn2 : n ≤ sizeLine) (hdf : d.params.defaults = []) (hr : Room k callerA)
    (F : ∀ (w : World) (mg : Str → Option Value) (fa : Addr) (h : Heap), YP w h → h.Ns mainGlobals mg → mg d.name = some (.ref fa) →
      ∃ (K : Frag) (fd : FuncData) (sp : Sp), K.In h ∧ (∀ (s : Shared) (u : Value), BindsTo s fd ⟨[u], []⟩ [(x, u)]) ∧
        (∀ (H : Hp) (a : Addr) (ns : List Int), ns.length ≤ n → Only H → SqL K H a (ns.map V.int) → sp [.ref a] H (fun v _ => v = .bl true) fun _ _ _ => False) ∧
        ∀ base : Heap, K.In base → base.Ns mainGlobals mg → FnG l.prog w K mg base CX k fa fd [x] sp)
    (hCX : ∀ (H : Hp) (s : Shared) (e : Value) (s' : Shared), CX [] H s (fun _ _ _ => False) e s' → False) :
    PySem.W.WalkO q loose XP YP l.row.toRowW d [] (fun f vs => PySem.call f vs) := by
  refine Att.attach_call hn hdf fun w s₀ s₁ mg mb fa o pm cd doc a vs ns G Y _ _ _ hmg hobj hints hlen hg => ?_
  obtain ⟨K, fd, sp, KX, hb, hsp, hF⟩ := F w mg fa _ Y G.T.g hmg
  exact law_guarded KX G.T.g G.T.b G.T.builtins G.T.nolimit hg hobj hints (Nat.le_trans hlen hn2) hr hF hb (fun H hO hS => hsp H a ns hlen hO hS) fun H e s' => hCX H s₁ e s'
end XE

/-! repr of data; isinstance, fields and str of an own exception that is held -/
namespace XE
open PySem PySem.Spec PyProof.Rows L2
open PySem.W (Frag)
/-! ### repr -/
/-- a value as data; the empty dict, too -/
inductive RepV (K : Frag) (H : Hp) : V → PyData → Prop
  | dat {v : V} {d : PyData} (h : Dp K H v d) : RepV K H v d
  | nul {a : Addr} (h : H a = some (.dK [])) : RepV K H (.ref a) (.dict [])
def rRepr (K : Frag) : List V → Hp → VK → Prop := fun xs H Q => ∃ x d, xs = [x] ∧ RepV K H x d ∧ d.showable = true ∧ d.depth ≤ 60 ∧ d.shown.length ≤ sizeLine ∧ Q (.str d.shown) H
mutual
theorem dp_nodict {K : Frag} {H : Hp} : ∀ (d : PyData) (v : V), Dp K H v d → d.hasDict = false
  | .none, _, h => rfl
  | .bool _, _, h => rfl
  | .int _, _, h => rfl
  | .str _, _, h => rfl
  | .list ds, _, h => by
    cases h with
    | lst _ ha => exact dpAll_nodict ds _ ha
  | .tuple ds, _, h => by
    cases h with
    | tup _ ha => exact dpAll_nodict ds _ ha
  | .dict _, _, h => by cases h
theorem dpAll_nodict {K : Frag} {H : Hp} : ∀ (ds : List PyData) (vs : List V), DpAll K H vs ds → PyData.hasDictAll ds = false
  | [], _, _ => rfl
  | d :: ds, _, h => by
    cases h with
    | cons h1 h2 =>
      show (d.hasDict || PyData.hasDictAll ds) = false
      rw [dp_nodict d _ h1, dpAll_nodict ds _ h2]
      rfl
end
theorem repV_reads {X : Cx} {pins : List (Addr × Obj)} {σ : L2.St} {H : Hp} {s : Shared} (I : Inv X pins σ H s) {v : V} {d : PyData} {u : Value} (h : RepV X.K H v d) (r : RelV v u) : ∃ as, Reads s.heap u d as ∧ (d.hasDict = true → sysModules ∉ as) := by
  cases h with
  | dat h =>
    obtain ⟨as, rd⟩ := Dp.reads I d v u h r
    exact ⟨as, rd, fun z => by rw [dp_nodict d v h] at z; cases z⟩
  | @nul a h =>
    obtain rfl : u = Value.ref a := r
    obtain ⟨_, ns, vs, kv, o, es, ep, e1, e2, e3, _, e5, _⟩ := (show ObjOk X.prog X.w H s.heap a (.dK []) from I.hok a _ h)
    cases kv
    have nil : es.toList = [] := by
      cases q : es.toList with
      | nil => rfl
      | cons x xs =>
        rw [q] at e5
        cases e5
    have rd : Reads s.heap (.ref a) (.dict []) ([a] ++ []) := .dict (as := []) (bs := []) e1 e2.1 e3 (by rw [nil]; exact .nil) (by rw [nil]; exact .nil)
    refine ⟨_, rd, fun _ hm => ?_⟩
    have same : sysModules = a := by simpa using hm
    rw [← same] at ns
    simp at ns
theorem call_repr {X : Cx} (hg0 : X.A.guards = some []) (hu : X.A.units + 64 < cLine) : CallR X (.builtin "repr") (rRepr X.K) := by
  intro pins s σ H xs us Q I r h
  obtain ⟨x, d, rfl, hd, sh, dep, sz, q⟩ := h
  obtain ⟨u, rfl, rx⟩ := vals1 r
  obtain ⟨as, rd, nd⟩ := repV_reads I hd rx
  have fin : ∀ h' t t', (∀ b o, s.heap.get? b = some o → h'.get? b = some o) → EP X pins σ Q (.str d.shown t) { s with heap := h', toks := t' } := fun h' t t' k => ⟨.str d.shown, H, I.kept (t' := t') k, ⟨t, rfl⟩, q⟩
  cases u with
  | ref a => exact repr_of_reads' rd sh nd hg0 (by omega) (fun _ _ e => e) (fun h' t tk k => fin h' t tk k) sz
  | none =>
    cases rd
    exact P.repr_of_none (fin s.heap _ _ fun _ _ z => z)
  | bool b =>
    cases rd
    exact P.repr_of_bool (fin s.heap _ _ fun _ _ z => z)
  | int i t =>
    cases rd
    exact P.repr_of_int (by simpa [PyData.showable] using sh) (fin s.heap _ _ fun _ _ z => z)
  | str y t =>
    cases rd
    exact P.repr_of_str (fin s.heap _ _ fun _ _ z => z) sz
  | _ => cases rd
/-! ### an own exception that is held -/
/-- at a: an exception of the class at C: with a message alone, or with fields in its own dict -/
inductive Held (H : Hp) (a C : Addr) : Prop
  | bare (h : H a = some (ExO (.ref C) a))
  | dict {d : Addr} {fs : List (Str × V)} (h : H a = some (exo a C (some d))) (hd : H d = some (exd d fs))
theorem held_inst {X : Cx} {pins : List (Addr × Obj)} {σ : L2.St} {H : Hp} {s : Shared} {a C : Addr} (I : Inv X pins σ H s) (h : Held H a C) : ∃ ox od, PySem.W.InstAt s.heap a ox C od := by
  cases h with
  | bare h =>
    obtain ⟨⟨oe, vs, e1, z, e2, _⟩, _, _⟩ := (show ObjOk X.prog X.w H s.heap a (ExO (.ref C) a) from I.hok a _ h)
    exact ⟨oe, none, e1, z.1, by unfold PySem.W.notCls; rw [e2], by rw [z.2]; trivial⟩
  | @dict d fs h hd =>
    obtain ⟨t1, e1⟩ := exo_at I.hok h
    obtain ⟨mA, ⟨oD, es, ep, e2, _⟩, _⟩ := exd_at I.hok hd
    exact ⟨_, some oD, e1, rfl, rfl, e2⟩
/-- isinstance(e, c) -/
def rIsH (K : Frag) : List V → Hp → VK → Prop := fun xs H Q => ∃ (a C : Addr) (c : V) (cv : Value) (b : Bool), xs = [.ref a, c] ∧ ExcC K C ∧ Held H a C ∧ ClsV c cv ∧ PySem.W.kitOne K (.ref C) cv = some b ∧ Q (.bl b) H
theorem call_isH {X : Cx} : CallR X (.builtin "isinstance") (rIsH X.K) := by
  intro pins s σ H xs us Q I r h
  obtain ⟨a, C, c, cv, b, rfl, T, hh, k, e, q⟩ := h
  obtain ⟨u1, u2, rfl, r1, r2⟩ := vals2 r
  obtain rfl : u1 = Value.ref a := r1
  obtain rfl := k.eq r2
  obtain ⟨ox, od, J⟩ := held_inst I hh
  obtain ⟨cd, hcd, _⟩ := PySem.W.any_some T.hd
  exact PySem.W.kia_one (PySem.W.kitx_exc (by rw [hcd]; rfl) T.hg T.hk T.hs T.ha T.hn T.ht T.hm) I.kIn J e (fun z => nomatch z) fun tk => ⟨.bl b, H, I.tok tk, rfl, q⟩
/-- e.f -/
def tHeld (K : Frag) (f : Str) (te : TE) : TE := fun σ H Q => te σ H fun x H1 => ∃ (a C d : Addr) (fs : List (Str × V)) (v : V), x = .ref a ∧ ExcC K C ∧ PySem.W.findIn K (.ref C) f = some none ∧ H1 a = some (exo a C (some d)) ∧ H1 d = some (exd d fs) ∧ fs.lookup f = some v ∧ Q v H1
theorem pe_held {X : Cx} {e : Expr} {f : Str} {te : TE} {pos : Pos} (he : PE X e te) (hb : attributeBase e f X.env (eval e X.env) = eval e X.env := by rfl) : PE X (.Attribute e f pos) (tHeld X.K f te) := by
  refine ⟨fun pins s σ H Q I h => attr_of hb (thn (he.run pins s σ H _ I h) fun u s1 ⟨x, H1, I1, rx, a, C, d, fs, v, ex, T, no, ea, ed, hl, q⟩ => ?_)⟩
  subst ex
  obtain rfl : u = Value.ref a := rx
  obtain ⟨t1, e1⟩ := exo_at I1.hok ea
  obtain ⟨mA, hns, rel⟩ := exd_at I1.hok ed
  obtain ⟨oD, hoD, hlook⟩ := lookIn_ns hns
  obtain ⟨w, hw, rw'⟩ := RelO.some_of (v := v) (o := mA f) (by rw [← hl]; exact rel f)
  exact PX.exc_get I1.kIn (ox := { cls := .ref C, dict := some d, data := .fields #[.ref t1, .none, .none, .none, .bool false, .none] }) ⟨e1, rfl, rfl, hoD⟩ T.hg T.hk T.hs (PySem.W.findObj_own T.hd no rfl (by rw [hlook, hw])) (handed_of rw') ⟨v, H1, I1.tok _, rw', q⟩
/-! ### str(e), e's class with its own __str__ -/
def rStrH (C : Addr) (sp : Sp) : List V → Hp → VK → Prop := fun xs H Q => ∃ a, xs = [.ref a] ∧ Held H a C ∧ sp [.ref a] H (fun v H' => ∃ z, v = .str z ∧ Q (.str z) H') E0
theorem call_strH {X : Cx} {k : Nat} {C f : Addr} {fd : FuncData} {sp : Sp} (F : FnG X.prog X.w X.K X.mg X.base CX0 k f fd ["self"] sp) (hg0 : X.A.guards = some []) (hr : Room (k + 2) X.A) (hs : PySem.W.findIn X.K (.ref C) "__str__" = some (some (.ref f)))
    (hf : PySem.W.isFn X.K (.ref f) = true) (hb : Binds X.K fd ["self"] []) : CallR X (.type "str") (rStrH C sp) := by
  intro pins s σ H xs us Q I r h
  obtain ⟨a, rfl, hh, q⟩ := h
  obtain ⟨u, rfl, rx⟩ := vals1 r
  obtain rfl : u = Value.ref a := rx
  obtain ⟨ox, od, J⟩ := held_inst I hh
  have room2 : Room k X.A.in1.in1 := (Room.in1 hr).in1
  refine PySem.W.kso_call room2.units0 I.kIn J hs hf ?_
  have e2 := I.env0.in1.in1
  have bound := hb s [Value.ref a] I.kIn rfl
  refine wpAny_call (codeAny_mono (F.run X.A.in1.in1 X.stack s H ⟨[.ref a], []⟩ [.ref a] [.ref a] _ _ hg0 room2 e2 bound (.cons rfl .nil) q) fun r s' done => ?_)
  cases r with
  | error er => exact False.elim done
  | ok fl =>
    cases fl with
    | ret u =>
      obtain ⟨v, H', I', rv, z, rfl, q'⟩ := I.after done
      obtain ⟨t, rfl⟩ := rv
      exact ⟨.str z, H', I', ⟨t, rfl⟩, q'⟩
    | next => exact False.elim done
    | brk => exact False.elim done
    | cont => exact False.elim done
end XE

/-! tuples that are sorted, picked from; what goes on -/
namespace B73
open PySem PySem.Spec PyProof.Rows L2 XSt NX XB LamX
open PySem.W (Frag)
def spSortedT (K : Frag) : Sp := fun vs H Q _ => ∃ (l : Addr) (ys : List Str), vs = [.ref l] ∧ SqT K H l (ys.map V.str) ∧ ys.length < 64 ∧ (∀ y ∈ ys, y.length ≤ 8000) ∧ ∀ q H', H q = none → Ext H H' → H' q = some (.tup ((ordT ys).map V.str)) → Q (.ref q) H'
def spPickT (K : Frag) : Sp := fun vs H Q _ => ∃ (j p : Addr) (xs : List V), vs = [.ref j, .ref p] ∧ JugAt H j ∧ SqT K H p xs ∧ p ≠ j ∧ xs ≠ [] ∧ xs.length ≤ 1000 ∧ ∀ y H', y ∈ xs → Kj j H H' → Q y H'
/-- what goes on: all but the jug and the tables stands -/
structure Go (T : List (Addr × Str)) (j : Addr) (H H' : Hp) : Prop where
  keep : ∀ b o, b ≠ j → (∀ ps, o ≠ .tbl ps) → H b = some o → H' b = some o
  jug : JugAt H' j
  tabs : Tabs T H'
theorem tabs_kj {T : List (Addr × Str)} {H H' : Hp} {j : Addr} (t : Tabs T H) (h : JugAt H j) (k : Kj j H H') : Tabs T H' := fun p hp => by
  obtain ⟨u, v, w, ej, _⟩ := h
  obtain ⟨ps, h1, h2, h3⟩ := t p hp
  refine ⟨ps, k.1 _ _ (fun z => ?_) h1, h2, fun pos cv hc => ?_⟩
  · rw [z, ej] at h1
    cases h1
  · obtain ⟨c, e1, e2⟩ := h3 pos cv hc
    refine ⟨c, e1, k.1 _ _ (fun z => ?_) e2⟩
    rw [z, ej] at e2
    unfold CodeO at e2
    cases e2
theorem jug_n {H H' : Hp} {j : Addr} (h : JugAt H j) (k : ExtN H H') : JugAt H' j := by
  obtain ⟨a, b, c, e, z⟩ := h
  exact ⟨a, b, c, k _ _ e (fun ps y => by cases y), z⟩
theorem jug_e {H H' : Hp} {j : Addr} (h : JugAt H j) (k : Ext H H') : JugAt H' j := by
  obtain ⟨a, b, c, e, z⟩ := h
  exact ⟨a, b, c, k _ _ e, z⟩
section
variable {T : List (Addr × Str)} {j : Addr} {H H1 H2 : Hp}
theorem Go.refl (h : JugAt H j) (t : Tabs T H) : Go T j H H := ⟨fun _ _ _ _ e => e, h, t⟩
theorem Go.k (g : Go T j H H1) (k : Kj j H1 H2) : Go T j H H2 := ⟨fun b o n m z => k.1 _ _ n (g.keep b o n m z), k.2, tabs_kj g.tabs g.jug k⟩
theorem Go.e (g : Go T j H H1) (e : Ext H1 H2) : Go T j H H2 := ⟨fun b o n m z => e _ _ (g.keep b o n m z), jug_e g.jug e, g.tabs.ext e⟩
theorem Go.n (g : Go T j H H1) (e : ExtN H1 H2) (t : Tabs T H2) : Go T j H H2 := ⟨fun b o n m z => e _ _ (g.keep b o n m z) m, jug_n g.jug e, t⟩
theorem Go.trans (g : Go T j H H1) (k : Go T j H1 H2) : Go T j H H2 := ⟨fun b o n m z => k.keep _ _ n m (g.keep b o n m z), k.jug, k.tabs⟩
theorem not_j {o : HO} {b : Addr} (h : JugAt H j) (e : H b = some o) (n : ∀ a b c : Int, o ≠ .lst [.int a, .int b, .int c]) : b ≠ j := fun z => by
  obtain ⟨u, v, w, ej, _⟩ := h
  rw [z, ej] at e
  exact n u v w (Option.some.inj e).symm
theorem Go.tup (g : Go T j H H1) (h : JugAt H j) {p : Addr} {xs : List V} (e : H p = some (.tup xs)) : H1 p = some (.tup xs) := g.keep _ _ (not_j h e fun _ _ _ z => by cases z) (fun ps z => by cases z) e
theorem Go.book (g : Go T j H H1) (h : JugAt H j) {b C : Addr} {x : Str} {ws : List Str} (e : BookAt H b C x ws) : BookAt H1 b C x ws := by
  obtain ⟨dx, p, d, h1, h2, h3⟩ := e
  exact ⟨dx, p, d, g.keep _ _ (not_j h h1 fun _ _ _ z => by cases z) (fun ps z => by cases z) h1, g.tup h h2, g.keep _ _ (not_j h h3 fun _ _ _ z => by cases z) (fun ps z => by cases z) h3⟩
end
section
variable {P : Program} {w : World} {K : Frag} {mg : Str → Option Value} {base : Heap} {f fB fS : Addr} {fd dB dS : FuncData}
theorem ok_pickT (F : FnP K "_law_pick" sPick f fd) (FB : FnOk P w K mg base CX0 1 fB dB ["jug", "much"] spBit) (gB : mg "_law_bit" = some (.ref fB)) (kB : PySem.W.keepIn K (.ref fB) = true) (bB : Binds K dB ["jug", "much"] []) (M : Free mg) :
    FnOk P w K mg base CX0 2 f fd ["jug", "items"] (spPickT K) := by
  refine F.ok scPick (fun vs H Q E h => ?_) (fun cdv A outer s H vs Q E hr h => ?_)
  · obtain ⟨j, p, xs, rfl, _⟩ := h
    rfl
  · obtain ⟨j, p, xs, rfl, hj, sq, hpj, ne, few, q⟩ := h
    have hs : sizeLine = 16777216 := sizeLine_eq
    refine ⟨_, PSs.nox (pss_one (ps_ret (pe_ix ix_tup (pv 1) (pe_call FB hr rfl gB kB bB .nil pass0 (pa_cons (pv 0) (pa_cons (pe_callB call_len_seq (by rfl) M.len PySem.boot_len (pa_cons (pv 1) pa_nil)) pa_nil))) (fun _ _ => rfl)))), ?_⟩
    have h0 : 0 < xs.length := List.length_pos_iff.mpr ne
    refine ⟨_, rfl, _, rfl, _, rfl, p, xs, rfl, .inr sq, j, _, rfl, hj, by omega, by omega, fun r H' r0 r1 hk => ?_⟩
    have hi : r.toNat < xs.length := by omega
    have er : r = ((r.toNat : Nat) : Int) := by omega
    rw [er]
    have sq' : SqT K H' p xs := by
      rcases sq with (h | ⟨o, h⟩) | h
      · exact Or.inl (Or.inl (hk.1 _ _ hpj h))
      · exact Or.inl (Or.inr ⟨o, hk.1 _ _ hpj h⟩)
      · exact Or.inr h
    exact ⟨_, _, _, _, rfl, rfl, sq', atI_nat (List.getElem?_eq_getElem hi), q _ _ (List.getElem_mem hi) hk⟩
end
end B73

/-! comprehensions as filters and maps: the walk once for all -/
namespace XF
open PySem PySem.Spec PyProof.Rows L2 XSt NX
open PySem.W (Frag)
/-- a relation that a comprehension's own list at D does not disturb -/
structure KeepsL (R : Hp → Hp → Prop) (H1 : Hp) (D : Addr) : Prop where
  start : R H1 (upd H1 D (.lst []))
  put : ∀ H o, R H1 H → R H1 (upd H D o)
  keep : ∀ H H' l, R H H' → H D = some (.lst l) → H' D = some (.lst l)
  trans : ∀ a b c, R a b → R b c → R a c
theorem takeM {α : Type} {xs : List α} {i : Nat} {v : α} (h : xs[i]? = some v) : xs.take (i + 1) = xs.take i ++ [v] := by
  rw [List.take_add_one, h]
  rfl
theorem lc_fm {J : It} {n : Nat} {G : Hp → Prop} {Y : Nat → Hp → V → Hp → Prop} (w : Walk J n G Y) {B : V → Hp → (Hp → Prop) → Prop} {H1 : Hp} {D : Addr} {Qd : Hp → Prop}
    (R : Hp → Hp → Prop) (rk : KeepsL R H1 D) (xs : List V) (hn : n = xs.length) (small : xs.length ≤ sizeLine) (b : V → Bool) (f : V → V) (hG : ∀ H, R H1 H → G H)
    (hY : ∀ (i : Nat) H v H', i < n → Y i H v H' → H' = H ∧ xs[i]? = some v)
    (turn : ∀ (i : Nat) (v : V) (H' : Hp) (Nx : Hp → Prop), xs[i]? = some v → R H1 H' → (b v = false → ∀ H'', R H' H'' → Nx H'') →
      (b v = true → ∀ H'', R H' H'' → ∃ acc, H'' D = some (.lst acc) ∧ acc.length < sizeLine ∧ Nx (upd H'' D (.lst (acc ++ [f v])))) → B v H' Nx)
    (done : ∀ H', H' D = some (.lst ((xs.filter b).map f)) → R H1 H' → Qd H') :
    ∃ W : Nat → Nat → Hp → Prop, (∃ m, W 0 m (upd H1 D (.lst []))) ∧ ∀ i m H, W i m H → (J.stop i H ∧ Qd H) ∨ (J.go i H ∧ ∃ Nx : Hp → Prop, (∀ H', Nx H' → ∃ m', m' < m ∧ W (i + 1) m' H') ∧ ∀ x H', J.yld i H x H' → B x H' Nx) := by
  refine walk_it w (fun i H => H D = some (.lst (((xs.take i).filter b).map f)) ∧ R H1 H) ⟨upd_same, rk.start⟩ (fun i H _ z => hG H z.2) ?_ ?_
  · rintro i v H H' hi ⟨f1, f2⟩ y
    obtain ⟨rfl, ex⟩ := hY i H v H' hi y
    refine turn i v H' _ ex f2 (fun hb H'' k => ⟨?_, rk.trans _ _ _ f2 k⟩) fun hb H'' k => ⟨_, rk.keep _ _ _ k f1, ?_, ?_, rk.put _ _ (rk.trans _ _ _ f2 k)⟩
    · rw [takeM ex, List.filter_append, List.filter_cons_of_neg (by rw [hb]; decide), List.filter_nil, List.append_nil]
      exact rk.keep _ _ _ k f1
    · have z1 := List.length_filter_le b (xs.take i)
      have z2 := List.length_take_le i xs
      have z3 := (List.getElem?_eq_some_iff.mp ex).1
      rw [List.length_map]
      omega
    · rw [takeM ex, List.filter_append, List.filter_cons_of_pos hb, List.filter_nil, List.map_append]
      exact upd_same
  · rintro H ⟨f1, f2⟩
    rw [hn, List.take_length] at f1
    exact done H f1 f2
/-- a comprehension whose elements are told of one by one -/
theorem lc_some {J : It} {n : Nat} {G : Hp → Prop} {Y : Nat → Hp → V → Hp → Prop} (w : Walk J n G Y) {B : V → Hp → (Hp → Prop) → Prop} {H1 : Hp} {D : Addr} {Qd : Hp → Prop}
    (R : Hp → Hp → Prop) (rk : KeepsL R H1 D) (small : n ≤ sizeLine) (hG : ∀ H, R H1 H → G H) (P : Hp → Nat → V → Prop)
    (Pm : ∀ H H' i y, R H H' → P H i y → P H' i y) (Pd : ∀ H i y l l', H D = some (.lst l) → P H i y → P (upd H D (.lst l')) i y)
    (turn : ∀ (i : Nat) (v : V) (H H' : Hp) (Nx : Hp → Prop), i < n → Y i H v H' → R H1 H → (∀ H'' y, R H H'' → P H'' i y → ∃ acc, H'' D = some (.lst acc) ∧ acc.length < sizeLine ∧ Nx (upd H'' D (.lst (acc ++ [y])))) → B v H' Nx)
    (done : ∀ (H' : Hp) (ys : List V), H' D = some (.lst ys) → ys.length = n → (∀ (i : Nat) (y : V), ys[i]? = some y → P H' i y) → R H1 H' → Qd H') :
    ∃ W : Nat → Nat → Hp → Prop, (∃ m, W 0 m (upd H1 D (.lst []))) ∧ ∀ i m H, W i m H → (J.stop i H ∧ Qd H) ∨ (J.go i H ∧ ∃ Nx : Hp → Prop, (∀ H', Nx H' → ∃ m', m' < m ∧ W (i + 1) m' H') ∧ ∀ x H', J.yld i H x H' → B x H' Nx) := by
  refine walk_it w (fun i H => ∃ ys, H D = some (.lst ys) ∧ ys.length = i ∧ (∀ a y, ys[a]? = some y → P H a y) ∧ R H1 H) ⟨[], upd_same, rfl, fun a y z => (by simp at z), rk.start⟩ (fun i H _ z => by obtain ⟨_, _, _, _, k⟩ := z; exact hG H k) ?_ ?_
  · rintro i v H H' hi ⟨ys, f1, f2, f3, f4⟩ y
    refine turn i v H H' _ hi y f4 fun H'' y k p => ⟨ys, rk.keep _ _ _ k f1, by omega, ys ++ [y], upd_same, by rw [List.length_append, f2]; rfl, fun a z hz => ?_, rk.put _ _ (rk.trans _ _ _ f4 k)⟩
    have e := rk.keep _ _ _ k f1
    by_cases ha : a < ys.length
    · rw [List.getElem?_append_left ha] at hz
      exact Pd _ _ _ _ _ e (Pm _ _ _ _ k (f3 a z hz))
    · rw [List.getElem?_append_right (by omega)] at hz
      have ea : a = i := by
        have := (List.getElem?_eq_some_iff.mp hz).1
        simp at this
        omega
      subst ea
      rw [f2, Nat.sub_self] at hz
      obtain rfl := Option.some.inj hz
      exact Pd _ _ _ _ _ e p
  · rintro H ⟨ys, f1, f2, f3, f4⟩
    exact done H ys f1 f2 f3 f4
end XF

/-! a list of any values beside an empty list: == and != -/
namespace XNil
open PySem PySem.Spec PyProof.Rows L2
open PySem.W (Frag)
def rEqE (K : Frag) : R2 := fun x y H Q => ∃ p xs q, x = .ref p ∧ y = .ref q ∧ SqL K H p xs ∧ SqL K H q [] ∧ Q (.bl xs.isEmpty) H
def rNeE (K : Frag) : R2 := fun x y H Q => ∃ p xs q, x = .ref p ∧ y = .ref q ∧ SqL K H p xs ∧ SqL K H q [] ∧ Q (.bl (!xs.isEmpty)) H
theorem op_eqE {X : Cx} (hu : X.A.units + 64 < cLine) : OpR X (compareOp .Eq) (rEqE X.K) := by
  intro pins s σ H x y v u Q I rx ry h
  obtain ⟨p, xs, q, rfl, rfl, hp, hq, k⟩ := h
  obtain ⟨its, r1, ⟨o, n, e1, e2, e3, e4⟩, _⟩ := I.list hp
  obtain ⟨jts, r2, ⟨o2, n2, g1, g2, g3, g4⟩, _⟩ := I.list hq
  cases rx
  cases ry
  have l1 := r1.length
  have l2 := r2.length
  have A : s.heap.IsList p its.toArray := ⟨o, e1, e2, n, e4⟩
  have B : s.heap.IsList q jts.toArray := ⟨o2, g1, g2, n2, g4⟩
  cases xs with
  | nil =>
    have z1 : its.toArray.size = 0 := by rw [List.size_toArray]; simpa using l1.symm
    have z2 : jts.toArray.size = 0 := by rw [List.size_toArray]; simpa using l2.symm
    refine SeqAt.eq_listAt (e := fun _ => true) A B (z1.trans z2.symm) (by omega) (fun j h1 => by omega) ?_
    rw [z1]
    exact ⟨.bl _, H, I, rfl, k⟩
  | cons a r =>
    have z1 : its.toArray.size = r.length + 1 := by rw [List.size_toArray]; simpa using l1.symm
    have z2 : jts.toArray.size = 0 := by rw [List.size_toArray]; simpa using l2.symm
    exact SeqAt.eq_list_lengthsAt A B (by rw [z1, z2]; simp) (by omega) ⟨.bl _, H, I, rfl, k⟩
theorem op_neE {X : Cx} (hu : X.A.units + 64 < cLine) : OpR X (compareOp .NotEq) (rNeE X.K) := by
  intro pins s σ H x y v u Q I rx ry h
  obtain ⟨p, xs, q, rfl, rfl, hp, hq, k⟩ := h
  obtain ⟨its, r1, ⟨o, n, e1, e2, e3, e4⟩, _⟩ := I.list hp
  obtain ⟨jts, r2, ⟨o2, n2, g1, g2, g3, g4⟩, _⟩ := I.list hq
  cases rx
  cases ry
  have l1 := r1.length
  have l2 := r2.length
  have A : s.heap.IsList p its.toArray := ⟨o, e1, e2, n, e4⟩
  have B : s.heap.IsList q jts.toArray := ⟨o2, g1, g2, n2, g4⟩
  cases xs with
  | nil =>
    have z1 : its.toArray.size = 0 := by rw [List.size_toArray]; simpa using l1.symm
    have z2 : jts.toArray.size = 0 := by rw [List.size_toArray]; simpa using l2.symm
    refine SeqAt.RcNeAt.lists (e := fun _ => true) A B (z1.trans z2.symm) (by omega) (fun j h1 => by omega) X.prog X.w _ _ ?_
    rw [z1]
    exact ⟨.bl _, H, I, rfl, k⟩
  | cons a r =>
    have z1 : its.toArray.size = r.length + 1 := by rw [List.size_toArray]; simpa using l1.symm
    have z2 : jts.toArray.size = 0 := by rw [List.size_toArray]; simpa using l2.symm
    exact SeqAt.RcNeAt.lists_lengths A B (by rw [z1, z2]; simp) (by omega) X.prog X.w _ _ ⟨.bl _, H, I, rfl, k⟩
end XNil

/-! a promise that tells of refusals, where none is met; and one of a def that never raises, taken as one of a def that may -/
namespace XC0
open PySem PySem.Spec PyProof.Rows L2
open PySem.W (Frag)
theorem calm {P : Program} {w : World} {K : Frag} {mg : Str → Option Value} {base : Heap} {k : Nat} {f : Addr} {fd : FuncData} {ps : List Str} {sp sp' : Sp} (F : FnOk P w K mg base (L2.CX P w) k f fd ps sp)
    (h : ∀ vs H Q E, sp' vs H Q E → sp vs H Q fun _ _ _ => False) : FnOk P w K mg base CX0 k f fd ps sp' :=
  ⟨fun vs H Q E q => F.len _ _ _ _ (h vs H Q E q), fun A outer s H args us vs Q E hr he hb hv hs =>
    codeAny_mono (F.run A outer s H args us vs Q (fun _ _ _ => False) hr he hb hv (h _ _ _ _ hs)) fun r s' z => by
      cases r with
      | ok fl =>
        cases fl with
        | ret u => exact z
        | _ => exact False.elim z
      | error e =>
        obtain ⟨_, _, _, _, _, _, _, _, _, _, _, _, hE⟩ := z
        exact False.elim hE⟩
theorem wild {P : Program} {w : World} {K : Frag} {mg : Str → Option Value} {base : Heap} {k : Nat} {f : Addr} {fd : FuncData} {ps : List Str} {sp : Sp} (F : FnOk P w K mg base CX0 k f fd ps sp) : FnOk P w K mg base (L2.CX P w) k f fd ps sp :=
  ⟨F.len, fun A outer s H args us vs Q E hr he hb hv hs =>
    codeAny_mono (F.run A outer s H args us vs Q E hr he hb hv hs) fun r s' z => by
      cases r with
      | ok fl =>
        cases fl with
        | ret u => exact z
        | _ => exact False.elim z
      | error e => exact False.elim z⟩
end XC0

/-! what a comprehension's list leaves as it is -/
namespace B73
open PySem PySem.Spec PyProof.Rows L2 XSt NX XB XF
open PySem.W (Frag)
theorem Ext.put {H1 H : Hp} {D : Addr} {o : HO} (k : Ext H1 H) (hD : H1 D = none) : Ext H1 (upd H D o) := fun b u e => by
  rw [upd_ne (ne_of_none e hD)]
  exact k b u e
theorem ext_keeps {H1 : Hp} {D : Addr} (hD : H1 D = none) : KeepsL Ext H1 D := ⟨(Ext.refl _).put hD, fun H o k => k.put hD, fun H H' l k e => k _ _ e, fun a b c x y => x.trans y⟩
theorem kj_keeps {H1 : Hp} {D j : Addr} (hj : JugAt H1 j) (hD : H1 D = none) : KeepsL (Kj j) H1 D := ⟨(Kj.refl hj).new hD (jug_none hj hD), fun H o k => k.new hD (jug_none hj hD), fun H H' l k e => k.1 _ _ (jug_none hj hD) e, fun a b c x y => x.trans y⟩
theorem at_own {n : Nat} {xs : List V} : ∀ i H v H', i < n → YAt xs i H v H' → H' = H ∧ xs[i]? = some v := fun _ _ _ _ _ y => y
theorem at_str {n : Nat} {z : Str} : ∀ (i : Nat) (H : Hp) (v : V) (H' : Hp), i < n → (H' = H ∧ ∃ c, z.cps[i]? = some c ∧ v = V.str ⟨#[c]⟩) → H' = H ∧ ((XSt.signs z).map V.str)[i]? = some v := by
  rintro i H v H' _ ⟨rfl, c, hc, rfl⟩
  refine ⟨rfl, ?_⟩
  unfold XSt.signs
  rw [List.getElem?_map, List.getElem?_map, Array.getElem?_toList, hc]
  rfl
end B73

/-! a def whose code object is known; one that is called where no repr is under way -/
namespace B73
open PySem PySem.Spec PyProof.Rows L2 XSt NX XB LamX XE
open PySem.W (Frag)
/-- the code object of the def at f -/
def CodeAt (K : Frag) (f c : Addr) : Prop := ∀ oc od fd osl, K.lookup f = some ⟨oc, od, .func fd, osl⟩ → fd.code = .ref c
/-- a def whose code object is known -/
theorem okC {P : Program} {w : World} {K : Frag} {mg : Str → Option Value} {base : Heap} {x qual : Str} {params : Arguments} {body : List Stmt} {scope : Scope} {dvs : List V} {kws : List (Str × V)} {f c : Addr} {fd : FuncData}
    {CX : CXT} {N ps : List Str} {k : Nat} {sp : Sp} (F : FunD K x qual params body scope dvs kws f fd) (C : CodeAt K f c) (S : FnScope N ps scope) (len : ∀ vs H Q E, sp vs H Q E → vs.length = ps.length)
    (hbody : ∀ (A : Around) (outer : List Env) (s : Shared) (H : Hp) (vs : List V) (Q : VK) (E : XK), Room k (A.deeper (envOfC qual scope s.heap.objs.size f (.ref c))) → sp vs H Q E →
      ∃ t, PSs (cxOf CX P w K mg base N qual scope f (.ref c) A outer s H E) body t ∧ t { nx := fun _ H' => Q .non H', rt := Q } (L2.start N vs) H) : FnOk P w K mg base CX (k + 1) f fd ps sp := by
  obtain ⟨oc, od, dV, kV, doc, pm, an, cdv, ct, osl, rfl, lk, hcd, _, _⟩ := F.ex
  have e : cdv = .ref c := C _ _ _ _ lk
  subst e
  exact ⟨len, fun A outer s H args us vs Q E hr e0 hb r hsp => run_ofS lk hcd S hr e0 hb r (len _ _ _ _ hsp) fun room => hbody A outer s H vs Q E room hsp⟩
/-- a statement that promises less -/
theorem ps_imp {X : Cx} {st : Stmt} {t t' : TS} (h : PS X st t) (i : ∀ D σ H, t' D σ H → t D σ H) : PS X st t' := ⟨fun pins s σ H D I z => h.run pins s σ H D I (i D σ H z)⟩
/-- as okC, where no repr is under way -/
theorem okG {P : Program} {w : World} {K : Frag} {mg : Str → Option Value} {base : Heap} {x qual : Str} {params : Arguments} {body : List Stmt} {scope : Scope} {dvs : List V} {kws : List (Str × V)} {f c : Addr} {fd : FuncData}
    {CX : CXT} {N ps : List Str} {k : Nat} {sp : Sp} (F : FunD K x qual params body scope dvs kws f fd) (C : CodeAt K f c) (S : FnScope N ps scope) (len : ∀ vs H Q E, sp vs H Q E → vs.length = ps.length)
    (hbody : ∀ (A : Around) (outer : List Env) (s : Shared) (H : Hp) (vs : List V) (Q : VK) (E : XK), (A.deeper (envOfC qual scope s.heap.objs.size f (.ref c))).guards = some [] → Room k (A.deeper (envOfC qual scope s.heap.objs.size f (.ref c))) → sp vs H Q E →
      ∃ t, PSs (cxOf CX P w K mg base N qual scope f (.ref c) A outer s H E) body t ∧ t { nx := fun _ H' => Q .non H', rt := Q } (L2.start N vs) H) : FnG P w K mg base CX (k + 1) f fd ps sp := by
  obtain ⟨oc, od, dV, kV, doc, pm, an, cdv, ct, osl, rfl, lk, hcd, _, _⟩ := F.ex
  have e : cdv = .ref c := C _ _ _ _ lk
  subst e
  exact ⟨len, fun A outer s H args us vs Q E hg hr e0 hb r hsp => run_ofS lk hcd S hr e0 hb r (len _ _ _ _ hsp) fun room => hbody A outer s H vs Q E (guards_deeper hg) room hsp⟩
theorem bRepr : bootBuiltins "repr" = some (.builtin "repr") := by decide +kernel
/-- a def by its name, its promise -/
structure Def (P : Program) (w : World) (K : Frag) (mg : Str → Option Value) (base : Heap) (CX : CXT) (k : Nat) (x : Str) (ps : List Str) (sp : Sp) : Prop where
  ex : ∃ (f : Addr) (fd : FuncData), FnOk P w K mg base CX k f fd ps sp ∧ mg x = some (.ref f) ∧ PySem.W.keepIn K (.ref f) = true ∧ Binds K fd ps []
/-- .. of one that is called where no repr is under way -/
structure DefG (P : Program) (w : World) (K : Frag) (mg : Str → Option Value) (base : Heap) (CX : CXT) (k : Nat) (x : Str) (ps : List Str) (sp : Sp) : Prop where
  ex : ∃ (f : Addr) (fd : FuncData), FnG P w K mg base CX k f fd ps sp ∧ mg x = some (.ref f) ∧ PySem.W.keepIn K (.ref f) = true ∧ Binds K fd ps []
theorem pe_callG0 {X : Cx} {CX : CXT} {k : Nat} {f : Addr} {fd : FuncData} {sp : Sp} {E : XK} {x : Str} {p pos : Pos} (F : FnG X.prog X.w X.K X.mg X.base CX k f fd [] sp) (hg0 : X.A.guards = some []) (hr : Room k X.A) (hg : Gl X x) (hm : X.mg x = some (.ref f)) (hk : PySem.W.keepIn X.K (.ref f) = true) (hb : Binds X.K fd [] []) (hx : Passes CX X E)
    (hdb : (x == ("__debug__" : Str)) = false := by decide) : PE X (.Call (.Name x p) [] [] pos) (tCall sp [] E tNil) := by
  refine ⟨fun pins s σ H Q I h => ?_⟩
  refine wpAny_Call_Name_kw (ld_glob I hg hm ?_ hdb)
  exact PySem.W.callWith_K0 I.kIn hk (run_guarded (us := []) F hg0 hr hb hx I .nil h)
theorem tyx_n {K : Frag} {H H' : Hp} (k : ExtN H H') {v : V} {t : Value} (h : TyX K H v t) : TyX K H' v t := by
  cases h with
  | base b =>
    refine .base ?_
    cases b with
    | non => exact .non
    | bl x => exact .bl x
    | int x => exact .int x
    | str x => exact .str x
    | flt x => exact .flt x
    | lst e => exact .lst (k _ _ e fun ps z => by cases z)
    | frz e => exact .frz (k _ _ e fun ps z => by cases z)
    | tup e => exact .tup (k _ _ e fun ps z => by cases z)
    | dK e => exact .dK (k _ _ e fun ps z => by cases z)
    | dT e => exact .dT (k _ _ e fun ps z => by cases z)
    | ins e a b c d g => exact .ins (k _ _ e fun ps z => by cases z) a b c d g
  | byt b => exact .byt b
  | set e => exact .set (k _ _ e fun ps z => by cases z)
  | kList a b => exact .kList a b
  | kTuple a b => exact .kTuple a b
  | kDict a b => exact .kDict a b
  | fTuple e => exact .fTuple (k _ _ e fun ps z => by cases z)
  | fDict e => exact .fDict (k _ _ e fun ps z => by cases z)
theorem asked_n {K : Frag} {H H' : Hp} (k : ExtN H H') {v : V} (h : Asked K H v) : Asked K H' v := by
  cases v with
  | ref a =>
    obtain ⟨b, t, h1, h2⟩ := h
    exact ⟨b, t, tyx_n k h1, h2⟩
  | _ => exact h
theorem sqL_n {K : Frag} {H H' : Hp} (e : ExtN H H') {a : Addr} {xs : List V} (h : SqL K H a xs) : SqL K H' a xs := by
  rcases h with (h | ⟨o, h⟩) | h
  · exact .inl (.inl (e _ _ h fun ps z => by cases z))
  · exact .inl (.inr ⟨o, e _ _ h fun ps z => by cases z⟩)
  · exact .inr h
theorem ext_n {H H' H2 : Hp} (a : ExtN H H') (b : Ext H' H2) : ExtN H H2 := fun c o e n => b c o (a c o e n)
theorem eqvA_self : ∀ l : List Str, PyData.eqvAll (l.map PyData.str) (l.map PyData.str) = true
  | [] => by simp [PyData.eqvAll]
  | x :: l => by
    rw [List.map_cons, PyData.eqvAll, eqvA_self l]
    simp [PyData.eqv]
theorem eqvT_self (l : List Str) : PyData.eqv (.tuple (l.map PyData.str)) (.tuple (l.map PyData.str)) = true := by
  rw [PyData.eqv]
  exact eqvA_self l
theorem eqvL_self (l : List Str) : PyData.eqv (.list (l.map PyData.str)) (.list (l.map PyData.str)) = true := by
  rw [PyData.eqv]
  exact eqvA_self l
end B73

/-! mirror rows, with all that is refused -/
namespace B73
open PySem PySem.Spec PyProof.Rows L2 XSt NX XB XE LamX
open PySem.W (Frag)
abbrev sRow : Stmt := top 26
abbrev sRowInit : Stmt := inClass sRow 0
abbrev sRowLetters : Stmt := inClass sRow 1
abbrev sRowHead : Stmt := inClass sRow 2
abbrev sRowAgain : Stmt := inClass sRow 3
/-- what the text has of the class -/
structure RowK (K : Frag) (C : Addr) : Prop where
  cls : Cls K C
  nl : NoAttr K C "_letters"
  nh : NoAttr K C "_head"
  na : NoAttr K C "_again"
  c1 : PySem.W.findIn K (.ref C) "__class__" = some (some (.builtin "object.__class__"))
  c2 : PySem.W.specialIn K (.builtin "object.__class__") "__get__" = some (some (.builtin "getset_descriptor.__get__"))
  c3 : PySem.W.takesIn K (.builtin "object.__class__") = some true
  c4 : PySem.W.mroIn K C (.type "object") = some true
  own : PySem.W.kitOne K (.ref C) (.ref C) = some true
  noStr : PySem.W.kitOne K (.ref C) (.type "str") = some false
  others : ∀ T ∈ (["NoneType", "int", "bool", "str", "tuple", "list", "dict"] : List String), PySem.W.kitOne K (.type T) (.ref C) = some false ∧ PySem.W.notFirst K C (.type T) = true
def rowF (x h g : Str) : List (Str × V) := [("_letters", .str x), ("_head", .str h), ("_again", .str g)]
/-- at b: the row of the letters x with a head and a round -/
def RowAt (H : Hp) (b C : Addr) (x h g : Str) : Prop := ∃ dx, H b = some (.ins C dx (rowF x h g))
theorem RowAt.ext {H H' : Hp} (k : Ext H H') {b C : Addr} {x h g : Str} (r : RowAt H b C x h g) : RowAt H' b C x h g := by
  obtain ⟨dx, e⟩ := r
  exact ⟨dx, k _ _ e⟩
theorem RowAt.n {H H' : Hp} (k : ExtN H H') {b C : Addr} {x h g : Str} (r : RowAt H b C x h g) : RowAt H' b C x h g := by
  obtain ⟨dx, e⟩ := r
  exact ⟨dx, k _ _ e fun ps z => by cases z⟩
theorem RowAt.ty {K : Frag} {H : Hp} {b C : Addr} {x h g : Str} (B : RowK K C) (r : RowAt H b C x h g) : TyX K H (.ref b) (.ref C) := by
  obtain ⟨dx, e⟩ := r
  exact .base (.ins e B.cls B.c1 B.c2 B.c3 B.c4)
def coversB (x g : Str) : Bool := (cs x).all fun c => decide (c ∈ cs g)
def spRowInit (K : Frag) (C cL cT cO : Addr) : Sp := fun vs H Q E => ∃ (b dx : Addr) (u v w : V), vs = [.ref b, u, v, w] ∧ H b = some (.ins C dx []) ∧ Asked K H u ∧ Asked K H v ∧ Asked K H w ∧
  ((lettersV u = false ∧ ∀ H', Ext H H' → E (.ref cL) none H') ∨
   ∃ x, u = .str x ∧ lettersV u = true ∧ x.length ≤ 3 ∧
    (((textV x 4000 v = false ∨ textV x 4000 w = false) ∧ ∀ H', Ext H H' → E (.ref cT) none H') ∨
     ∃ h g, v = .str h ∧ w = .str g ∧ textV x 4000 v = true ∧ textV x 4000 w = true ∧
      ((20 < h.length ∨ 20 < g.length ∨ coversB x g = false) → ∀ H', Ext H H' → E (.ref cO) none H') ∧
      (h.length ≤ 20 → g.length ≤ 20 → coversB x g = true → ∀ H', (∀ c o, c ≠ b → H c = some o → H' c = some o) → RowAt H' b C x h g → Q .non H')))
def spRowL (C : Addr) : Sp := fun vs H Q _ => ∃ b x h g, vs = [.ref b] ∧ RowAt H b C x h g ∧ Q (.str x) H
def spRowH (C : Addr) : Sp := fun vs H Q _ => ∃ b x h g, vs = [.ref b] ∧ RowAt H b C x h g ∧ Q (.str h) H
def spRowG (C : Addr) : Sp := fun vs H Q _ => ∃ b x h g, vs = [.ref b] ∧ RowAt H b C x h g ∧ Q (.str g) H
def spCheckRowX (K : Frag) (C cO : Addr) : Sp := fun vs H Q E => ∃ v, vs = [v] ∧ ((NoBook K H v ∧ E (.ref cO) none H) ∨ ∃ b x h g, v = .ref b ∧ RowAt H b C x h g ∧ Q .non H)
section
variable {P : Program} {w : World} {K : Frag} {mg : Str → Option Value} {base : Heap} {f fL fT C cL cT cO : Addr} {fd dL dT : FuncData}
theorem scRowInit : FnScope ["self", "letters", "head", "again", "letter"] ["self", "letters", "head", "again"] (defScope sRowInit) := ⟨rfl, rfl, rfl, by decide +kernel, rfl, by decide +kernel, by decide +kernel⟩
theorem scRowLetters : FnScope ["self"] ["self"] (defScope sRowLetters) := ⟨rfl, rfl, rfl, by decide +kernel, rfl, by decide +kernel, by decide +kernel⟩
theorem scRowHead : FnScope ["self"] ["self"] (defScope sRowHead) := ⟨rfl, rfl, rfl, by decide +kernel, rfl, by decide +kernel, by decide +kernel⟩
theorem scRowAgain : FnScope ["self"] ["self"] (defScope sRowAgain) := ⟨rfl, rfl, rfl, by decide +kernel, rfl, by decide +kernel, by decide +kernel⟩
theorem ok_row_letters (F : FnM K "letters" "MirrorRow.letters" sRowLetters f fd) (B : RowK K C) : FnOk P w K mg base CX0 1 f fd ["self"] (spRowL C) := by
  refine F.ok scRowLetters (fun vs H Q E h => ?_) (fun cdv A outer s H vs Q E hr h => ?_)
  · obtain ⟨b, x, h, g, rfl, _⟩ := h
    rfl
  · obtain ⟨b, x, h, g, rfl, ⟨dx, e⟩, q⟩ := h
    exact ⟨_, PSs.nox (pss_one (ps_ret (pe_fld (pv 0) rfl))), _, rfl, b, C, dx, _, _, rfl, e, B.cls, B.nl, rfl, q⟩
theorem ok_row_head (F : FnM K "head" "MirrorRow.head" sRowHead f fd) (B : RowK K C) : FnOk P w K mg base CX0 1 f fd ["self"] (spRowH C) := by
  refine F.ok scRowHead (fun vs H Q E h => ?_) (fun cdv A outer s H vs Q E hr h => ?_)
  · obtain ⟨b, x, h, g, rfl, _⟩ := h
    rfl
  · obtain ⟨b, x, h, g, rfl, ⟨dx, e⟩, q⟩ := h
    exact ⟨_, PSs.nox (pss_one (ps_ret (pe_fld (pv 0) rfl))), _, rfl, b, C, dx, _, _, rfl, e, B.cls, B.nh, rfl, q⟩
theorem ok_row_again (F : FnM K "again" "MirrorRow.again" sRowAgain f fd) (B : RowK K C) : FnOk P w K mg base CX0 1 f fd ["self"] (spRowG C) := by
  refine F.ok scRowAgain (fun vs H Q E h => ?_) (fun cdv A outer s H vs Q E hr h => ?_)
  · obtain ⟨b, x, h, g, rfl, _⟩ := h
    rfl
  · obtain ⟨b, x, h, g, rfl, ⟨dx, e⟩, q⟩ := h
    exact ⟨_, PSs.nox (pss_one (ps_ret (pe_fld (pv 0) rfl))), _, rfl, b, C, dx, _, _, rfl, e, B.cls, B.na, rfl, q⟩
theorem ok_row_init (F : FnM K "__init__" "MirrorRow.__init__" sRowInit f fd) (B : RowK K C) (M : Free mg) (mA : mg "all" = none) (gG : ∃ t, mg "MAX_GUIDE" = some (.int 20 t)) (RO : Plain K mg "InvalidOperation" cO)
    (FL : FnOk P w K mg base (L2.CX P w) 2 fL dL ["letters"] (spCheckLettersX K cL)) (gL : mg "check_letters" = some (.ref fL)) (kL : PySem.W.keepIn K (.ref fL) = true) (bL : Binds K dL ["letters"] [])
    (FT : FnOk P w K mg base (L2.CX P w) 4 fT dT ["letters", "text"] (spCheckTextX K cT)) (gT : mg "check_text" = some (.ref fT)) (kT : PySem.W.keepIn K (.ref fT) = true) (bT : Binds K dT ["letters", "text"] []) :
    FnOk P w K mg base (L2.CX P w) 5 f fd ["self", "letters", "head", "again"] (spRowInit K C cL cT cO) := by
  obtain ⟨tk, gG⟩ := gG
  refine F.ok scRowInit (fun vs H Q E h => ?_) (fun cdv A outer s H vs Q E hr h => ?_)
  · obtain ⟨b, dx, u, v, w, rfl, _⟩ := h
    rfl
  · obtain ⟨b, dx, u, v, w, rfl, eb, a1, a2, a3, modes⟩ := h
    have hs : sizeLine = 16777216 := sizeLine_eq
    refine ⟨_, pss_cons (ps_expr (pe_call FL (hr.mono (by decide)) (by rfl) gL kL bL .nil (passes_call (takes_of rfl rfl rfl rfl) (fun _ _ _ _ z => z)) (pa_cons (pv 1) pa_nil)))
      (pss_cons (ps_expr (pe_call FT hr (by rfl) gT kT bT .nil (passes_call (takes_of rfl rfl rfl rfl) (fun _ _ _ _ z => z)) (pa_cons (pv 1) (pa_cons (pv 2) pa_nil))))
      (pss_cons (ps_expr (pe_call FT hr (by rfl) gT kT bT .nil (passes_call (takes_of rfl rfl rfl rfl) (fun _ _ _ _ z => z)) (pa_cons (pv 1) (pa_cons (pv 3) pa_nil))))
      (pss_cons (ps_if (PW.pt (pw_or (pt_cmpR op_gt (pe_callB call_len (by rfl) M.len PySem.boot_len (pa_cons (pv 2) pa_nil)) (pe_glob (v := .int 20) (by rfl) gG ⟨tk, rfl⟩) (nomark _)) (pw_or1 (pt_cmpR op_gt (pe_callB call_len (by rfl) M.len PySem.boot_len (pa_cons (pv 3) pa_nil)) (pe_glob (v := .int 20) (by rfl) gG ⟨tk, rfl⟩) (nomark _)))))
        (pss_one (ps_raise rfl (takes_of rfl rfl rfl rfl) (pmk_own PySem.F.excBase_ValueError RO.exc RO.at_ RO.keep (raises_own RO.sub RO.ty) (by exact rfl)))) pss_nil)
      (pss_cons (ps_if (pt_not (pt_val (pe_callB (cr_all rfl) (by rfl) mA (by decide +kernel) (pa_cons (pe_lc (own := [("letter", 4)]) (g := gName 4) (tt := tYes) (te := tOp rInS (tVar 4) (tVar 3)) rfl scRowInit.nd (pi_str (pv 1)) (blkOk_by (N := ["self", "letters", "head", "again", "letter"]) (sc := defScope sRowInit) (by decide +kernel))
          (fun _ _ _ _ _ => pg_name (i := 4) scRowInit.nd rfl (Or.inl rfl)) (fun _ _ _ _ _ => pts_nil) (fun _ _ _ _ _ => by exact pe_cmpR op_inS (pv 4) (pv 3) rfl)) pa_nil))))
        (pss_one (ps_raise rfl (takes_of rfl rfl rfl rfl) (pmk_own PySem.F.excBase_ValueError RO.exc RO.at_ RO.keep (raises_own RO.sub RO.ty) (by exact rfl)))) pss_nil)
      (pss_cons (ps_fld (pv 0) (pv 1) rfl) (pss_cons (ps_fld (pv 0) (pv 2) rfl) (pss_one (ps_fld (pv 0) (pv 3) rfl)))))))), ?_⟩
    refine ⟨_, rfl, u, rfl, a1, fun gl H1 k1 => ?_, fun bl H1 k1 => ?_⟩
    rotate_left
    · rcases modes with ⟨_, q⟩ | ⟨x, rfl, m, _⟩
      · exact q _ k1
      · rw [bl] at m
        cases m
    rcases modes with ⟨m, _⟩ | ⟨x, rfl, _, lx, modes⟩
    · rw [gl] at m
      cases m
    refine ⟨_, rfl, _, rfl, x, v, rfl, asked_ext k1 a1, asked_ext k1 a2, gl, fun gv H2 k2 => ?_, fun bv H2 k2 => ?_⟩
    rotate_left
    · rcases modes with ⟨_, q⟩ | ⟨h, g, rfl, rfl, m, _⟩
      · exact q _ (k1.trans k2)
      · rw [bv] at m
        cases m
    have k12 := k1.trans k2
    refine ⟨_, rfl, _, rfl, x, w, rfl, asked_ext k12 a1, asked_ext k12 a3, gl, fun gw H3 k3 => ?_, fun bw H3 k3 => ?_⟩
    rotate_left
    · rcases modes with ⟨_, q⟩ | ⟨h, g, rfl, rfl, _, m, _⟩
      · exact q _ (k12.trans k3)
      · rw [bw] at m
        cases m
    have k13 := k12.trans k3
    rcases modes with ⟨m | m, _⟩ | ⟨h, g, rfl, rfl, _, _, qe, q⟩
    · rw [gv] at m
      cases m
    · rw [gw] at m
      cases m
    have lh : h.length ≤ 8000 := a2.1
    have lg : g.length ≤ 8000 := a3.1
    refine ⟨_, rfl, _, h.length, rfl, ⟨by omega, rfl⟩, _, _, rfl, rfl, _, rfl, ?_⟩
    by_cases c1 : 20 < h.length
    · rw [decide_eq_true (show (20 : Int) < (h.length : Int) by omega)]
      exact iteT (iteT (qe (.inl c1) _ k13))
    rw [decide_eq_false (show ¬ (20 : Int) < (h.length : Int) by omega)]
    refine iteF ⟨_, rfl, _, g.length, rfl, ⟨by omega, rfl⟩, _, _, rfl, rfl, _, rfl, ?_⟩
    by_cases c2 : 20 < g.length
    · rw [decide_eq_true (show (20 : Int) < (g.length : Int) by omega)]
      exact iteT (qe (.inr (.inl c2)) _ k13)
    rw [decide_eq_false (show ¬ (20 : Int) < (g.length : Int) by omega)]
    refine iteF ⟨_, rfl, x, rfl, fun D hD => ?_⟩
    have eb3 := k13 _ _ eb
    have nDb : b ≠ D := ne_of_none eb3 hD
    refine walk_it walk_str (fun i H4 => H4 D = some (.lst ((((cs x).take i).map fun c => decide (c ∈ cs g)).map V.bl)) ∧ Ext H3 H4) ⟨upd_same, (Ext.refl _).new hD⟩ (fun _ _ _ _ => trivial) ?_ ?_
    · rintro i v H4 H5 hi ⟨f1, f2⟩ ⟨rfl, c, hc, rfl⟩
      have gs : (cs x)[i]? = some c := by
        unfold cs
        rw [Array.getElem?_toList]
        exact hc
      refine ⟨rfl, _, rfl, _, rfl, c, g, rfl, rfl, ?_⟩
      have li : i < x.length := hi
      refine ⟨_, f1, by rw [List.length_map, List.length_map]; have := List.length_take_le i (cs x); omega, ?_, fun a o e => ?_⟩
      · rw [take_more gs, List.map_append, List.map_append]
        exact upd_same
      · rw [upd_ne (ne_of_none e hD)]
        exact f2 a o e
    · rintro H4 ⟨f1, f2⟩
      have lc : (cs x).length = x.cps.size := by
        rw [cs_len]
        rfl
      rw [← lc, List.take_length] at f1
      refine ⟨D, (cs x).map fun c => decide (c ∈ cs g), rfl, SqL.of f1, _, rfl, ?_⟩
      have e9 : ((cs x).map fun c => decide (c ∈ cs g)).all id = coversB x g := by
        unfold coversB
        rw [List.all_map]
        rfl
      rw [e9]
      have k14 := k13.trans f2
      cases cb : coversB x g with
      | false => exact iteT (qe (.inr (.inr cb)) _ k14)
      | true =>
        have eb4 := f2 _ _ eb3
        refine iteF ⟨_, rfl, _, rfl, b, C, dx, [], rfl, eb4, B.cls, B.nl, by decide, ?_⟩
        refine ⟨_, rfl, _, rfl, b, C, dx, [("_letters", .str x)], rfl, upd_same, B.cls, B.nh, (by show 1 < 1000; decide), ?_⟩
        refine ⟨_, rfl, _, rfl, b, C, dx, [("_letters", .str x), ("_head", .str h)], rfl, upd_same, B.cls, B.na, (by show 2 < 1000; decide), ?_⟩
        refine q (by omega) (by omega) cb _ (fun a o n e => ?_) ⟨dx, upd_same⟩
        rw [upd_ne n, upd_ne n, upd_ne n]
        exact k14 _ _ e
end
end B73

/-! a text taken so often -/
namespace NX
open PySem PySem.Spec PyProof.Rows L2
def rMulS : R2 := fun x y H Q => ∃ (z : Str) (n : Nat), x = .str z ∧ y = .int (n : Int) ∧ z.length * n ≤ 16777216 ∧ z.length ≤ 16777216 ∧ n ≤ 16777216 ∧ Q (.str (Txt.mul z (n : Int))) H
theorem op_mulS {X : Cx} : OpR X (binaryOp .Mult) rMulS := by
  intro pins s σ H x y v u Q I rx ry h
  obtain ⟨z, n, rfl, rfl, h1, h0, h2, q⟩ := h
  obtain ⟨t, rfl⟩ := rx
  obtain ⟨t2, rfl⟩ := ry
  have hs : sizeLine = 16777216 := sizeLine_eq
  refine PySem.SB.mul ⟨?_, fun n1 _ => ?_, fun _ _ => ?_⟩ (fun t' k => ⟨.str _, H, I.tok k, ⟨t', rfl⟩, q⟩)
  · rw [Bool.or_eq_false_iff, decide_eq_false_iff_not, decide_eq_false_iff_not]
    omega
  · have np : (0 : Int) < (n : Int) := by omega
    have big : (16777216 : Int) ≤ (2 ^ 63 - 1) / (n : Int) := by
      rw [Int.le_ediv_iff_mul_le np]
      have z2 : (16777216 : Int) * (n : Int) ≤ 16777216 * 16777216 := Int.mul_le_mul_of_nonneg_left (by omega) (by decide)
      omega
    omega
  · have e : ((n : Int)).toNat = n := by omega
    rw [e]
    unfold Builtin.Str.tooLong
    rw [decide_eq_false_iff_not, hs]
    omega
theorem fold_rep (c : Nat) : ∀ (k : Nat) (acc : Array Nat), ((List.replicate k #[c]).foldl (· ++ ·) acc).toList = acc.toList ++ List.replicate k c
  | 0, acc => by simp
  | k + 1, acc => by
    rw [List.replicate_succ, List.foldl_cons, fold_rep c k, Array.toList_append, List.append_assoc]
    rfl
theorem mul_sign (c n : Nat) (h : 2 ≤ n) : (Txt.mul ⟨#[c]⟩ (n : Int)).cps.toList = List.replicate n c := by
  unfold Txt.mul
  have e1 : ¬ (n : Int) < 1 := by omega
  have e2 : ((n : Int) == 1 || (⟨#[c]⟩ : Str).length == 0) = false := by
    rw [Bool.or_eq_false_iff]
    refine ⟨?_, rfl⟩
    rw [beq_eq_false_iff_ne]
    omega
  rw [if_neg e1, e2, if_neg (by decide)]
  have e3 : ((n : Int)).toNat = n := by omega
  rw [e3, fold_rep]
  rfl
theorem mul_len (c n : Nat) (h : 2 ≤ n) : (Txt.mul ⟨#[c]⟩ (n : Int)).length = n := by
  have e := congrArg List.length (mul_sign c n h)
  rw [List.length_replicate, Array.length_toList] at e
  exact e
end NX

/-! the guide of a row; mirrors that grow -/
namespace B73
open PySem PySem.Spec PyProof.Rows L2 XSt NX XB XE LamX
open PySem.W (Frag)
abbrev sGuideOf : Stmt := top 19
abbrev sClosed : Stmt := top 21
abbrev sMirrorOf : Stmt := top 20
def roundsN (h g : Str) (n : Nat) : Nat := (n - h.length) / g.length + 1
def guideF (h g : Str) (n : Nat) : Str := cutS (h ++ Txt.mul g (roundsN h g n : Nat)) none (some (n : Int))
def spGuideOf : Sp := fun vs H Q _ => ∃ (h g : Str) (n : Nat), vs = [.str h, .str g, .int (n : Int)] ∧ h.length ≤ 20 ∧ 1 ≤ g.length ∧ g.length ≤ 20 ∧ n ≤ 4000 ∧ Q (.str (guideF h g n)) H
/-- the places of the letters, as a dict -/
abbrev Ahead := List (L2.Key × V)
def closeF (t : Str) (a : Ahead) (c : Str) : Str := match valV a (Sum.inr c) with
  | some (.int i) => t ++ cutS t (some i) none
  | _ => t ++ (c ++ t)
def AheadOk (t : Str) (a : Ahead) : Prop := a.length ≤ 5000 ∧ ∀ c v, valV a (Sum.inr c) = some v → ∃ i : Nat, v = .int (i : Int) ∧ i ≤ t.length
def spClosed : Sp := fun vs H Q _ => ∃ (t c : Str) (d : Addr) (a : Ahead), vs = [.str t, .ref d, .str c] ∧ H d = some (.dK a) ∧ AheadOk t a ∧ t.length ≤ 8001 ∧ c.length = 1 ∧ Q (.str (closeF t a c)) H
section
variable {P : Program} {w : World} {K : Frag} {mg : Str → Option Value} {base : Heap} {f fC : Addr} {fd dC : FuncData}
theorem scGuideOf : FnScope ["head", "again", "size", "rounds"] ["head", "again", "size"] (defScope sGuideOf) := ⟨rfl, rfl, rfl, by decide +kernel, rfl, by decide +kernel, by decide +kernel⟩
theorem scClosed : FnScope ["text", "ahead", "letter"] ["text", "ahead", "letter"] (defScope sClosed) := ⟨rfl, rfl, rfl, by decide +kernel, rfl, by decide +kernel, by decide +kernel⟩
theorem fold_size (a : Array Nat) : ∀ (k : Nat) (acc : Array Nat), ((List.replicate k a).foldl (· ++ ·) acc).size = acc.size + k * a.size
  | 0, acc => by simp
  | k + 1, acc => by
    rw [List.replicate_succ, List.foldl_cons, fold_size a k, Array.size_append, Nat.succ_mul]
    omega
theorem mul_most (g : Str) (n : Nat) : (Txt.mul g (n : Int)).length ≤ g.length * n := by
  unfold Txt.mul
  by_cases c : (n : Int) < 1
  · rw [if_pos c]
    exact Nat.zero_le _
  · rw [if_neg c]
    by_cases c2 : ((n : Int) == 1 || g.length == 0) = true
    · rw [if_pos c2]
      exact Nat.le_mul_of_pos_right _ (by omega)
    · rw [if_neg c2]
      show ((List.replicate ((n : Int)).toNat g.cps).foldl (· ++ ·) #[]).size ≤ _
      rw [fold_size]
      show 0 + ((n : Int)).toNat * g.length ≤ g.length * n
      rw [Int.toNat_natCast, Nat.mul_comm]
      omega
theorem ok_guide_of (F : FnP K "guide_of" sGuideOf f fd) (M : Free mg) (mX : mg "max" = none) : FnOk P w K mg base CX0 1 f fd ["head", "again", "size"] spGuideOf := by
  refine F.ok scGuideOf (fun vs H Q E h => ?_) (fun cdv A outer s H vs Q E hr h => ?_)
  · obtain ⟨h, g, n, rfl, _⟩ := h
    rfl
  · obtain ⟨h, g, n, rfl, lh, g1, g20, n4, q⟩ := h
    have hs : sizeLine = 16777216 := sizeLine_eq
    refine ⟨_, PSs.nox (pss_cons (ps_set (i := 3) scGuideOf.nd rfl (.inl rfl) (pe_op op_add (pe_op op_fdiv (pe_callB (call_max2 rfl) (by rfl) mX (by decide +kernel) (pa_cons pe_int (pa_cons (pe_op op_sub (pv 2) (pe_callB call_len (by rfl) M.len PySem.boot_len (pa_cons (pv 0) pa_nil))) pa_nil))) (pe_callB call_len (by rfl) M.len PySem.boot_len (pa_cons (pv 1) pa_nil))) pe_int))
      (pss_one (ps_ret (pe_slice sl_str (pe_op op_addS (pv 0) (pe_op op_mulS (pv 1) (pv 3))) po_none (po_some (pv 2)))))), ?_⟩
    refine ⟨_, rfl, _, rfl, _, h.length, rfl, ⟨by omega, rfl⟩, _, _, rfl, rfl, _, _, rfl, _, rfl, _, g.length, rfl, ⟨by omega, rfl⟩, _, _, rfl, rfl, ?_, _, _, rfl, rfl, ?_⟩
    · exact ⟨by omega, by omega⟩
    · have e : ((if ((n : Int) - (h.length : Int)) > 0 then ((n : Int) - (h.length : Int)) else 0) / (g.length : Int) + 1) = ((roundsN h g n : Nat) : Int) := by
        unfold roundsN
        by_cases c : (n : Int) - (h.length : Int) > 0
        · rw [if_pos c]
          have z : (n : Int) - (h.length : Int) = ((n - h.length : Nat) : Int) := by omega
          rw [z]
          simp
        · rw [if_neg c]
          have z : n - h.length = 0 := by omega
          rw [z]
          simp
      show gName 3 (V.int ((if (n : Int) - (h.length : Int) > 0 then (n : Int) - (h.length : Int) else 0) / (g.length : Int) + 1)) _ _ _
      rw [e]
      have rn : roundsN h g n ≤ 4001 := by
        unfold roundsN
        have := Nat.div_le_self (n - h.length) g.length
        omega
      have gm : g.length * roundsN h g n ≤ 20 * 4001 := Nat.mul_le_mul g20 rn
      have ml : (Txt.mul g ((roundsN h g n : Nat) : Int)).length ≤ 20 * 4001 := Nat.le_trans (mul_most g _) gm
      refine ⟨_, rfl, _, rfl, _, rfl, g, roundsN h g n, rfl, rfl, by omega, by omega, by omega, _, _, rfl, rfl, by omega, _, rfl, _, rfl, _, rfl, by rw [app_len]; omega, q⟩
theorem ok_closed (F : FnP K "closed" sClosed f fd) : FnOk P w K mg base CX0 1 f fd ["text", "ahead", "letter"] spClosed := by
  refine F.ok scClosed (fun vs H Q E h => ?_) (fun cdv A outer s H vs Q E hr h => ?_)
  · obtain ⟨t, c, d, a, rfl, _⟩ := h
    rfl
  · obtain ⟨t, c, d, a, rfl, ed, ok, lt, lc, q⟩ := h
    have hs : sizeLine = 16777216 := sizeLine_eq
    refine ⟨_, PSs.nox (pss_one (ps_ret (pe_op op_addS (pv 0) (pe_ifExp (pt_cmp (pc_din (hu_of hr) (pv 2) (pv 1))) (pe_slice sl_str (pv 0) (po_some (pe_dget (hu_of hr) (pv 1) (pv 2) (fun _ _ => rfl))) po_none) (pe_op op_addS (pv 2) (pv 0)))))), ?_⟩
    refine ⟨_, rfl, _, rfl, _, rfl, d, _, rfl, DGet.k (k := Sum.inr c) ed, _, rfl, ?_⟩
    have cut_le : ∀ i : Int, (cutS t (some i) none).length ≤ t.length := fun i => by
      rw [← cs_len]
      unfold cutS
      rw [cs_mk, List.length_take, List.length_drop]
      have := cs_len t
      unfold cs at this
      omega
    cases hv : valV a (Sum.inr c) with
    | none =>
      have e : closeF t a c = t ++ (c ++ t) := by
        unfold closeF
        rw [hv]
      rw [e] at q
      exact iteF ⟨_, rfl, _, rfl, _, _, rfl, rfl, by omega, _, _, rfl, rfl, by rw [app_len]; omega, q⟩
    | some v =>
      obtain ⟨i, rfl, li⟩ := ok.2 c v hv
      have e : closeF t a c = t ++ cutS t (some (i : Int)) none := by
        unfold closeF
        rw [hv]
      rw [e] at q
      have := cut_le (i : Int)
      refine iteT ⟨_, rfl, _, rfl, _, rfl, d, _, rfl, (hv ▸ DGet.k (k := Sum.inr c) ed), _, rfl, t, rfl, by omega, _, _, rfl, rfl, by omega, q⟩
end
end B73

/-! mirrors that grow, step by step -/
namespace B73
open PySem PySem.Spec PyProof.Rows L2 XSt NX XB XE LamX
open PySem.W (Frag)
def signAt (z : Str) (i : Nat) : Str := ⟨#[(cs z).getD i 0]⟩
def letterF (h g : Str) (i : Nat) : Str := if i < h.length then signAt h i else signAt g ((i - h.length) % g.length)
/-- text and places behind so many letters -/
def stF (h g : Str) : Nat → Str × Ahead
  | 0 => (Str.ofString "", [])
  | i + 1 => (closeF (stF h g i).1 (stF h g i).2 (letterF h g i), putK (stF h g i).2 (Sum.inr (letterF h g i)) (.int ((stF h g i).1.length : Nat)))
def inB (part t : Str) : Bool := !(Builtin.Str.occurrences t part 0 t.length 1).isEmpty
def onB (size : Int) (part t : Str) : Bool := decide ((t.length : Int) < size) || !inB part t
theorem close_grows (t : Str) (a : Ahead) (c : Str) : t.length ≤ (closeF t a c).length := by
  unfold closeF
  split <;> rw [app_len] <;> omega
theorem st_ok (h g : Str) : ∀ i, (stF h g i).2.length ≤ i ∧ ∀ c v, valV (stF h g i).2 (Sum.inr c) = some v → ∃ j : Nat, v = .int (j : Int) ∧ j ≤ (stF h g i).1.length
  | 0 => ⟨Nat.le_refl _, fun c v z => by cases z⟩
  | i + 1 => by
    obtain ⟨l, ok⟩ := st_ok h g i
    have gr := close_grows (stF h g i).1 (stF h g i).2 (letterF h g i)
    refine ⟨Nat.le_trans (length_putK _ _ _) (by omega), fun c v z => ?_⟩
    have z : valV (putK (stF h g i).2 (Sum.inr (letterF h g i)) (.int ((stF h g i).1.length : Nat))) (Sum.inr c) = some v := z
    rw [valV_put] at z
    by_cases e : (Sum.inr c : L2.Key) = Sum.inr (letterF h g i)
    · rw [if_pos e] at z
      cases z
      exact ⟨_, rfl, gr⟩
    · rw [if_neg e] at z
      obtain ⟨j, rfl, lj⟩ := ok c v z
      exact ⟨j, rfl, Nat.le_trans lj gr⟩
theorem letter_one (h g : Str) (i : Nat) : (letterF h g i).length = 1 := by
  unfold letterF signAt
  split <;> rfl
def spMirrorOf : Sp := fun vs H Q _ => ∃ (h g part : Str) (size : Int) (n : Nat), vs = [.str h, .str g, .int size, .str part] ∧ h.length ≤ 20 ∧ 1 ≤ g.length ∧ g.length ≤ 20 ∧ n ≤ 5000 ∧
  (∀ i, i < n → onB size part (stF h g i).1 = true) ∧ onB size part (stF h g n).1 = false ∧ (∀ i, i ≤ n → (stF h g i).1.length ≤ 8001) ∧
  ∀ r d H', Ext H H' → H' r = some (.tup [.str (stF h g n).1, .ref d]) → H' d = some (.dK (stF h g n).2) → Q (.ref r) H'
section
variable {P : Program} {w : World} {K : Frag} {mg : Str → Option Value} {base : Heap} {f fC : Addr} {fd dC : FuncData}
theorem scMirrorOf : FnScope ["head", "again", "size", "part", "text", "ahead", "at", "letter", "longer"] ["head", "again", "size", "part"] (defScope sMirrorOf) := ⟨rfl, rfl, rfl, by decide +kernel, rfl, by decide +kernel, by decide +kernel⟩
theorem at_sign {z : Str} {i : Nat} (h : i < z.length) : atI z.cps.toList ((i : Nat) : Int) = some ((cs z).getD i 0) := by
  have l := cs_len z
  refine atI_nat ?_
  show (cs z)[i]? = _
  rw [List.getD_eq_getElem?_getD, List.getElem?_eq_getElem (by omega)]
  rfl
theorem ok_mirror_of (F : FnP K "mirror_of" sMirrorOf f fd) (M : Free mg) (FC : FnOk P w K mg base CX0 1 fC dC ["text", "ahead", "letter"] spClosed) (gC : mg "closed" = some (.ref fC)) (kC : PySem.W.keepIn K (.ref fC) = true) (bC : Binds K dC ["text", "ahead", "letter"] []) : FnOk P w K mg base CX0 2 f fd ["head", "again", "size", "part"] spMirrorOf := by
  refine F.ok scMirrorOf (fun vs H Q E h => ?_) (fun cdv A outer s H vs Q E hr h => ?_)
  · obtain ⟨h, g, part, size, n, rfl, _⟩ := h
    rfl
  · obtain ⟨h, g, part, size, n, rfl, lh, g1, g20, n4, on, off, lens, q⟩ := h
    have hs : sizeLine = 16777216 := sizeLine_eq
    refine ⟨_, PSs.nox (pss_cons (ps_set (i := 4) scMirrorOf.nd rfl (.inl rfl) pe_str)
      (pss_cons (ps_set (i := 5) scMirrorOf.nd rfl (.inl rfl) pe_dnewK)
      (pss_cons (ps_set (i := 6) scMirrorOf.nd rfl (.inl rfl) pe_int)
      (pss_cons (ps_while PassesOwn.never (PW.pt (pw_or (pt_cmpR op_lt (pe_callB call_len (by rfl) M.len PySem.boot_len (pa_cons (pv 4) pa_nil)) (pv 2) (nomark _)) (pw_or1 (pt_cmpR op_notIn_str (pv 3) (pv 4) rfl))))
        (pss_cons (ps_set (i := 7) scMirrorOf.nd rfl (.inl rfl) (pe_ifExp (pt_cmpR op_lt (pv 6) (pe_callB call_len (by rfl) M.len PySem.boot_len (pa_cons (pv 0) pa_nil)) (nomark _)) (pe_ix ix_str (pv 0) (pv 6) (fun _ _ => rfl)) (pe_ix ix_str (pv 1) (pe_op op_mod (pe_op op_sub (pv 6) (pe_callB call_len (by rfl) M.len PySem.boot_len (pa_cons (pv 0) pa_nil))) (pe_callB call_len (by rfl) M.len PySem.boot_len (pa_cons (pv 1) pa_nil))) (fun _ _ => rfl))))
        (pss_cons (ps_set (i := 8) scMirrorOf.nd rfl (.inl rfl) (pe_call FC hr (by rfl) gC kC bC .nil pass0 (pa_cons (pv 4) (pa_cons (pv 5) (pa_cons (pv 7) pa_nil)))))
        (pss_cons (ps_dput (hu_of hr) (pv 5) (pv 7) (pe_callB call_len (by rfl) M.len PySem.boot_len (pa_cons (pv 4) pa_nil)) rfl)
        (pss_cons (ps_set (i := 4) scMirrorOf.nd rfl (.inl rfl) (pv 8))
        (pss_one (ps_aug (i := 6) scMirrorOf.nd rfl (.inl rfl) pe_int ip_add)))))))
      (pss_one (ps_ret (pe_tup (pa_cons (pv 4) (pa_cons (pv 5) pa_nil))))))))), ?_⟩
    intro d hd
    refine ⟨fun k σ Hx => ∃ i o7 o8, k + i = n ∧ σ = [some (.str h), some (.str g), some (.int size), some (.str part), some (.str (stF h g i).1), some (.ref d), some (.int (i : Int)), o7, o8] ∧ Hx d = some (.dK (stF h g i).2) ∧ Ext H Hx, ⟨n, 0, _, _, rfl, rfl, upd_same, (Ext.refl H).new hd⟩, fun k σ Hx hk => ?_⟩
    obtain ⟨i, o7, o8, ki, rfl, ed, x1⟩ := hk
    have li := lens i (by omega)
    obtain ⟨al, aok⟩ := st_ok h g i
    refine ⟨_, rfl, _, (stF h g i).1.length, rfl, ⟨by omega, rfl⟩, _, rfl, _, _, rfl, rfl, _, rfl, ?_⟩
    have split_ : onB size part (stF h g i).1 = (decide (((stF h g i).1.length : Int) < size) || !(!(Builtin.Str.occurrences (stF h g i).1 part 0 (stF h g i).1.length 1).isEmpty)) := rfl
    by_cases hon : onB size part (stF h g i).1 = true
    · have lt : i < n := by
        rcases Nat.lt_or_ge i n with z | z
        · exact z
        · have e : i = n := by omega
          rw [e, off] at hon
          cases hon
      have go : ∀ (X : Prop), (X → (fun c (H1 : Hp) => if c = true then (if true = true then X else False) else True) true Hx) := fun X x => by
        show if true = true then _ else _
        exact iteT (iteT x)
      rw [split_, Bool.or_eq_true] at hon
      cases c : decide (((stF h g i).1.length : Int) < size)
      case' true => refine iteT (iteT ?_)
      case' false =>
        rw [c] at hon
        have c2 := hon.resolve_left (by decide)
        refine iteF ⟨_, rfl, _, rfl, _, _, rfl, rfl, _, rfl, ?_⟩
        rw [c2]
        refine iteT ?_
      all_goals
        refine ⟨_, fun σ' H' h' => ⟨k - 1, by omega, h'⟩, ?_⟩
        have l1 := letter_one h g i
        have tell : (if (i : Int) < (h.length : Int) then True else True) := by split <;> trivial
        refine ⟨_, rfl, _, rfl, _, h.length, rfl, ⟨by omega, rfl⟩, _, _, rfl, rfl, _, rfl, ?_⟩
        by_cases ih : i < h.length
        case' pos =>
          rw [decide_eq_true (show (i : Int) < (h.length : Int) by omega)]
          have el : letterF h g i = ⟨#[(cs h).getD i 0]⟩ := by
            unfold letterF
            rw [if_pos ih]
            rfl
          refine iteT ⟨_, rfl, _, rfl, h, _, _, rfl, rfl, by omega, at_sign ih, ?_⟩
        case' neg =>
          rw [decide_eq_false (show ¬ (i : Int) < (h.length : Int) by omega)]
          have el : letterF h g i = ⟨#[(cs g).getD ((i - h.length) % g.length) 0]⟩ := by
            unfold letterF
            rw [if_neg ih]
            rfl
          have em : ((i : Int) - (h.length : Int)) % (g.length : Int) = (((i - h.length) % g.length : Nat) : Int) := by
            have z : (i : Int) - (h.length : Int) = ((i - h.length : Nat) : Int) := by omega
            rw [z]
            exact (Int.natCast_emod _ _).symm
          refine iteF ⟨_, rfl, _, rfl, _, rfl, _, h.length, rfl, ⟨by omega, rfl⟩, _, _, rfl, rfl, _, rfl, _, g.length, rfl, ⟨by omega, rfl⟩, _, _, rfl, rfl, by omega, g, _, _, rfl, rfl, by omega, (by rw [em]; exact at_sign (Nat.mod_lt _ (by omega))), ?_⟩
        all_goals
          rw [← el]
          refine ⟨_, rfl, _, rfl, _, rfl, _, _, d, _, rfl, ed, ⟨by omega, aok⟩, li, l1, ?_⟩
          refine ⟨_, rfl, _, (stF h g i).1.length, rfl, ⟨by omega, rfl⟩, ?_⟩
          refine ⟨_, rfl, _, rfl, d, _, rfl, DPut.k (k := Sum.inr (letterF h g i)) ed (by omega), _, rfl, _, rfl, _, _, rfl, rfl, ?_⟩
          refine ⟨i + 1, _, _, by omega, rfl, upd_same, fun b o e => ?_⟩
          rw [upd_ne (ne_of_none e hd)]
          exact x1 b o e
    · have e0 : onB size part (stF h g i).1 = false := by
        cases z : onB size part (stF h g i).1 with
        | true => exact absurd z hon
        | false => rfl
      have i_n : i = n := by
        rcases Nat.lt_or_ge i n with z | z
        · rw [on i z] at e0
          cases e0
        · omega
      subst i_n
      rw [split_, Bool.or_eq_false_iff] at e0
      rw [e0.1]
      refine iteF ⟨_, rfl, _, rfl, _, _, rfl, rfl, _, rfl, ?_⟩
      rw [e0.2]
      refine iteF ⟨_, rfl, _, rfl, by show 2 ≤ sizeLine; decide, fun r hr => ?_⟩
      have x2 := (Ext.refl Hx).new hr (o := .tup [.str (stF h g i).1, .ref d])
      exact q r d _ (x1.trans x2) upd_same (x2 _ _ ed)
end
end B73

/-! what rows tell, with all that is refused -/
namespace B73
open PySem PySem.Spec PyProof.Rows L2 XSt NX XB XE LamX
open PySem.W (Frag)
abbrev sRowGuide : Stmt := inClass sRow 4
abbrev sRowStart : Stmt := inClass sRow 5
abbrev sRowHas : Stmt := inClass sRow 6
abbrev sStretches : Stmt := top 22
/-- so many letters are enough -/
structure Steps (h g : Str) (size : Int) (part : Str) (n : Nat) : Prop where
  few : n ≤ 5000
  on : ∀ i, i < n → onB size part (stF h g i).1 = true
  off : onB size part (stF h g n).1 = false
  lens : ∀ i, i ≤ n → (stF h g i).1.length ≤ 8001
structure Guide (x h g : Str) : Prop where
  lx : x.length ≤ 3
  ok : PyData.strOk x = true
  good : lettersV (.str x) = true
  lh : h.length ≤ 20
  g1 : 1 ≤ g.length
  lg : g.length ≤ 20
def spGuideX (K : Frag) (C cN : Addr) : Sp := fun vs H Q E => ∃ b x h g v, vs = [.ref b, v] ∧ RowAt H b C x h g ∧ Guide x h g ∧ Asked K H v ∧ (numV 0 400 v = false → ∀ d H', Ext H H' → H' d = some (.xd (numF v)) → E (.ref cN) (some d) H') ∧ (∀ m : Nat, v = .int (m : Int) → m ≤ 400 → ∀ H', Ext H H' → Q (.str (guideF h g m)) H')
def spStartX (K : Frag) (C cN : Addr) : Sp := fun vs H Q E => ∃ b x h g v, vs = [.ref b, v] ∧ RowAt H b C x h g ∧ Guide x h g ∧ Asked K H v ∧ (numV 0 4000 v = false → ∀ d H', Ext H H' → H' d = some (.xd (numF v)) → E (.ref cN) (some d) H') ∧
  (numV 0 4000 v = true → ∃ m n : Nat, v = .int (m : Int) ∧ Steps h g (m : Int) (Str.ofString "") n ∧ ∀ H', Ext H H' → Q (.str (cutS (stF h g n).1 none (some (m : Int)))) H')
def spStretches : Sp := fun vs H Q _ => ∃ (x h g : Str) (size : Int) (n : Nat), vs = [.str x, .str h, .str g, .int size] ∧ Guide x h g ∧ Steps h g (size - 1) (Str.ofString "") n ∧
  ∀ r H', Ext H H' → H' r = some (.lst (((XSt.signs x).map fun c => closeF (stF h g n).1 (stF h g n).2 c).map V.str)) → Q (.ref r) H'
def hasB (x h g y : Str) (n : Nat) : Bool := ((XSt.signs x).map fun c => closeF (stF h g n).1 (stF h g n).2 c).any fun t => inB y t
def spRowHas (K : Frag) (C : Addr) : Sp := fun vs H Q _ => ∃ b x h g v, vs = [.ref b, v] ∧ RowAt H b C x h g ∧ Guide x h g ∧ Asked K H v ∧ (textV x 4000 v = false → ∀ H', Ext H H' → Q (.bl false) H') ∧
  (textV x 4000 v = true → ∃ y n, v = .str y ∧ Steps h g ((y.length : Int) - 1) (Str.ofString "") n ∧ ∀ H', Ext H H' → Q (.bl (hasB x h g y n)) H')
def spIsText0 (K : Frag) : Sp := fun vs H Q _ => ∃ x v, vs = [.str x, v] ∧ lettersV (.str x) = true ∧ Asked K H (.str x) ∧ Asked K H v ∧ ∀ H', Ext H H' → Q (.bl (textV x 4000 v)) H'
theorem is_text0 {P : Program} {w : World} {K : Frag} {mg : Str → Option Value} {base : Heap} {f cL : Addr} {fd : FuncData} (F : FnOk P w K mg base (L2.CX P w) 3 f fd ["letters", "value"] (spIsTextX K cL)) : FnOk P w K mg base CX0 3 f fd ["letters", "value"] (spIsText0 K) := XC0.calm F fun vs H Q E h => by
  obtain ⟨x, v, rfl, gl, a1, a2, q⟩ := h
  refine ⟨_, _, rfl, a1, a2, fun z => ?_, fun x' e _ H' k => ?_⟩
  · rw [gl] at z
    cases z
  · cases e
    exact q H' k
section
variable {P : Program} {w : World} {K : Frag} {mg : Str → Option Value} {base : Heap} {f fN fG fM fC fT fS C cN : Addr} {fd dN dG dM dC dT dS : FuncData}
theorem scRowGuide : FnScope ["self", "size"] ["self", "size"] (defScope sRowGuide) := ⟨rfl, rfl, rfl, by decide +kernel, rfl, by decide +kernel, by decide +kernel⟩
theorem scRowStart : FnScope ["self", "size"] ["self", "size"] (defScope sRowStart) := ⟨rfl, rfl, rfl, by decide +kernel, rfl, by decide +kernel, by decide +kernel⟩
theorem scRowHas : FnScope ["self", "value", "text"] ["self", "value"] (defScope sRowHas) := ⟨rfl, rfl, rfl, by decide +kernel, rfl, by decide +kernel, by decide +kernel⟩
theorem scStretches : FnScope ["letters", "head", "again", "size", "text", "ahead", "letter"] ["letters", "head", "again", "size"] (defScope sStretches) := ⟨rfl, rfl, rfl, by decide +kernel, rfl, by decide +kernel, by decide +kernel⟩
theorem ok_guideX (F : FnM K "guide" "MirrorRow.guide" sRowGuide f fd) (B : RowK K C) (gW : ∃ t, mg "MAX_WORD" = some (.int 400 t)) (FN : FnOk P w K mg base (L2.CX P w) 3 fN dN ["value", "low", "high"] (spCheckNumberX K cN)) (gN : mg "check_number" = some (.ref fN)) (kN : PySem.W.keepIn K (.ref fN) = true) (bN : Binds K dN ["value", "low", "high"] [])
    (FG : FnOk P w K mg base CX0 1 fG dG ["head", "again", "size"] spGuideOf) (gG : mg "guide_of" = some (.ref fG)) (kG : PySem.W.keepIn K (.ref fG) = true) (bG : Binds K dG ["head", "again", "size"] []) :
    FnOk P w K mg base (L2.CX P w) 4 f fd ["self", "size"] (spGuideX K C cN) := by
  obtain ⟨tk, gW⟩ := gW
  refine F.ok scRowGuide (fun vs H Q E h => ?_) (fun cdv A outer s H vs Q E hr h => ?_)
  · obtain ⟨b, x, h, g, v, rfl, _⟩ := h
    rfl
  · obtain ⟨b, x, h, g, v, rfl, ⟨dx, e⟩, gd, ask, q1, q2⟩ := h
    refine ⟨_, pss_cons (ps_expr (pe_call FN hr (by rfl) gN kN bN .nil (passes_call (takes_of rfl rfl rfl rfl) (fun _ _ _ _ z => z)) (pa_cons (pv 1) (pa_cons pe_int (pa_cons (pe_glob (v := .int 400) (by rfl) gW ⟨tk, rfl⟩) pa_nil)))))
      (pss_one (ps_ret (pe_call FG (hr.mono (by decide)) (by rfl) gG kG bG .nil pass0 (pa_cons (pe_fld (pv 0) rfl) (pa_cons (pe_fld (pv 0) rfl) (pa_cons (pv 1) pa_nil)))))), ?_⟩
    refine ⟨_, rfl, v, 0, 400, rfl, ask, fun good H' k => ?_, q1⟩
    cases v with
    | int i =>
      have e9 : (longV (.int i) && (decide (0 ≤ i) && decide (i ≤ 400))) = true := good
      rw [Bool.and_eq_true, Bool.and_eq_true, decide_eq_true_eq, decide_eq_true_eq] at e9
      obtain ⟨m, rfl⟩ : ∃ m : Nat, i = (m : Int) := ⟨i.toNat, by omega⟩
      have e' := k _ _ e
      exact ⟨_, rfl, b, C, dx, _, _, rfl, e', B.cls, B.nh, rfl, _, rfl, b, C, dx, _, _, rfl, e', B.cls, B.na, rfl, _, rfl, h, g, m, rfl, gd.lh, gd.g1, gd.lg, by omega, q2 m rfl (by omega) H' k⟩
    | _ => cases good
theorem ok_startX (F : FnM K "start" "MirrorRow.start" sRowStart f fd) (B : RowK K C) (gW : ∃ t, mg "MAX_TEXT" = some (.int 4000 t)) (FN : FnOk P w K mg base (L2.CX P w) 3 fN dN ["value", "low", "high"] (spCheckNumberX K cN)) (gN : mg "check_number" = some (.ref fN)) (kN : PySem.W.keepIn K (.ref fN) = true) (bN : Binds K dN ["value", "low", "high"] [])
    (FM : FnOk P w K mg base CX0 2 fM dM ["head", "again", "size", "part"] spMirrorOf) (gM : mg "mirror_of" = some (.ref fM)) (kM : PySem.W.keepIn K (.ref fM) = true) (bM : Binds K dM ["head", "again", "size", "part"] []) :
    FnOk P w K mg base (L2.CX P w) 4 f fd ["self", "size"] (spStartX K C cN) := by
  obtain ⟨tk, gW⟩ := gW
  refine F.ok scRowStart (fun vs H Q E h => ?_) (fun cdv A outer s H vs Q E hr h => ?_)
  · obtain ⟨b, x, h, g, v, rfl, _⟩ := h
    rfl
  · obtain ⟨b, x, h, g, v, rfl, ⟨dx, e⟩, gd, ask, q1, q2⟩ := h
    have hs : sizeLine = 16777216 := sizeLine_eq
    refine ⟨_, pss_cons (ps_expr (pe_call FN hr (by rfl) gN kN bN .nil (passes_call (takes_of rfl rfl rfl rfl) (fun _ _ _ _ z => z)) (pa_cons (pv 1) (pa_cons pe_int (pa_cons (pe_glob (v := .int 4000) (by rfl) gW ⟨tk, rfl⟩) pa_nil)))))
      (pss_one (ps_ret (pe_slice sl_str (pe_ix ix_tup (pe_call FM (hr.mono (by decide)) (by rfl) gM kM bM .nil pass0 (pa_cons (pe_fld (pv 0) rfl) (pa_cons (pe_fld (pv 0) rfl) (pa_cons (pv 1) (pa_cons pe_str pa_nil))))) pe_int (fun _ _ => rfl)) po_none (po_some (pv 1))))), ?_⟩
    refine ⟨_, rfl, v, 0, 4000, rfl, ask, fun good H' k => ?_, q1⟩
    obtain ⟨m, n, rfl, st, q⟩ := q2 good
    have e' := k _ _ e
    refine ⟨_, rfl, b, C, dx, _, _, rfl, e', B.cls, B.nh, rfl, _, rfl, b, C, dx, _, _, rfl, e', B.cls, B.na, rfl, _, rfl, h, g, _, _, n, rfl, gd.lh, gd.g1, gd.lg, st.few, st.on, st.off, fun i hi => Nat.le_trans (st.lens i hi) (by decide), fun r d H2 k2 er ed => ?_⟩
    have := st.lens n (Nat.le_refl _)
    exact ⟨r, _, _, _, rfl, rfl, SqT.of er, atI_nat (j := 0) (v := V.str (stF h g n).1) rfl, _, rfl, _, rfl, (stF h g n).1, rfl, by omega, q _ (k.trans k2)⟩
theorem ok_stretches (F : FnP K "stretches" sStretches f fd) (FM : FnOk P w K mg base CX0 2 fM dM ["head", "again", "size", "part"] spMirrorOf) (gM : mg "mirror_of" = some (.ref fM)) (kM : PySem.W.keepIn K (.ref fM) = true) (bM : Binds K dM ["head", "again", "size", "part"] [])
    (FC : FnOk P w K mg base CX0 1 fC dC ["text", "ahead", "letter"] spClosed) (gC : mg "closed" = some (.ref fC)) (kC : PySem.W.keepIn K (.ref fC) = true) (bC : Binds K dC ["text", "ahead", "letter"] []) : FnOk P w K mg base CX0 3 f fd ["letters", "head", "again", "size"] spStretches := by
  refine F.ok scStretches (fun vs H Q E h => ?_) (fun cdv A outer s H vs Q E hr h => ?_)
  · obtain ⟨x, h, g, size, n, rfl, _⟩ := h
    rfl
  · obtain ⟨x, h, g, size, n, rfl, gd, st, q⟩ := h
    have hs : sizeLine = 16777216 := sizeLine_eq
    refine ⟨_, PSs.nox (pss_cons (ps_asg (pe_call FM hr (by rfl) gM kM bM .nil pass0 (pa_cons (pv 1) (pa_cons (pv 2) (pa_cons (pe_op op_sub (pv 3) pe_int) (pa_cons pe_str pa_nil))))) (pg_tup (by rfl) (pgs_cons (pg_name (i := 4) scStretches.nd rfl (.inr rfl)) (pgs_cons (pg_name (i := 5) scStretches.nd rfl (.inr rfl)) pgs_nil))))
      (pss_one (ps_ret (pe_lc (own := [("letter", 6)]) (g := gName 6) (tt := tYes) (te := tCall spClosed [] E0 (tCons (tVar 4) (tCons (tVar 5) (tCons (tVar 6) tNil)))) rfl scStretches.nd (pi_str (pv 0)) (blkOk_by (N := ["letters", "head", "again", "size", "text", "ahead", "letter"]) (sc := defScope sStretches) (by decide +kernel))
        (fun _ _ _ _ _ => pg_name (i := 6) scStretches.nd rfl (Or.inl rfl)) (fun _ _ _ _ _ => pts_nil) (fun _ _ _ _ _ => by exact pe_call FC (hr.mono (by decide)) (by rfl) gC kC bC .nil pass0 (pa_cons (pv 4) (pa_cons (pv 5) (pa_cons (pv 6) pa_nil)))))))), ?_⟩
    refine ⟨_, rfl, _, rfl, _, rfl, _, _, rfl, rfl, h, g, _, _, n, rfl, gd.lh, gd.g1, gd.lg, st.few, st.on, st.off, fun i hi => Nat.le_trans (st.lens i hi) (by decide), fun r d H1 k1 er ed => ?_⟩
    refine ⟨r, _, rfl, SqT.of er, rfl, _, _, rfl, _, _, rfl, rfl, ?_⟩
    refine ⟨_, rfl, x, rfl, fun D hD => ?_⟩
    have ln := st.lens n (Nat.le_refl _)
    obtain ⟨al, aok⟩ := st_ok h g n
    refine walk_it walk_str (fun i H2 => H2 D = some (.lst ((((XSt.signs x).take i).map fun c => closeF (stF h g n).1 (stF h g n).2 c).map V.str)) ∧ Ext H1 H2) ⟨upd_same, (Ext.refl _).new hD⟩ (fun _ _ _ _ => trivial) ?_ ?_
    · rintro i v H2 H3 hi ⟨f1, f2⟩ ⟨rfl, c, hc, rfl⟩
      have gs : (XSt.signs x)[i]? = some ⟨#[c]⟩ := by
        unfold XSt.signs
        rw [List.getElem?_map, Array.getElem?_toList, hc]
        rfl
      refine ⟨rfl, _, rfl, _, rfl, _, rfl, _, _, d, _, rfl, f2 _ _ ed, ⟨Nat.le_trans al st.few, aok⟩, by omega, rfl, ?_⟩
      have li : i < x.length := hi
      have := gd.lx
      refine ⟨_, f1, by rw [List.length_map, List.length_map]; have := List.length_take_le i (XSt.signs x); omega, ?_, fun a o e => ?_⟩
      · rw [take_more gs, List.map_append, List.map_append]
        exact upd_same
      · rw [upd_ne (ne_of_none e hD)]
        exact f2 a o e
    · rintro H2 ⟨f1, f2⟩
      have all : (XSt.signs x).take x.cps.size = XSt.signs x := List.take_of_length_le (by rw [signs_count]; exact Nat.le_refl _)
      rw [all] at f1
      exact q D H2 (k1.trans f2) f1
end
end B73

/-! places of words in a text, and books that are made by counting them -/
namespace XFl
open PySem PySem.Spec PyProof.Rows L2 XSt NX
/-- the words that begin a text -/
def occ (K : List Str) (w : List Nat) : Nat := (K.filter fun k => decide (cs k <+: w)).length
/-- the words that end a text -/
def enc (K : List Str) (w : List Nat) : Nat := (K.filter fun k => decide (cs k <:+ w)).length
def spotsN (K : List Str) : List Nat → Nat
  | [] => 0
  | c :: w => occ K (c :: w) + spotsN K w
def much (K : List Str) (w : List Nat) : Int := (w.length : Int) + 1 - (spotsN K w : Int)
theorem filter_two {α : Type} (p q r : α → Bool) : ∀ l : List α, (∀ x ∈ l, p x = (q x || r x)) → (∀ x ∈ l, ¬ (q x = true ∧ r x = true)) → (l.filter p).length = (l.filter q).length + (l.filter r).length
  | [], _, _ => rfl
  | a :: l, h, d => by
    have ih := filter_two p q r l (fun x m => h x (List.mem_cons_of_mem _ m)) (fun x m => d x (List.mem_cons_of_mem _ m))
    have h0 := h a List.mem_cons_self
    have d0 := d a List.mem_cons_self
    rw [List.filter_cons, List.filter_cons, List.filter_cons, h0]
    cases hq : q a <;> cases hr : r a
    · simpa using ih
    · simp [ih]; omega
    · simp [ih]; omega
    · exact absurd ⟨hq, hr⟩ d0
theorem prefix_snoc {k w : List Nat} {b : Nat} : k <+: w ++ [b] ↔ k <+: w ∨ k = w ++ [b] := by
  rw [List.prefix_concat_iff]
  exact Or.comm
theorem suffix_cons {k w : List Nat} {c : Nat} : k <:+ c :: w ↔ k <:+ w ∨ k = c :: w := by
  rw [List.suffix_cons_iff]
  exact Or.comm
theorem spots_snoc {K : List Str} (ne : ∀ k ∈ K, 1 ≤ k.length) (b : Nat) : ∀ w : List Nat, spotsN K (w ++ [b]) = spotsN K w + enc K (w ++ [b])
  | [] => by
    show occ K [b] + 0 = 0 + enc K [b]
    rw [Nat.add_zero, Nat.zero_add]
    unfold occ enc
    congr 1
    refine List.filter_congr fun k mk => ?_
    have l1 := ne k mk
    rw [← cs_len] at l1
    have e : (cs k <+: [b]) ↔ (cs k <:+ [b]) := by
      constructor
      · intro h
        have z : cs k = [b] := by
          have := h.length_le
          exact h.eq_of_length (by simp at this ⊢; omega)
        rw [z]
        exact List.suffix_refl _
      · intro h
        have z : cs k = [b] := by
          have := h.length_le
          exact h.eq_of_length (by simp at this ⊢; omega)
        rw [z]
        exact List.prefix_refl _
    exact decide_eq_decide.mpr e
  | c :: w => by
    have ih := spots_snoc ne b w
    show occ K (c :: (w ++ [b])) + spotsN K (w ++ [b]) = occ K (c :: w) + spotsN K w + enc K (c :: (w ++ [b]))
    rw [ih]
    have h1 : occ K (c :: (w ++ [b])) = occ K (c :: w) + (K.filter fun k => decide (cs k = c :: (w ++ [b]))).length := by
      refine filter_two _ _ _ K (fun k _ => ?_) (fun k _ z => ?_)
      · rw [← Bool.decide_or]
        exact decide_eq_decide.mpr (prefix_snoc (w := c :: w))
      · rw [decide_eq_true_eq, decide_eq_true_eq] at z
        have l := z.1.length_le
        rw [z.2] at l
        simp only [List.length_append, List.length_cons, List.length_nil] at l
        omega
    have h2 : enc K (c :: (w ++ [b])) = enc K (w ++ [b]) + (K.filter fun k => decide (cs k = c :: (w ++ [b]))).length := by
      refine filter_two _ _ _ K (fun k _ => ?_) (fun k _ z => ?_)
      · rw [← Bool.decide_or]
        exact decide_eq_decide.mpr suffix_cons
      · rw [decide_eq_true_eq, decide_eq_true_eq] at z
        have l := z.1.length_le
        rw [z.2] at l
        simp only [List.length_append, List.length_cons, List.length_nil] at l
        omega
    rw [h1, h2]
    omega
theorem filter_one {α : Type} (p : α → Bool) {l : List α} (nd : l.Nodup) (h : ∀ x ∈ l, ∀ y ∈ l, p x = true → p y = true → x = y) : (l.filter p).length ≤ 1 := by
  have nd2 := nd.filter p
  match e : l.filter p with
  | [] => simp
  | [a] => simp
  | a :: b :: t =>
    rw [e] at nd2
    have ma : a ∈ l.filter p := by rw [e]; simp
    have mb : b ∈ l.filter p := by rw [e]; simp
    obtain ⟨m1, p1⟩ := List.mem_filter.mp ma
    obtain ⟨m2, p2⟩ := List.mem_filter.mp mb
    have := h a m1 b m2 p1 p2
    have n2 : ¬ a ∈ b :: t := (List.nodup_cons.mp nd2).1
    exact absurd (by rw [this]; simp) n2
/-- what is known of the core -/
structure Core (K : List Str) : Prop where
  nd : K.Nodup
  ne : ∀ k ∈ K, 1 ≤ k.length
  pre : NoPre K
  suf : NoSuf K
theorem occ_one {K : List Str} (c : Core K) (w : List Nat) : occ K w ≤ 1 := filter_one _ c.nd fun x mx y my hx hy => by
  rw [decide_eq_true_eq] at hx hy
  by_cases e : x = y
  · exact e
  · rcases Nat.le_total (cs x).length (cs y).length with l | l
    · exact absurd (List.prefix_of_prefix_length_le hx hy l) (c.pre x mx y my e)
    · exact absurd (List.prefix_of_prefix_length_le hy hx l) (c.pre y my x mx (Ne.symm e))
theorem enc_one {K : List Str} (c : Core K) (w : List Nat) : enc K w ≤ 1 := filter_one _ c.nd fun x mx y my hx hy => by
  rw [decide_eq_true_eq] at hx hy
  by_cases e : x = y
  · exact e
  · rcases Nat.le_total (cs x).length (cs y).length with l | l
    · exact absurd (List.suffix_of_suffix_length_le hx hy l) (c.suf x mx y my e)
    · exact absurd (List.suffix_of_suffix_length_le hy hx l) (c.suf y my x mx (Ne.symm e))
theorem occ_pos {K : List Str} {w : List Nat} {k : Str} (m : k ∈ K) (h : cs k <+: w) : 1 ≤ occ K w := List.length_pos_of_mem (List.mem_filter.mpr ⟨m, decide_eq_true h⟩)
theorem enc_pos {K : List Str} {w : List Nat} {k : Str} (m : k ∈ K) (h : cs k <:+ w) : 1 ≤ enc K w := List.length_pos_of_mem (List.mem_filter.mpr ⟨m, decide_eq_true h⟩)
theorem much_cons {K : List Str} (c : Nat) (w : List Nat) : much K (c :: w) = much K w + 1 - (occ K (c :: w) : Int) := by
  unfold much
  show ((w.length + 1 : Nat) : Int) + 1 - ((occ K (c :: w) + spotsN K w : Nat) : Int) = _
  omega
theorem much_snoc {K : List Str} (c : Core K) (b : Nat) (w : List Nat) : much K (w ++ [b]) = much K w + 1 - (enc K (w ++ [b]) : Int) := by
  unfold much
  rw [spots_snoc c.ne]
  rw [List.length_append]
  show ((w.length + 1 : Nat) : Int) + 1 - _ = _
  omega
theorem much_left {K : List Str} (c : Core K) (w : List Nat) : ∀ v : List Nat, much K w ≤ much K (v ++ w)
  | [] => Int.le_refl _
  | a :: v => by
    have ih := much_left c w v
    have z := occ_one c (a :: (v ++ w))
    have e := much_cons (K := K) a (v ++ w)
    show _ ≤ much K (a :: (v ++ w))
    omega
theorem much_right {K : List Str} (c : Core K) (w : List Nat) : ∀ v : List Nat, much K w ≤ much K (w ++ v)
  | [] => by rw [List.append_nil]; exact Int.le_refl _
  | a :: v => by
    have ih := much_right c (w ++ [a]) v
    have z := enc_one c (w ++ [a])
    have e := much_snoc c a w
    rw [List.append_assoc] at ih
    show _ ≤ much K (w ++ ([a] ++ v))
    omega
/-- a new word: one letter more at either end, each counts -/
def NewW (K : List Str) (d : Int) (n : Str) : Prop := ∃ (a b : Nat) (l : List Nat), cs n = a :: (l ++ [b]) ∧ much K l = d - 1 ∧ much K (a :: l) = d ∧ much K (l ++ [b]) = d ∧ much K (cs n) = d + 1
theorem new_pre {K : List Str} {d : Int} (c : Core K) (low : ∀ k ∈ K, much K (cs k) ≤ d - 1) {x y : Str} (hx : x ∈ K ∨ NewW K d x) (hy : y ∈ K ∨ NewW K d y) (ne : x ≠ y) : ¬ cs x <+: cs y := by
  intro h
  have ne' : cs x ≠ cs y := fun e => ne (cs_inj e)
  rcases hy with my | ⟨a, b, l, ey, m1, m2, m3, m4⟩
  · rcases hx with mx | ⟨a, b, l, ex, m1, m2, m3, m4⟩
    · exact c.pre x mx y my ne h
    · obtain ⟨t, ht⟩ := h
      have z := much_right c (cs x) t
      rw [ht] at z
      have := low y my
      omega
  · have h2 : cs x <+: a :: l := by
      rw [ey] at h ne'
      rcases (prefix_snoc (w := a :: l)).mp h with z | z
      · exact z
      · exact absurd z ne'
    rcases hx with mx | ⟨a', b', l', ex, n1, n2, n3, n4⟩
    · have p := occ_pos mx h2
      have e := much_cons (K := K) a l
      omega
    · obtain ⟨t, ht⟩ := h2
      have z := much_right c (cs x) t
      rw [ht] at z
      omega
theorem new_suf {K : List Str} {d : Int} (c : Core K) (low : ∀ k ∈ K, much K (cs k) ≤ d - 1) {x y : Str} (hx : x ∈ K ∨ NewW K d x) (hy : y ∈ K ∨ NewW K d y) (ne : x ≠ y) : ¬ cs x <:+ cs y := by
  intro h
  have ne' : cs x ≠ cs y := fun e => ne (cs_inj e)
  rcases hy with my | ⟨a, b, l, ey, m1, m2, m3, m4⟩
  · rcases hx with mx | ⟨a, b, l, ex, m1, m2, m3, m4⟩
    · exact c.suf x mx y my ne h
    · obtain ⟨t, ht⟩ := h
      have z := much_left c (cs x) t
      rw [ht] at z
      have := low y my
      omega
  · have h2 : cs x <:+ l ++ [b] := by
      rw [ey] at h ne'
      rcases suffix_cons.mp h with z | z
      · exact z
      · exact absurd z ne'
    rcases hx with mx | ⟨a', b', l', ex, n1, n2, n3, n4⟩
    · have p := enc_pos mx h2
      have e := much_snoc c b l
      omega
    · obtain ⟨t, ht⟩ := h2
      have z := much_left c (cs x) t
      rw [ht] at z
      omega
theorem spots_more {K K' : List Str} (nd : K.Nodup) (sub : ∀ k ∈ K, k ∈ K') : ∀ w : List Nat, spotsN K w ≤ spotsN K' w
  | [] => Nat.le_refl _
  | c :: w => by
    have ih := spots_more nd sub w
    have z : occ K (c :: w) ≤ occ K' (c :: w) := by
      unfold occ
      have nd2 := nd.filter fun k => decide (cs k <+: c :: w)
      generalize hA : (K.filter fun k => decide (cs k <+: c :: w)) = A at nd2 ⊢
      have subA : ∀ k ∈ A, k ∈ K'.filter fun k => decide (cs k <+: c :: w) := fun k m => by
        rw [← hA] at m
        obtain ⟨m1, m2⟩ := List.mem_filter.mp m
        exact List.mem_filter.mpr ⟨sub k m1, m2⟩
      generalize (K'.filter fun k => decide (cs k <+: c :: w)) = B at subA
      clear hA
      induction A generalizing B with
      | nil => exact Nat.zero_le _
      | cons a A ihA =>
        obtain ⟨n1, n2⟩ := List.nodup_cons.mp nd2
        have ma := subA a List.mem_cons_self
        have := ihA n2 (B.erase a) fun x mx => (List.mem_erase_of_ne fun e => n1 (by rw [← e]; exact mx)).mpr (subA x (List.mem_cons_of_mem _ mx))
        rw [List.length_erase_of_mem ma] at this
        have := List.length_pos_of_mem ma
        rw [List.length_cons]
        omega
    show occ K (c :: w) + spotsN K w ≤ occ K' (c :: w) + spotsN K' w
    omega
theorem much_less {K K' : List Str} (nd : K.Nodup) (sub : ∀ k ∈ K, k ∈ K') (w : List Nat) : much K' w ≤ much K w := by
  have := spots_more nd sub w
  unfold much
  omega
/-- a word that is taken into the core counts one place more -/
theorem much_own {K K' : List Str} (nd : K.Nodup) (sub : ∀ k ∈ K, k ∈ K') {k : Str} (m : k ∈ K') (nm : ¬ k ∈ K) (ne : 1 ≤ k.length) : much K' (cs k) ≤ much K (cs k) - 1 := by
  have nd2 : (k :: K).Nodup := List.nodup_cons.mpr ⟨nm, nd⟩
  have all : ∀ x ∈ k :: K, x ∈ K' := fun x mx => by
    rcases List.mem_cons.mp mx with e | mx
    · rw [e]
      exact m
    · exact sub x mx
  have z := much_less nd2 all (cs k)
  have l1 := ne
  rw [← cs_len] at l1
  cases e : cs k with
  | nil => rw [e] at l1; simp at l1
  | cons a w =>
    rw [e] at z
    have h1 : spotsN (k :: K) (a :: w) ≥ spotsN K (a :: w) + 1 := by
      have s := spots_more nd (fun x mx => List.mem_cons_of_mem k mx) w
      have o : occ (k :: K) (a :: w) = occ K (a :: w) + 1 := by
        unfold occ
        rw [List.filter_cons, decide_eq_true (show cs k <+: a :: w by rw [e]; exact List.prefix_refl _), if_pos rfl, List.length_cons]
      show occ (k :: K) (a :: w) + spotsN (k :: K) w ≥ occ K (a :: w) + spotsN K w + 1
      omega
    unfold much at z ⊢
    omega
end XFl
namespace XFl
open PySem PySem.Spec PyProof.Rows L2 XSt NX
theorem cut_mid {z : Str} {a k : Nat} (h : a ≤ z.length) : cs (cutS z (some (a : Int)) (some ((a : Int) + (k : Int)))) = ((cs z).drop a).take k := by
  have e : (a : Int) + (k : Int) = ((a + k : Nat) : Int) := by omega
  unfold cutS
  rw [e, cs_mk, HT.sIx_nat, HT.sIx_nat, Nat.min_eq_left h]
  show ((cs z).drop a).take _ = ((cs z).drop a).take k
  have l : ((cs z).drop a).length = z.length - a := by rw [List.length_drop, cs_len]
  rcases Nat.le_total (a + k) z.length with g | g
  · rw [Nat.min_eq_left g]
    congr 1
    omega
  · rw [Nat.min_eq_right g, List.take_of_length_le (by omega), List.take_of_length_le (by omega)]
theorem cut_at {z s : Str} {a : Nat} (h : a ≤ z.length) : decide (V.str (cutS z (some (a : Int)) (some ((a : Int) + (s.length : Int)))) = V.str s) = decide (cs s <+: (cs z).drop a) := by
  apply decide_eq_decide.mpr
  rw [List.prefix_iff_eq_take, cs_len]
  constructor
  · intro e
    have y := congrArg cs (V.str.inj e)
    rw [cut_mid h] at y
    exact y.symm
  · intro e
    congr 1
    apply cs_inj
    rw [cut_mid h]
    exact e.symm
/-- the places in the first so many letters -/
def upTo (K : List Str) (w : List Nat) : Nat → Nat
  | 0 => 0
  | i + 1 => upTo K w i + occ K (w.drop i)
theorem upTo_spots (K : List Str) : ∀ (w v : List Nat), upTo K (v ++ w) (v.length + w.length) = upTo K (v ++ w) v.length + spotsN K w
  | [], v => rfl
  | c :: w, v => by
    have ih := upTo_spots K w (v ++ [c])
    rw [List.append_assoc, List.length_append] at ih
    show upTo K (v ++ c :: w) (v.length + (w.length + 1)) = upTo K (v ++ c :: w) v.length + (occ K (c :: w) + spotsN K w)
    have e1 : v.length + (w.length + 1) = v.length + [c].length + w.length := by simp; omega
    have e2 : upTo K (v ++ c :: w) (v.length + [c].length) = upTo K (v ++ c :: w) v.length + occ K (c :: w) := by
      show upTo K (v ++ c :: w) v.length + occ K ((v ++ c :: w).drop v.length) = _
      rw [List.drop_left]
    rw [e1]
    have ih : upTo K (v ++ c :: w) (v.length + [c].length + w.length) = upTo K (v ++ c :: w) (v.length + [c].length) + spotsN K w := ih
    rw [ih, e2]
    omega
theorem upTo_all (K : List Str) (w : List Nat) : upTo K w w.length = spotsN K w := by
  have z := upTo_spots K w []
  simpa [upTo] using z
theorem occ_le (K : List Str) (w : List Nat) : occ K w ≤ K.length := List.length_filter_le _ _
theorem upTo_le (K : List Str) (w : List Nat) : ∀ i, upTo K w i ≤ i * K.length
  | 0 => by simp [upTo]
  | i + 1 => by
    have := upTo_le K w i
    have := occ_le K (w.drop i)
    rw [Nat.succ_mul]
    show upTo K w i + occ K (w.drop i) ≤ _
    omega
end XFl
namespace XFl
open PySem PySem.Spec PyProof.Rows L2 XSt NX
/-- the longer texts that are still low -/
def kids (x : Str) (K : List Str) (d : Int) (l : Str) : List Str := ((XSt.signs x).map fun c => l ++ c).filter fun w => decide (much K (cs w) < d)
def kidV (l : Str) : V → V
  | .str c => .str (l ++ c)
  | v => v
def lowV (K : List Str) (d : Int) (l : Str) : V → Bool
  | .str c => decide (much K (cs (l ++ c)) < d)
  | _ => false
theorem kids_v (K : List Str) (d : Int) (l : Str) : ∀ s : List Str, ((s.map V.str).filter (lowV K d l)).map (kidV l) = ((s.map fun c => l ++ c).filter fun w => decide (much K (cs w) < d)).map V.str
  | [] => rfl
  | c :: s => by
    have ih := kids_v K d l s
    rw [List.map_cons, List.map_cons, List.filter_cons, List.filter_cons]
    show List.map (kidV l) (if decide (much K (cs (l ++ c)) < d) = true then _ else _) = _
    cases h : decide (much K (cs (l ++ c)) < d) with
    | true =>
      rw [if_pos rfl, if_pos rfl, List.map_cons, List.map_cons, ih]
      rfl
    | false =>
      rw [if_neg (by decide), if_neg (by decide), ih]
def growF (x : Str) (K : List Str) (d : Int) (m : Nat) : Nat → List Str → List Str → Option (List Str)
  | 0, _, _ => none
  | n + 1, found, layer => if layer.isEmpty then some found else if m < (found ++ layer).length then none else growF x K d m n (found ++ layer) (layer.flatMap (kids x K d))
theorem kids_mem {x : Str} {K : List Str} {d : Int} {l w : Str} (h : w ∈ kids x K d l) : w.length = l.length + 1 ∧ (∀ c ∈ cs w, c ∈ cs l ∨ c ∈ cs x) ∧ much K (cs w) < d := by
  obtain ⟨h1, h2⟩ := List.mem_filter.mp h
  obtain ⟨c, mc, rfl⟩ := List.mem_map.mp h1
  unfold XSt.signs at mc
  obtain ⟨n, mn, rfl⟩ := List.mem_map.mp mc
  refine ⟨by rw [app_len]; rfl, fun e me => ?_, of_decide_eq_true h2⟩
  rw [cs_app] at me
  rcases List.mem_append.mp me with me | me
  · exact .inl me
  · have : e = n := List.mem_singleton.mp me
    rw [this]
    exact .inr mn
/-- what grows is low -/
theorem growF_low {x : Str} {K : List Str} {d : Int} {m : Nat} : ∀ (n : Nat) (found layer ls : List Str), growF x K d m n found layer = some ls →
    (∀ w, (w ∈ found ∨ w ∈ layer) → (∀ c ∈ cs w, c ∈ cs x) ∧ much K (cs w) < d ∧ w.length ≤ m) → (∀ w ∈ layer, w.length ≤ found.length) → found.length ≤ m → ls.length ≤ m ∧ ∀ w ∈ ls, (∀ c ∈ cs w, c ∈ cs x) ∧ much K (cs w) < d ∧ w.length ≤ m
  | 0, _, _, _, h, _, _, _ => by cases h
  | n + 1, found, layer, ls, h, good, few, lf => by
    unfold growF at h
    cases e : layer.isEmpty with
    | true =>
      rw [e, if_pos rfl] at h
      cases h
      exact ⟨lf, fun w mw => good w (.inl mw)⟩
    | false =>
      rw [e, if_neg (by decide)] at h
      by_cases big : m < (found ++ layer).length
      · rw [if_pos big] at h
        cases h
      · rw [if_neg big] at h
        have pos : 1 ≤ layer.length := by
          cases layer with
          | nil => cases e
          | cons a l => simp
        rw [List.length_append] at big
        refine growF_low n _ _ ls h (fun w mw => ?_) (fun w mw => ?_) (by rw [List.length_append]; omega)
        · rcases mw with mw | mw
          · exact good w (List.mem_append.mp mw)
          · obtain ⟨l, ml, mk⟩ := List.mem_flatMap.mp mw
            obtain ⟨k1, k2, k3⟩ := kids_mem mk
            have g := good l (.inr ml)
            have := few l ml
            refine ⟨fun c mc => ?_, k3, by omega⟩
            rcases k2 c mc with y | y
            · exact g.1 c y
            · exact y
        · obtain ⟨l, ml, mk⟩ := List.mem_flatMap.mp mw
          have k1 := (kids_mem mk).1
          have := few l ml
          rw [List.length_append]
          omega
end XFl

/-! texts that read alike both ways: the shortest with a given beginning; rows that grow by them -/
namespace XPl
def Pal (l : List Nat) : Prop := l.reverse = l
instance (l : List Nat) : Decidable (Pal l) := by unfold Pal; infer_instance
/-- the shortest of them that begins so -/
def mc : List Nat → List Nat
  | [] => []
  | c :: l => if Pal (c :: l) then c :: l else c :: (mc l ++ [c])
theorem pal_wrap {c : Nat} {l : List Nat} : Pal (c :: (l ++ [c])) ↔ Pal l := by
  unfold Pal
  rw [List.reverse_cons, List.reverse_append, List.reverse_singleton, List.cons_append, List.nil_append, List.cons_append]
  constructor
  · intro h
    exact List.append_cancel_right (List.cons.inj h).2
  · intro h
    rw [h]
theorem mc_pal : ∀ l, Pal (mc l)
  | [] => rfl
  | c :: l => by
    unfold mc
    split
    · assumption
    · exact pal_wrap.mpr (mc_pal l)
theorem mc_pre : ∀ l, l <+: mc l
  | [] => List.nil_prefix
  | c :: l => by
    unfold mc
    split
    · exact List.prefix_refl _
    · exact (List.prefix_cons_inj c).mpr ((mc_pre l).trans (List.prefix_append _ _))
theorem pal_ends {c : Nat} {p : List Nat} (h : Pal (c :: p)) (ne : p ≠ []) : ∃ q, p = q ++ [c] ∧ Pal q := by
  have d := List.dropLast_concat_getLast ne
  have e : p.getLast ne = c := by
    have z := congrArg List.head? (show (c :: p).reverse = c :: p from h)
    rw [List.reverse_cons, List.head?_append, List.head?_reverse, List.getLast?_eq_some_getLast ne] at z
    exact Option.some.inj z
  rw [e] at d
  refine ⟨p.dropLast, d.symm, ?_⟩
  rw [← d] at h
  exact pal_wrap.mp h
theorem mc_min : ∀ (l : List Nat) {p : List Nat}, Pal p → l <+: p → (mc l).length ≤ p.length
  | [], p, _, _ => Nat.zero_le _
  | c :: l, p, hp, hl => by
    unfold mc
    split
    · exact hl.length_le
    · rename_i np
      obtain ⟨r, hr⟩ := hl
      cases p with
      | nil => cases hr
      | cons d p =>
        rw [List.cons_append] at hr
        obtain ⟨rfl, hr2⟩ := List.cons.inj hr
        have ne : p ≠ [] := by
          rintro rfl
          have e := (List.append_eq_nil_iff.mp hr2).1
          subst e
          exact np rfl
        obtain ⟨q, rfl, hq⟩ := pal_ends hp ne
        have lq : l <+: q := by
          have h1 : l <+: q ++ [c] := ⟨r, hr2⟩
          rcases Nat.lt_or_ge l.length (q ++ [c]).length with g | g
          · rw [List.length_append, List.length_singleton] at g
            exact List.prefix_of_prefix_length_le h1 (List.prefix_append q [c]) (by omega)
          · have e := h1.eq_of_length_le g
            exact absurd (by rw [e]; exact hp) np
        have ih := mc_min l hq lq
        simp only [List.length_cons, List.length_append, List.length_nil]
        omega
theorem pal_mid {p l : List Nat} (hp : Pal p) (hl : l <+: p) (h2 : p.length ≤ 2 * l.length) : Pal (l.drop (p.length - l.length)) := by
  obtain ⟨r, rfl⟩ := hl
  have hp : (l ++ r).reverse = l ++ r := hp
  rw [List.length_append] at *
  have e : l.length + r.length - l.length = r.length := by omega
  rw [e]
  have z := congrArg (List.drop r.length) hp
  rw [List.reverse_append] at z
  have z1 : (r.reverse ++ l.reverse).drop r.length = l.reverse := by
    have := List.drop_left (l₁ := r.reverse) (l₂ := l.reverse)
    rwa [List.length_reverse] at this
  rw [z1, List.drop_append_of_le_length (by omega)] at z
  have y := congrArg (List.take (l.length - r.length)) z
  rw [List.take_append_of_le_length (by rw [List.length_drop]; omega)] at y
  have y2 : (l.drop r.length).take (l.length - r.length) = l.drop r.length := List.take_of_length_le (by rw [List.length_drop]; omega)
  rw [y2] at y
  have y3 : l.reverse.take (l.length - r.length) = (l.drop r.length).reverse := by
    rw [List.take_reverse]
    congr 2
    omega
  rw [y3] at y
  exact y
/-- two of one length that begin alike to the middle -/
theorem pal_same {p q u : List Nat} (hp : Pal p) (hq : Pal q) (up : u <+: p) (uq : u <+: q) (e : p.length = q.length) (h : p.length ≤ 2 * u.length) : p = q := by
  obtain ⟨r, rfl⟩ := up
  obtain ⟨s, rfl⟩ := uq
  rw [List.length_append, List.length_append] at e
  rw [List.length_append] at h
  have hp : (u ++ r).reverse = u ++ r := hp
  have hq : (u ++ s).reverse = u ++ s := hq
  have er : r.reverse = u.take r.length := by
    have z := congrArg (List.take r.length) hp
    rw [List.reverse_append] at z
    have z1 : (r.reverse ++ u.reverse).take r.length = r.reverse := by
      have := List.take_left (l₁ := r.reverse) (l₂ := u.reverse)
      rwa [List.length_reverse] at this
    rw [z1, List.take_append_of_le_length (by omega)] at z
    exact z
  have es : s.reverse = u.take s.length := by
    have z := congrArg (List.take s.length) hq
    rw [List.reverse_append] at z
    have z1 : (s.reverse ++ u.reverse).take s.length = s.reverse := by
      have := List.take_left (l₁ := s.reverse) (l₂ := u.reverse)
      rwa [List.length_reverse] at this
    rw [z1, List.take_append_of_le_length (by omega)] at z
    exact z
  have l : r.length = s.length := by omega
  rw [l, ← es] at er
  rw [List.reverse_inj.mp er]
/-! ### rows that grow by them -/
def T (w : Nat → Nat) : Nat → List Nat
  | 0 => []
  | n + 1 => mc (T w n ++ [w n])
theorem T_pal (w : Nat → Nat) : ∀ n, Pal (T w n)
  | 0 => rfl
  | n + 1 => mc_pal _
theorem T_next (w : Nat → Nat) (n : Nat) : T w n ++ [w n] <+: T w (n + 1) := mc_pre _
theorem T_pre (w : Nat → Nat) {i : Nat} : ∀ {n : Nat}, i ≤ n → T w i <+: T w n
  | 0, h => by
    obtain rfl : i = 0 := by omega
    exact List.prefix_refl _
  | n + 1, h => by
    by_cases e : i = n + 1
    · rw [e]
      exact List.prefix_refl _
    · exact (T_pre w (n := n) (by omega)).trans ((List.prefix_append _ _).trans (T_next w n))
theorem T_letter (w : Nat → Nat) {i n : Nat} (h : i < n) : T w i ++ [w i] <+: T w n := (T_next w i).trans (T_pre w h)
theorem T_grow (w : Nat → Nat) (n : Nat) : (T w n).length + 1 ≤ (T w (n + 1)).length := by
  have z := (T_next w n).length_le
  rwa [List.length_append] at z
theorem T_mono (w : Nat → Nat) {i : Nat} : ∀ {n : Nat}, i ≤ n → (T w i).length + (n - i) ≤ (T w n).length
  | 0, h => by
    obtain rfl : i = 0 := by omega
    exact Nat.le_refl _
  | n + 1, h => by
    by_cases e : i = n + 1
    · rw [e]
      omega
    · have a := T_mono w (n := n) (i := i) (by omega)
      have b := T_grow w n
      omega
/-- what begins a row and reads alike both ways is the row at some step -/
theorem T_all (w : Nat → Nat) : ∀ {n : Nat} {p : List Nat}, Pal p → p <+: T w n → ∃ i, i ≤ n ∧ p = T w i
  | 0, p, _, h => ⟨0, Nat.le_refl _, List.prefix_nil.mp h⟩
  | n + 1, p, hp, h => by
    have hn := T_pre w (i := n) (n := n + 1) (by omega)
    rcases Nat.lt_or_ge (T w n).length p.length with g | g
    · have h2 : T w n ++ [w n] <+: p := List.prefix_of_prefix_length_le (T_next w n) h (by rw [List.length_append]; exact g)
      have m := mc_min _ hp h2
      exact ⟨n + 1, Nat.le_refl _, h.eq_of_length_le m⟩
    · obtain ⟨i, hi, e⟩ := T_all w hp (List.prefix_of_prefix_length_le h hn g)
      exact ⟨i, by omega, e⟩
theorem pal_suffix {p q : List Nat} (hp : Pal p) (hq : Pal q) (h : q <:+ p) : q <+: p := by
  have z := List.reverse_prefix.mpr h
  rw [show q.reverse = q from hq, show p.reverse = p from hp] at z
  exact z
/-- a shorter one in the middle tells of an earlier step with that letter -/
theorem back_step (w : Nat → Nat) {n c : Nat} {s : Nat} (hs : s < (T w n).length) (h : Pal ((T w n ++ [c]).drop s)) : ∃ i, i < n ∧ w i = c ∧ (T w i).length + s + 1 = (T w n).length := by
  rw [List.drop_append_of_le_length (by omega)] at h
  have ne : (T w n).drop s ≠ [] := fun z => by have := congrArg List.length z; rw [List.length_drop] at this; simp at this; omega
  cases e : (T w n).drop s with
  | nil => exact absurd e ne
  | cons d q =>
    rw [e, List.cons_append] at h
    have h2 : Pal (d :: (q ++ [c])) := h
    obtain ⟨q', e2, hq⟩ := pal_ends h2 (by simp)
    obtain ⟨rfl, e3⟩ := List.append_inj' e2 rfl
    obtain rfl : c = d := (List.cons.inj e3).1
    -- c :: q is an end of the row: turned round, q ++ [c] begins it
    have suf : c :: q <:+ T w n := by rw [← e]; exact List.drop_suffix _ _
    have pre : q ++ [c] <+: T w n := by
      have z := List.reverse_prefix.mpr suf
      rw [List.reverse_cons, show q.reverse = q from hq, show (T w n).reverse = T w n from T_pal w n] at z
      exact z
    obtain ⟨i, hi, rfl⟩ := T_all w hq ((List.prefix_append q [c]).trans pre)
    have lq := congrArg List.length e
    rw [List.length_drop, List.length_cons] at lq
    have lt : i < n := by
      rcases Nat.lt_or_ge i n with g | g
      · exact g
      · obtain rfl : i = n := by omega
        have := pre.length_le
        rw [List.length_append, List.length_singleton] at this
        omega
    refine ⟨i, lt, ?_, by omega⟩
    have a := T_letter w lt
    have b := List.prefix_of_prefix_length_le a pre (by simp)
    have z := b.eq_of_length (by simp)
    exact (List.cons.inj (List.append_cancel_left z)).1
/-- the next step, where the letter was never before -/
theorem step_new (w : Nat → Nat) {n c : Nat} (h : ∀ i, i < n → w i ≠ c) : mc (T w n ++ [c]) = T w n ++ [c] ++ T w n := by
  have hX : Pal (T w n ++ [c] ++ T w n) := by
    show (T w n ++ [c] ++ T w n).reverse = _
    rw [List.reverse_append, List.reverse_append, show (T w n).reverse = T w n from T_pal w n, List.reverse_singleton, List.append_assoc]
  have pre : T w n ++ [c] <+: T w n ++ [c] ++ T w n := List.prefix_append _ _
  have le := mc_min _ hX pre
  have lX : (T w n ++ [c] ++ T w n).length = 2 * (T w n).length + 1 := by rw [List.length_append, List.length_append]; simp; omega
  have lu : (T w n ++ [c]).length = (T w n).length + 1 := by rw [List.length_append]; rfl
  have big := (mc_pre (T w n ++ [c])).length_le
  refine pal_same (mc_pal _) hX (mc_pre _) pre ?_ (by omega)
  rcases Nat.lt_or_ge (mc (T w n ++ [c])).length (T w n ++ [c] ++ T w n).length with g | g
  · have m := pal_mid (mc_pal _) (mc_pre (T w n ++ [c])) (by omega)
    obtain ⟨i, hi, e, _⟩ := back_step w (s := (mc (T w n ++ [c])).length - (T w n ++ [c]).length) (by omega) m
    exact absurd e (h i hi)
  · omega
/-- .. and where it was, for the last time at step i -/
theorem step_old (w : Nat → Nat) {n c i : Nat} (hi : i < n) (e : w i = c) (last : ∀ j, i < j → j < n → w j ≠ c) : mc (T w n ++ [c]) = T w n ++ (T w n).drop (T w i).length := by
  have hn : (T w n).reverse = T w n := T_pal w n
  obtain ⟨r, hr⟩ := T_letter w hi
  rw [e] at hr
  have d1 : (T w n).drop (T w i).length = c :: r := by rw [← hr, List.append_assoc, List.drop_left]; rfl
  have pre : T w n ++ [c] <+: T w n ++ (T w n).drop (T w i).length := ⟨r, by rw [d1, List.append_assoc]; rfl⟩
  have hX : Pal (T w n ++ (T w n).drop (T w i).length) := by
    show (T w n ++ (T w n).drop (T w i).length).reverse = _
    have h1 : T w n = T w i ++ (T w n).drop (T w i).length := by rw [d1, ← hr, List.append_assoc]; rfl
    have h2 : T w n = ((T w n).drop (T w i).length).reverse ++ T w i := by
      have z := congrArg List.reverse h1
      rw [List.reverse_append, hn, show (T w i).reverse = T w i from T_pal w i] at z
      exact z
    rw [List.reverse_append, hn]
    exact (congrArg (((T w n).drop (T w i).length).reverse ++ ·) h1).trans ((List.append_assoc _ _ _).symm.trans (congrArg (· ++ (T w n).drop (T w i).length) h2.symm))
  have le := mc_min _ hX pre
  have li : (T w i).length + 1 ≤ (T w n).length := by have := T_mono w (i := i) (n := n) (by omega); omega
  have lX : (T w n ++ (T w n).drop (T w i).length).length = 2 * (T w n).length - (T w i).length := by rw [List.length_append, List.length_drop]; omega
  have lu : (T w n ++ [c]).length = (T w n).length + 1 := by rw [List.length_append]; rfl
  have big := (mc_pre (T w n ++ [c])).length_le
  refine pal_same (mc_pal _) hX (mc_pre _) pre ?_ (by omega)
  rcases Nat.lt_or_ge (mc (T w n ++ [c])).length (T w n ++ (T w n).drop (T w i).length).length with g | g
  · have m := pal_mid (mc_pal _) (mc_pre (T w n ++ [c])) (by omega)
    obtain ⟨j, hj, ej, lj⟩ := back_step w (s := (mc (T w n ++ [c])).length - (T w n ++ [c]).length) (by omega) m
    have ji : j ≤ i := by
      rcases Nat.lt_or_ge i j with z | z
      · exact absurd ej (last j z hj)
      · exact z
    have := T_mono w ji
    omega
  · omega
/-- two rows of letters, periodic behind so many, that agree for long agree for ever -/
theorem agree {u v : Nat → Nat} {h k p q N : Nat} (hu : ∀ i, h ≤ i → u (i + p) = u i) (hv : ∀ i, k ≤ i → v (i + q) = v i) (p1 : 1 ≤ p) (q1 : 1 ≤ q) (N1 : h + p + q ≤ N) (N2 : k + p + q ≤ N) (same : ∀ i, i < N → u i = v i) : ∀ i, u i = v i := by
  intro i
  induction i using Nat.strongRecOn with
  | ind i ih =>
    by_cases c : i < N
    · exact same i c
    · have a1 : u i = u (i - p) := by have z := hu (i - p) (by omega); rwa [show i - p + p = i by omega] at z
      have a2 : v (i - p) = v (i - p - q) := by have z := hv (i - p - q) (by omega); rwa [show i - p - q + q = i - p by omega] at z
      have a3 : u (i - q) = u (i - p - q) := by have z := hu (i - p - q) (by omega); rwa [show i - p - q + p = i - q by omega] at z
      have a4 : v i = v (i - q) := by have z := hv (i - q) (by omega); rwa [show i - q + q = i by omega] at z
      rw [a1, ih (i - p) (by omega), a2, ← ih (i - p - q) (by omega), ← a3, ih (i - q) (by omega), ← a4]
theorem T_same {u v : Nat → Nat} : ∀ {n : Nat}, (∀ i, i < n → u i = v i) → T u n = T v n
  | 0, _ => rfl
  | n + 1, h => by
    show mc (T u n ++ [u n]) = mc (T v n ++ [v n])
    rw [T_same fun i hi => h i (by omega), h n (by omega)]
end XPl

/-! where words stand in a text; cuts from both ends -/
namespace XFd
open PySem PySem.Spec PyProof.Rows L2 XSt NX XFl
open PySem.StrLaws
/-- the word stands in the text from i on -/
def hit (z w : Str) (i : Nat) : Bool := decide (cs w <+: (cs z).drop i)
theorem hit_le {z w : Str} {i : Nat} (h1 : 1 ≤ w.length) (h : hit z w i = true) : i + w.length ≤ z.length := by
  have p := (of_decide_eq_true h).length_le
  rw [List.length_drop, cs_len, cs_len] at p
  omega
theorem occ_stay (s sub : Str) (hi : Nat) : ∀ (l : List Nat) (st : Array Nat × Nat), st.fst.size = 1 → (forIn l st (occBody s sub hi 1)).run.fst = st.fst
  | [], st, _ => by simp
  | a :: l, st, h => by
    rw [List.forIn_cons]
    unfold occBody
    rw [if_neg (by rw [h]; omega)]
    exact occ_stay s sub hi l (st.fst, st.snd) h
theorem occ_first (s sub : Str) (hi : Nat) : ∀ (l : List Nat) (free : Nat), (∀ i ∈ l, free ≤ i) →
    (forIn l ((#[] : Array Nat), free) (occBody s sub hi 1)).run.fst.toList = (l.find? fun i => decide (i + sub.length ≤ hi) && Builtin.Str.subAt s sub i).toList
  | [], free, _ => by simp
  | a :: l, free, hf => by
    have ha : free ≤ a := hf a (List.mem_cons_self ..)
    rw [List.forIn_cons, List.find?_cons]
    by_cases hc : a + sub.length ≤ hi ∧ Builtin.Str.subAt s sub a = true
    · have c0 : (decide (a + sub.length ≤ hi) && Builtin.Str.subAt s sub a) = true := by rw [hc.2, Bool.and_true]; exact decide_eq_true hc.1
      rw [c0]
      unfold occBody
      rw [if_pos ⟨⟨⟨by simp, ha⟩, hc.1⟩, hc.2⟩]
      have z := occ_stay s sub hi l ((#[] : Array Nat).push a, a + sub.length) rfl
      exact congrArg Array.toList z
    · have c0 : (decide (a + sub.length ≤ hi) && Builtin.Str.subAt s sub a) = false := by
        cases e : (decide (a + sub.length ≤ hi) && Builtin.Str.subAt s sub a) with
        | false => rfl
        | true =>
          obtain ⟨h1, h2⟩ := Bool.and_eq_true_iff.mp e
          exact absurd ⟨of_decide_eq_true h1, h2⟩ hc
      rw [c0]
      unfold occBody
      rw [if_neg fun h => hc ⟨h.1.2, h.2⟩]
      exact occ_first s sub hi l free fun i m => hf i (List.mem_cons_of_mem _ m)
theorem sub_hit {z w : Str} {i : Nat} (h1 : 1 ≤ w.length) : (decide (i + w.length ≤ z.length) && Builtin.Str.subAt z w i) = hit z w i := by
  rw [Bool.eq_iff_iff, Bool.and_eq_true, decide_eq_true_eq, subAt_eq, beq_iff_eq]
  constructor
  · rintro ⟨_, e⟩
    refine decide_eq_true ?_
    show w.cps.toList <+: _
    rw [← e]
    exact List.take_prefix _ _
  · intro h
    refine ⟨hit_le h1 h, ?_⟩
    have p := List.prefix_iff_eq_take.mp (of_decide_eq_true h)
    exact p.symm
/-- the first place from i on, or -1 -/
def nextF (z w : Str) (i : Nat) : Int := match (List.range' i (z.length + 1 - i)).find? (hit z w) with
  | some k => (k : Int)
  | none => -1
theorem find_from {z w : Str} (h1 : 1 ≤ w.length) (i : Nat) : (match Builtin.Str.occurrences z w i z.length 1 with | k :: _ => (k : Int) | [] => -1) = nextF z w i := by
  rw [occ_eq, occ_first z w z.length _ i (fun j m => by rw [List.mem_range'] at m; omega)]
  unfold nextF
  rw [show (fun i => decide (i + w.length ≤ z.length) && Builtin.Str.subAt z w i) = hit z w from funext fun i => sub_hit h1]
  cases (List.range' i (z.length + 1 - i)).find? (hit z w) <;> rfl
theorem find_0 {z w : Str} (h1 : 1 ≤ w.length) : Txt.find z w = nextF z w 0 := find_from h1 0
theorem find_3 {z w : Str} (h1 : 1 ≤ w.length) (i : Nat) : Txt.find3 z w (i : Int) = nextF z w i := by
  have e : fromIndex z.length (i : Int) = i := by
    unfold fromIndex
    rw [if_neg (by omega)]
    omega
  unfold Txt.find3
  rw [e]
  exact find_from h1 i
theorem next_cases {z w : Str} (h1 : 1 ≤ w.length) (i : Nat) : (∃ k : Nat, nextF z w i = (k : Int) ∧ i ≤ k ∧ hit z w k = true ∧ ∀ j, i ≤ j → j < k → hit z w j = false) ∨ (nextF z w i = -1 ∧ ∀ j, i ≤ j → hit z w j = false) := by
  unfold nextF
  cases e : (List.range' i (z.length + 1 - i)).find? (hit z w) with
  | some k =>
    refine .inl ⟨k, rfl, ?_, List.find?_some e, fun j h2 h3 => ?_⟩
    · have m := List.mem_of_find?_eq_some e
      rw [List.mem_range'] at m
      omega
    · obtain ⟨_, as, bs, e2, no⟩ := List.find?_eq_some_iff_append.mp e
      have m := List.mem_of_find?_eq_some e
      rw [List.mem_range'] at m
      have ms : j ∈ List.range' i (z.length + 1 - i) := by rw [List.mem_range']; exact ⟨j - i, by omega, by omega⟩
      have so : (List.range' i (z.length + 1 - i)).Pairwise (· < ·) := List.pairwise_lt_range'
      rw [e2] at ms so
      rcases List.mem_append.mp ms with m2 | m2
      · have z := no j m2
        simpa using z
      · rcases List.mem_cons.mp m2 with rfl | m3
        · omega
        · have z := (List.pairwise_cons.mp (List.pairwise_append.mp so).2.1).1 j m3
          omega
  | none =>
    refine .inr ⟨rfl, fun j h2 => ?_⟩
    cases eh : hit z w j with
    | false => rfl
    | true =>
      have l := hit_le h1 eh
      have z := List.find?_eq_none.mp e j (by rw [List.mem_range']; exact ⟨j - i, by omega, by omega⟩)
      exact absurd eh z
def occN (z w : Str) (m : Nat) : List Nat := (List.range m).filter (hit z w)
theorem occN_zero (z w : Str) : occN z w 0 = [] := rfl
theorem occN_same {z w : Str} {i : Nat} : ∀ d : Nat, (∀ j, i ≤ j → j < i + d → hit z w j = false) → occN z w (i + d) = occN z w i
  | 0, _ => rfl
  | d + 1, h => by
    have ih := occN_same (i := i) d fun j a b => h j a (by omega)
    unfold occN at ih ⊢
    rw [← Nat.add_assoc, List.range_succ, List.filter_append, ih, List.filter_cons, h (i + d) (by omega) (by omega)]
    simp
theorem occN_next {z w : Str} {i k : Nat} (ik : i ≤ k) (hk : hit z w k = true) (no : ∀ j, i ≤ j → j < k → hit z w j = false) : occN z w (k + 1) = occN z w i ++ [k] := by
  have e := occN_same (z := z) (w := w) (i := i) (k - i) fun j a b => no j a (by omega)
  rw [show i + (k - i) = k by omega] at e
  unfold occN at e ⊢
  rw [List.range_succ, List.filter_append, e, List.filter_cons, hk]
  simp
def occs (z w : Str) : List Nat := occN z w z.length
theorem occN_end {z w : Str} {i : Nat} (h1 : 1 ≤ w.length) (il : i ≤ z.length) (no : ∀ j, i ≤ j → hit z w j = false) : occN z w i = occs z w := by
  have e := occN_same (z := z) (w := w) (i := i) (z.length - i) fun j a _ => no j a
  rw [show i + (z.length - i) = z.length by omega] at e
  exact e.symm
theorem mem_occs {z w : Str} {i : Nat} (h1 : 1 ≤ w.length) : i ∈ occs z w ↔ hit z w i = true := by
  unfold occs occN
  rw [List.mem_filter, List.mem_range]
  exact ⟨fun h => h.2, fun h => ⟨by have := hit_le h1 h; omega, h⟩⟩
/-- all places with their words, word by word -/
def foundD (z : Str) (ws : List Str) : List (Nat × Str) := ws.flatMap fun w => (occs z w).map fun i => (i, w)
theorem mem_found {z : Str} {ws : List Str} (h1 : ∀ w ∈ ws, 1 ≤ w.length) {p : Nat × Str} : p ∈ foundD z ws ↔ p.2 ∈ ws ∧ hit z p.2 p.1 = true := by
  unfold foundD
  rw [List.mem_flatMap]
  constructor
  · rintro ⟨w, mw, m⟩
    obtain ⟨i, mi, rfl⟩ := List.mem_map.mp m
    exact ⟨mw, (mem_occs (h1 w mw)).mp mi⟩
  · rintro ⟨mw, h⟩
    exact ⟨p.2, mw, List.mem_map.mpr ⟨p.1, (mem_occs (h1 _ mw)).mpr h, rfl⟩⟩
theorem found_nodup {z : Str} {ws : List Str} (nd : ws.Nodup) : (foundD z ws).Nodup := by
  unfold foundD
  refine List.pairwise_flatMap.mpr ⟨fun w mw => ?_, nd.imp fun {a b} ne x mx y my e => ?_⟩
  · refine List.pairwise_map.mpr ?_
    have so : (occs z w).Nodup := List.Nodup.sublist List.filter_sublist List.nodup_range
    exact so.imp fun {a b} ne e => ne (congrArg Prod.fst e)
  · obtain ⟨i, _, rfl⟩ := List.mem_map.mp mx
    obtain ⟨j, _, rfl⟩ := List.mem_map.mp my
    exact ne (congrArg Prod.snd e)
theorem found_len (z : Str) : ∀ ws : List Str, (foundD z ws).length ≤ ws.length * z.length
  | [] => Nat.zero_le _
  | w :: ws => by
    have ih := found_len z ws
    have l : (occs z w).length ≤ z.length := by
      have := List.length_filter_le (hit z w) (List.range z.length)
      rw [List.length_range] at this
      exact this
    show (((occs z w).map fun i => (i, w)) ++ foundD z ws).length ≤ _
    rw [List.length_append, List.length_map, List.length_cons, Nat.succ_mul]
    omega
abbrev kI (i : Int) : Key := Sum.inl i
/-- as the entries of a dict -/
def kvF (D : List (Nat × Str)) : List (Key × V) := D.map fun p => (kI p.1, V.str p.2)
theorem kvF_len (D : List (Nat × Str)) : (kvF D).length = D.length := List.length_map ..
theorem val_none {D : List (Nat × Str)} {i : Nat} (h : ∀ w, (i, w) ∉ D) : valV (kvF D) (kI (i : Int)) = none := by
  induction D with
  | nil => rfl
  | cons p D ih =>
    show valV ((kI p.1, V.str p.2) :: kvF D) _ = none
    rw [valV_neg]
    · exact ih fun w m => h w (List.mem_cons_of_mem _ m)
    · intro e
      have e2 : (p.1 : Int) = (i : Int) := Sum.inl.inj e
      have : p = (i, p.2) := Prod.ext (by show p.1 = i; omega) rfl
      exact h p.2 (by rw [← this]; exact List.mem_cons_self ..)
theorem val_some {D : List (Nat × Str)} {i : Nat} {w : Str} (h : (i, w) ∈ D) (one : ∀ v, (i, v) ∈ D → v = w) : valV (kvF D) (kI (i : Int)) = some (.str w) := by
  induction D with
  | nil => cases h
  | cons p D ih =>
    show valV ((kI p.1, V.str p.2) :: kvF D) _ = _
    by_cases e : p.1 = i
    · rw [valV_pos (by show kI (p.1 : Int) = _; rw [e])]
      have := one p.2 (by rw [← e]; exact List.mem_cons_self ..)
      show some (V.str p.2) = _
      rw [this]
    · rw [valV_neg (by intro z; have z2 : (p.1 : Int) = (i : Int) := Sum.inl.inj z; omega)]
      refine ih ?_ fun v m => one v (List.mem_cons_of_mem _ m)
      rcases List.mem_cons.mp h with rfl | m
      · exact absurd rfl e
      · exact m
/-- words of which none begins, or ends, another one -/
structure Free2 (ws : List Str) : Prop where
  one : ∀ w ∈ ws, 1 ≤ w.length
  pre : ∀ a ∈ ws, ∀ b ∈ ws, a ≠ b → ¬ cs a <+: cs b
  suf : ∀ a ∈ ws, ∀ b ∈ ws, a ≠ b → ¬ cs a <:+ cs b
  nd : ws.Nodup
theorem Free2.pre_one {ws : List Str} (F : Free2 ws) {a b : Str} {l : List Nat} (ma : a ∈ ws) (mb : b ∈ ws) (ha : cs a <+: l) (hb : cs b <+: l) : a = b := by
  by_cases e : a = b
  · exact e
  · rcases List.prefix_or_prefix_of_prefix ha hb with h | h
    · exact absurd h (F.pre a ma b mb e)
    · exact absurd h (F.pre b mb a ma fun z => e z.symm)
theorem Free2.suf_one {ws : List Str} (F : Free2 ws) {a b : Str} {l : List Nat} (ma : a ∈ ws) (mb : b ∈ ws) (ha : cs a <:+ l) (hb : cs b <:+ l) : a = b := by
  by_cases e : a = b
  · exact e
  · rcases List.suffix_or_suffix_of_suffix ha hb with h | h
    · exact absurd h (F.suf a ma b mb e)
    · exact absurd h (F.suf b mb a ma fun z => e z.symm)
theorem at_some {z : Str} {ws : List Str} (F : Free2 ws) {i : Nat} {w : Str} (m : w ∈ ws) (h : cs w <+: (cs z).drop i) : valV (kvF (foundD z ws)) (kI (i : Int)) = some (.str w) :=
  val_some ((mem_found F.one).mpr ⟨m, decide_eq_true h⟩) fun v mv => by
    obtain ⟨m2, h2⟩ := (mem_found F.one).mp mv
    exact F.pre_one m2 m (of_decide_eq_true h2) h
theorem at_none {z : Str} {ws : List Str} (F : Free2 ws) {i : Nat} (h : ∀ w ∈ ws, ¬ cs w <+: (cs z).drop i) : valV (kvF (foundD z ws)) (kI (i : Int)) = none :=
  val_none fun w m => by
    obtain ⟨m2, h2⟩ := (mem_found F.one).mp m
    exact h w m2 (of_decide_eq_true h2)
/-- the same, by their ends -/
def endP (p : Nat × Str) : Nat × Str := (p.1 + p.2.length, p.2)
def aheadD (z : Str) (ws : List Str) : List (Nat × Str) := (foundD z ws).map endP
theorem hit_end {z w : Str} {i : Nat} (h1 : 1 ≤ w.length) : hit z w i = true ↔ i + w.length ≤ z.length ∧ cs w = ((cs z).take (i + w.length)).drop i := by
  constructor
  · intro h
    refine ⟨hit_le h1 h, ?_⟩
    have p := List.prefix_iff_eq_take.mp (of_decide_eq_true h)
    rw [List.drop_take, Nat.add_sub_cancel_left, ← cs_len w]
    exact p
  · rintro ⟨_, e⟩
    refine decide_eq_true ?_
    rw [e, List.drop_take]
    exact List.take_prefix _ _
theorem mem_ahead {z : Str} {ws : List Str} (F : Free2 ws) {e : Nat} {w : Str} (he : e ≤ z.length) : (e, w) ∈ aheadD z ws ↔ w ∈ ws ∧ cs w <:+ (cs z).take e := by
  unfold aheadD
  rw [List.mem_map]
  constructor
  · rintro ⟨⟨i, v⟩, m, e2⟩
    obtain ⟨mv, h⟩ := (mem_found F.one).mp m
    have e3 : v = w := congrArg Prod.snd e2
    subst e3
    have e4 : i + v.length = e := congrArg Prod.fst e2
    refine ⟨mv, ?_⟩
    have z2 := ((hit_end (F.one _ mv)).mp h).2
    rw [show i + (i, v).2.length = i + v.length from rfl, e4] at z2
    rw [z2]
    exact List.drop_suffix _ _
  · rintro ⟨mw, s⟩
    have l := s.length_le
    rw [List.length_take, cs_len, cs_len] at l
    refine ⟨(e - w.length, w), (mem_found F.one).mpr ⟨mw, (hit_end (F.one _ mw)).mpr ⟨by show e - w.length + w.length ≤ _; omega, ?_⟩⟩, by show (e - w.length + w.length, w) = _; rw [Nat.sub_add_cancel (by omega)]⟩
    show cs w = ((cs z).take (e - w.length + w.length)).drop (e - w.length)
    rw [Nat.sub_add_cancel (by omega)]
    have p := List.suffix_iff_eq_drop.mp s
    rw [List.length_take, cs_len, cs_len, Nat.min_eq_left he] at p
    exact p
theorem end_some {z : Str} {ws : List Str} (F : Free2 ws) {e : Nat} {w : Str} (he : e ≤ z.length) (m : w ∈ ws) (h : cs w <:+ (cs z).take e) : valV (kvF (aheadD z ws)) (kI (e : Int)) = some (.str w) :=
  val_some ((mem_ahead F he).mpr ⟨m, h⟩) fun v mv => by
    obtain ⟨m2, h2⟩ := (mem_ahead F he).mp mv
    exact F.suf_one m2 m h2 h
theorem end_none {z : Str} {ws : List Str} (F : Free2 ws) {e : Nat} (he : e ≤ z.length) (h : ∀ w ∈ ws, ¬ cs w <:+ (cs z).take e) : valV (kvF (aheadD z ws)) (kI (e : Int)) = none :=
  val_none fun w m => by
    obtain ⟨m2, h2⟩ := (mem_ahead F he).mp m
    exact h w m2 h2
/-- the ends of different places are different ones -/
theorem ahead_new {z : Str} {ws : List Str} (F : Free2 ws) {p q : Nat × Str} (mp : p ∈ foundD z ws) (mq : q ∈ foundD z ws) (ne : p ≠ q) : p.1 + p.2.length ≠ q.1 + q.2.length := by
  intro e
  obtain ⟨m1, h1⟩ := (mem_found F.one).mp mp
  obtain ⟨m2, h2⟩ := (mem_found F.one).mp mq
  have l1 := hit_le (F.one _ m1) h1
  have a1 := (mem_ahead F (e := p.1 + p.2.length) (w := p.2) l1).mp (List.mem_map.mpr ⟨p, mp, rfl⟩)
  have a2 := (mem_ahead F (e := p.1 + p.2.length) (w := q.2) l1).mp (List.mem_map.mpr ⟨q, mq, by rw [e]; rfl⟩)
  have e2 := F.suf_one m1 m2 a1.2 a2.2
  rw [e2] at e
  exact ne (Prod.ext (by omega) e2)
/-- cut from the front: the row and the rest -/
inductive Cut (ws : List Str) : List Nat → List Str → List Nat → Prop
  | stop {l : List Nat} : (∀ w ∈ ws, ¬ cs w <+: l) → Cut ws l [] l
  | go {l e : List Nat} {w : Str} {r : List Str} : w ∈ ws → Cut ws l r e → Cut ws (cs w ++ l) (w :: r) e
theorem cut_ex {ws : List Str} (h1 : ∀ w ∈ ws, 1 ≤ w.length) : ∀ (n : Nat) (l : List Nat), l.length ≤ n → ∃ r e, Cut ws l r e := by
  intro n
  induction n with
  | zero =>
    intro l hl
    refine ⟨[], l, .stop fun w mw p => ?_⟩
    have := p.length_le
    have h := h1 w mw
    rw [← cs_len] at h
    omega
  | succ n ih =>
    intro l hl
    by_cases h : ∃ w ∈ ws, cs w <+: l
    · obtain ⟨w, mw, t, rfl⟩ := h
      have h := h1 w mw
      rw [← cs_len] at h
      rw [List.length_append] at hl
      obtain ⟨r, e, c⟩ := ih t (by omega)
      exact ⟨w :: r, e, .go mw c⟩
    · exact ⟨[], l, .stop fun w mw p => h ⟨w, mw, p⟩⟩
theorem cut_one {ws : List Str} (F : Free2 ws) {l : List Nat} {r : List Str} {e : List Nat} (c : Cut ws l r e) : ∀ {r2 : List Str} {e2 : List Nat}, Cut ws l r2 e2 → r = r2 ∧ e = e2 := by
  induction c with
  | stop no =>
    intro r2 e2 c2
    cases c2 with
    | stop _ => exact ⟨rfl, rfl⟩
    | go mw _ => exact absurd (List.prefix_append _ _) (no _ mw)
  | @go l e w r mw c ih =>
    intro r2 e2 c2
    generalize g : cs w ++ l = l2 at c2
    cases c2 with
    | stop no => exact absurd (by rw [← g]; exact List.prefix_append _ _) (no _ mw)
    | @go l3 _ v r3 mv c3 =>
      have ev : w = v := F.pre_one mw mv (l := cs w ++ l) (List.prefix_append _ _) (by rw [g]; exact List.prefix_append _ _)
      subst ev
      obtain rfl := List.append_cancel_left g
      obtain ⟨e1, e2⟩ := ih c3
      exact ⟨by rw [e1], e2⟩
/-- cut from behind: the last word first -/
inductive CutE (ws : List Str) : List Nat → List Str → List Nat → Prop
  | stop {l : List Nat} : (∀ w ∈ ws, ¬ cs w <:+ l) → CutE ws l [] l
  | go {l e : List Nat} {w : Str} {r : List Str} : w ∈ ws → CutE ws l r e → CutE ws (l ++ cs w) (w :: r) e
theorem cutE_ex {ws : List Str} (h1 : ∀ w ∈ ws, 1 ≤ w.length) : ∀ (n : Nat) (l : List Nat), l.length ≤ n → ∃ r e, CutE ws l r e := by
  intro n
  induction n with
  | zero =>
    intro l hl
    refine ⟨[], l, .stop fun w mw p => ?_⟩
    have := p.length_le
    have h := h1 w mw
    rw [← cs_len] at h
    omega
  | succ n ih =>
    intro l hl
    by_cases h : ∃ w ∈ ws, cs w <:+ l
    · obtain ⟨w, mw, t, rfl⟩ := h
      have h := h1 w mw
      rw [← cs_len] at h
      rw [List.length_append] at hl
      obtain ⟨r, e, c⟩ := ih t (by omega)
      exact ⟨w :: r, e, .go mw c⟩
    · exact ⟨[], l, .stop fun w mw p => h ⟨w, mw, p⟩⟩
theorem cutE_text {ws : List Str} {l : List Nat} {r : List Str} {e : List Nat} (c : CutE ws l r e) : l = e ++ (r.reverse.map cs).flatten := by
  induction c with
  | stop _ => simp
  | go _ _ ih => rw [ih]; simp
theorem cut_text {ws : List Str} {l : List Nat} {r : List Str} {e : List Nat} (c : Cut ws l r e) : l = (r.map cs).flatten ++ e := by
  induction c with
  | stop _ => simp
  | go _ _ ih => rw [ih]; simp
theorem cut_mem {ws : List Str} {l : List Nat} {r : List Str} {e : List Nat} (c : Cut ws l r e) : ∀ w ∈ r, w ∈ ws := by
  induction c with
  | stop _ => intro w m; cases m
  | go mw _ ih =>
    intro v m
    rcases List.mem_cons.mp m with rfl | m
    · exact mw
    · exact ih v m
theorem cutE_end {ws : List Str} {l : List Nat} {r : List Str} {e : List Nat} (c : CutE ws l r e) : ∀ w ∈ ws, ¬ cs w <:+ e := by
  induction c with
  | stop no => exact no
  | go _ _ ih => exact ih
theorem cs_revS (s : Str) : cs (revS s) = (cs s).reverse := cs_rev s
theorem revS_rev (s : Str) : revS (revS s) = s := cs_inj (by rw [cs_revS, cs_revS, List.reverse_reverse])
theorem cutE_flip {ws fl : List Str} (hf : ∀ x, x ∈ fl ↔ ∃ w ∈ ws, x = revS w) {l : List Nat} {r : List Str} {e : List Nat} (c : CutE ws l r e) : Cut fl l.reverse (r.map revS) e.reverse := by
  induction c with
  | stop no =>
    refine .stop fun x mx p => ?_
    obtain ⟨w, mw, rfl⟩ := (hf x).mp mx
    rw [cs_revS] at p
    exact no w mw (List.reverse_prefix.mp p)
  | @go l e w r mw c ih =>
    rw [List.reverse_append, ← cs_revS]
    exact .go ((hf _).mpr ⟨w, mw, rfl⟩) ih
theorem cut_words {ws : List Str} (h1 : ∀ w ∈ ws, 1 ≤ w.length) : ∀ r : List Str, (∀ w ∈ r, w ∈ ws) → Cut ws (r.map cs).flatten r []
  | [], _ => .stop fun w mw p => by
    have z : (cs w).length ≤ 0 := p.length_le
    have h := h1 w mw
    rw [← cs_len] at h
    omega
  | w :: r, m => by
    have ih := cut_words h1 r fun v mv => m v (List.mem_cons_of_mem _ mv)
    show Cut ws (cs w ++ (r.map cs).flatten) _ _
    exact .go (m w (List.mem_cons_self ..)) ih
theorem cutE_words {ws : List Str} (h1 : ∀ w ∈ ws, 1 ≤ w.length) : ∀ r : List Str, (∀ w ∈ r, w ∈ ws) → CutE ws (r.reverse.map cs).flatten r []
  | [], _ => .stop fun w mw p => by
    have z : (cs w).length ≤ 0 := p.length_le
    have h := h1 w mw
    rw [← cs_len] at h
    omega
  | w :: r, m => by
    have ih := cutE_words h1 r fun v mv => m v (List.mem_cons_of_mem _ mv)
    have e : ((w :: r).reverse.map cs).flatten = (r.reverse.map cs).flatten ++ cs w := by simp
    rw [e]
    exact .go (m w (List.mem_cons_self ..)) ih
theorem cut_from (y : Str) (n : Nat) : cs (cutS y (some (n : Int)) none) = (cs y).drop n := by
  unfold cutS
  rw [cs_mk, HT.sIx_none, HT.sIx_nat]
  show ((cs y).drop (min n y.length)).take (y.length - min n y.length) = _
  have l : (cs y).length = y.length := cs_len y
  rcases Nat.le_total n y.length with g | g
  · rw [Nat.min_eq_left g]
    exact List.take_of_length_le (by rw [List.length_drop]; omega)
  · rw [Nat.min_eq_right g, List.drop_of_length_le (by omega), List.drop_of_length_le (by omega), List.take_nil]
theorem cut_to (y : Str) (n : Nat) : cs (cutS y none (some (n : Int))) = (cs y).take n := by
  unfold cutS
  rw [cs_mk, HT.sIx_none, HT.sIx_nat]
  show ((cs y).drop 0).take (min n y.length - 0) = _
  have l : (cs y).length = y.length := cs_len y
  rw [List.drop_zero, Nat.sub_zero]
  rcases Nat.le_total n y.length with g | g
  · rw [Nat.min_eq_left g]
  · rw [Nat.min_eq_right g, List.take_of_length_le (by omega), List.take_of_length_le (by omega)]
end XFd

/-! the mirrors of the program are the shortest texts that read alike both ways -/
namespace B73
open PySem PySem.Spec PyProof.Rows L2 XSt NX XB XE XPl
/-- the guide's letters, as numbers -/
def lw (h g : Str) (i : Nat) : Nat := if i < h.length then (cs h).getD i 0 else (cs g).getD ((i - h.length) % g.length) 0
theorem letter_lw (h g : Str) (i : Nat) : letterF h g i = ⟨#[lw h g i]⟩ := by
  unfold letterF lw signAt
  split <;> rfl
theorem one_inj {a b : Nat} (h : (⟨#[a]⟩ : Str) = ⟨#[b]⟩) : a = b := by
  have z := congrArg cs h
  exact (List.cons.inj z).1
/-- what the places tell: nothing of letters that were not, the last place of those that were -/
def Told (w : Nat → Nat) (n : Nat) (a : Ahead) : Prop := ∀ c : Nat, (valV a (Sum.inr (⟨#[c]⟩ : Str)) = none ∧ ∀ i, i < n → w i ≠ c) ∨ ∃ i, i < n ∧ w i = c ∧ (∀ j, i < j → j < n → w j ≠ c) ∧ valV a (Sum.inr (⟨#[c]⟩ : Str)) = some (.int ((T w i).length : Nat))
theorem close_T {w : Nat → Nat} {n : Nat} {t : Str} {a : Ahead} (ht : cs t = T w n) (ha : Told w n a) (c : Nat) : cs (closeF t a ⟨#[c]⟩) = mc (T w n ++ [c]) := by
  unfold closeF
  rcases ha c with ⟨e, no⟩ | ⟨i, hi, e, last, v⟩
  · rw [e]
    show cs (t ++ (⟨#[c]⟩ ++ t)) = _
    rw [cs_app, cs_app, ht, step_new w no, List.append_assoc]
    rfl
  · rw [v]
    show cs (t ++ cutS t (some ((T w i).length : Int)) none) = _
    rw [cs_app, XFd.cut_from, ht, step_old w hi e last]
theorem told_next {w : Nat → Nat} {n : Nat} {a : Ahead} (ha : Told w n a) : Told w (n + 1) (putK a (Sum.inr (⟨#[w n]⟩ : Str)) (.int ((T w n).length : Nat))) := by
  intro c
  rw [valV_put]
  by_cases e : w n = c
  · subst e
    rw [if_pos rfl]
    exact .inr ⟨n, Nat.lt_succ_self n, rfl, fun j h1 h2 => by omega, rfl⟩
  · rw [if_neg fun z => e (one_inj (Sum.inr.inj z)).symm]
    rcases ha c with ⟨h1, h2⟩ | ⟨i, hi, e2, last, v⟩
    · refine .inl ⟨h1, fun i hi => ?_⟩
      by_cases z : i = n
      · rw [z]
        exact e
      · exact h2 i (by omega)
    · refine .inr ⟨i, by omega, e2, fun j h3 h4 => ?_, v⟩
      by_cases z : j = n
      · rw [z]
        exact e
      · exact last j h3 (by omega)
theorem st_T (h g : Str) : ∀ n, cs (stF h g n).1 = T (lw h g) n ∧ Told (lw h g) n (stF h g n).2
  | 0 => ⟨by show cs (Str.ofString "") = []; decide +kernel, fun c => .inl ⟨rfl, fun i hi => by omega⟩⟩
  | n + 1 => by
    obtain ⟨h1, h2⟩ := st_T h g n
    refine ⟨?_, ?_⟩
    · show cs (closeF (stF h g n).1 (stF h g n).2 (letterF h g n)) = _
      rw [letter_lw, close_T h1 h2]
      rfl
    · show Told _ (n + 1) (putK (stF h g n).2 (Sum.inr (letterF h g n)) (.int ((stF h g n).1.length : Nat)))
      rw [letter_lw, show (stF h g n).1.length = (T (lw h g) n).length by rw [← cs_len, h1]]
      exact told_next h2
/-- a guide told in another way, or another guide: alike for 60 signs, alike for ever -/
theorem lw_period {h g : Str} (g1 : 1 ≤ g.length) {i : Nat} (hi : h.length ≤ i) : lw h g (i + g.length) = lw h g i := by
  unfold lw
  rw [if_neg (by omega), if_neg (by omega)]
  congr 1
  rw [show i + g.length - h.length = (i - h.length) + g.length by omega, Nat.add_mod_right]
theorem lw_agree {h g h' g' : Str} (lh : h.length ≤ 20) (g1 : 1 ≤ g.length) (g20 : g.length ≤ 20) (lh' : h'.length ≤ 20) (g1' : 1 ≤ g'.length) (g20' : g'.length ≤ 20) (same : ∀ i, i < 60 → lw h g i = lw h' g' i) : ∀ i, lw h g i = lw h' g' i :=
  agree (N := 60) (fun i hi => lw_period g1 hi) (fun i hi => lw_period g1' hi) g1 g1' (by omega) (by omega) same
theorem rep_get (l : List Nat) (h : 1 ≤ l.length) : ∀ (m i : Nat), i < m * l.length → ((List.replicate m l).flatten)[i]? = l[i % l.length]?
  | 0, i, hi => by omega
  | m + 1, i, hi => by
    rw [List.replicate_succ, List.flatten_cons]
    by_cases c : i < l.length
    · rw [List.getElem?_append_left c, Nat.mod_eq_of_lt c]
    · rw [List.getElem?_append_right (by omega), rep_get l h m (i - l.length) (by rw [Nat.succ_mul] at hi; omega), ← Nat.mod_eq_sub_mod (by omega)]
end B73

/-! the guide's beginning -/
namespace B73
open PySem PySem.Spec PyProof.Rows L2 XSt NX XB XE XPl XFd
theorem fold_appG (a : Array Nat) : ∀ (m : Nat) (acc : Array Nat), ((List.replicate m a).foldl (· ++ ·) acc).toList = acc.toList ++ (List.replicate m a.toList).flatten
  | 0, acc => by simp
  | m + 1, acc => by
    rw [List.replicate_succ, List.foldl_cons, fold_appG a m, List.replicate_succ, List.flatten_cons, Array.toList_append, List.append_assoc]
theorem mul_G (s : Str) (n : Nat) (h : 0 < s.length) (hn : 1 ≤ n) : cs (Txt.mul s (n : Int)) = (List.replicate n (cs s)).flatten := by
  by_cases e1 : n = 1
  · subst e1
    have e : Txt.mul s ((1 : Nat) : Int) = s := by
      unfold Txt.mul
      rw [if_neg (by omega), if_pos (by rfl)]
    rw [e]
    simp
  · have e : Txt.mul s (n : Int) = ⟨(List.replicate n s.cps).foldl (· ++ ·) #[]⟩ := by
      unfold Txt.mul
      have h2 : 0 < s.cps.size := h
      rw [if_neg (by omega), if_neg (by rw [Bool.or_eq_true, beq_iff_eq, beq_iff_eq]; omega)]
      rfl
    rw [e]
    show ((List.replicate n s.cps).foldl (· ++ ·) #[]).toList = _
    rw [fold_appG]
    rfl
theorem rep_lenG (l : List Nat) (n : Nat) : ((List.replicate n l).flatten).length = n * l.length := by
  induction n with
  | zero => simp
  | succ n ih => rw [List.replicate_succ, List.flatten_cons, List.length_append, ih, Nat.succ_mul, Nat.add_comm]
theorem guide_cs {h g : Str} (g1 : 1 ≤ g.length) (n : Nat) : cs (guideF h g n) = (List.range n).map (lw h g) := by
  have lh : (cs h).length = h.length := cs_len h
  have lg : (cs g).length = g.length := cs_len g
  have r1 : 1 ≤ roundsN h g n := Nat.succ_le_succ (Nat.zero_le _)
  have big : n ≤ h.length + roundsN h g n * g.length := by
    unfold roundsN
    have z := Nat.div_add_mod (n - h.length) g.length
    have y := Nat.mod_lt (n - h.length) (show g.length > 0 by omega)
    rw [Nat.add_mul, Nat.one_mul]
    rw [Nat.mul_comm] at z
    omega
  unfold guideF
  rw [cut_to, cs_app, mul_G g _ g1 r1]
  apply List.ext_getElem?
  intro i
  by_cases hi : i < n
  · rw [List.getElem?_take_of_lt hi, List.getElem?_map, List.getElem?_range hi]
    show _ = some (lw h g i)
    unfold lw
    by_cases c : i < h.length
    · rw [List.getElem?_append_left (by omega), if_pos c, List.getD_eq_getElem?_getD, List.getElem?_eq_getElem (by omega)]
      rfl
    · rw [List.getElem?_append_right (by omega), if_neg c, lh, rep_get (cs g) (by omega) _ _ (by rw [lg]; omega), lg, List.getD_eq_getElem?_getD]
      have m := Nat.mod_lt (i - h.length) (show g.length > 0 by omega)
      rw [List.getElem?_eq_getElem (by omega)]
      rfl
  · rw [List.getElem?_eq_none (by rw [List.length_take]; omega), List.getElem?_eq_none (by rw [List.length_map, List.length_range]; omega)]
end B73

/-! the shortest text that reads alike both ways, by the program and by the law -/
namespace B73
open PySem PySem.Spec PyProof.Rows L2 XSt NX XB XE XPl XFd
open PySem.W (Frag)
abbrev sMirrorClose : Stmt := top 27
abbrev sLawClose : Stmt := top 37
def mcS (y : Str) : Str := ⟨(mc (cs y)).toArray⟩
theorem cs_mcS (y : Str) : cs (mcS y) = mc (cs y) := rfl
theorem mc_spot : ∀ {l : List Nat} {s : Nat}, s ≤ l.length → Pal (l.drop s) → (∀ t, t < s → ¬ Pal (l.drop t)) → mc l = l ++ (l.take s).reverse
  | [], s, h, _, _ => by
    obtain rfl : s = 0 := by simpa using h
    rfl
  | c :: l, 0, _, h, _ => by
    have h : Pal (c :: l) := h
    unfold mc
    rw [if_pos h]
    simp
  | c :: l, s + 1, h, hp, no => by
    have n0 : ¬ Pal (c :: l) := no 0 (Nat.succ_pos s)
    have ih := mc_spot (l := l) (s := s) (by simpa using h) hp fun t ht => no (t + 1) (by omega)
    unfold mc
    rw [if_neg n0, ih, List.take_succ_cons, List.reverse_cons]
    simp
theorem mc_len (l : List Nat) : (mc l).length ≤ 2 * l.length := by
  have z := mc_min l (p := l ++ l.reverse) (by show (l ++ l.reverse).reverse = _; rw [List.reverse_append, List.reverse_reverse]) (List.prefix_append _ _)
  rw [List.length_append, List.length_reverse] at z
  omega
theorem drop_pal (l : List Nat) : Pal (l.drop l.length) := by rw [List.drop_length]; rfl
theorem starts_pal {l : List Nat} {s : Nat} : l.drop s <+: l.reverse ↔ Pal (l.drop s) := by
  have e : l.reverse = (l.drop s).reverse ++ (l.take s).reverse := by rw [← List.reverse_append, List.take_append_drop]
  constructor
  · intro h
    rw [e] at h
    have z := List.prefix_of_prefix_length_le h (List.prefix_append _ _) (by rw [List.length_reverse]; exact Nat.le_refl _)
    exact (z.eq_of_length (by rw [List.length_reverse])).symm
  · intro h
    rw [e, show (l.drop s).reverse = l.drop s from h]
    exact List.prefix_append _ _
def spMirrorClose (K : Frag) : Sp := fun vs H Q _ => ∃ (x y : Str), vs = [.str x, .str y] ∧ Asked K H (.str x) ∧ lettersV (.str x) = true ∧ Asked K H (.str y) ∧ textV x 4000 (.str y) = true ∧ y.length ≤ 4000 ∧ ∀ H', Ext H H' → Q (.str (mcS y)) H'
def spLawClose : Sp := fun vs H Q _ => ∃ (y : Str), vs = [.str y] ∧ y.length ≤ 8001 ∧ Q (.str (mcS y)) H
def spCkL (K : Frag) : Sp := fun vs H Q _ => ∃ x, vs = [.str x] ∧ Asked K H (.str x) ∧ lettersV (.str x) = true ∧ ∀ H', Ext H H' → Q .non H'
def spCkT (K : Frag) : Sp := fun vs H Q _ => ∃ x y, vs = [.str x, .str y] ∧ Asked K H (.str x) ∧ Asked K H (.str y) ∧ lettersV (.str x) = true ∧ textV x 4000 (.str y) = true ∧ ∀ H', Ext H H' → Q .non H'
section
variable {P : Program} {w : World} {K : Frag} {mg : Str → Option Value} {base : Heap} {f cL cT : Addr} {fd : FuncData}
theorem scMirrorClose : FnScope ["letters", "text", "turned", "at"] ["letters", "text"] (defScope sMirrorClose) := ⟨rfl, rfl, rfl, by decide +kernel, rfl, by decide +kernel, by decide +kernel⟩
theorem scLawClose : FnScope ["line", "spot"] ["line"] (defScope sLawClose) := ⟨rfl, rfl, rfl, by decide +kernel, rfl, by decide +kernel, by decide +kernel⟩
theorem ok_mirror_close (F : FnP K "mirror_close" sMirrorClose f fd) (M : Free mg) (DL : Def P w K mg base (L2.CX P w) 2 "check_letters" ["letters"] (spCheckLettersX K cL)) (DT : Def P w K mg base (L2.CX P w) 4 "check_text" ["letters", "text"] (spCheckTextX K cT)) :
    FnOk P w K mg base CX0 5 f fd ["letters", "text"] (spMirrorClose K) := by
  obtain ⟨fCl0, dCl0, FCl0, gCl, kCl, bCl⟩ := DL.ex
  have FCl : FnOk P w K mg base CX0 2 fCl0 dCl0 ["letters"] (spCkL K) := XC0.calm FCl0 fun vs H Q E h => by
    obtain ⟨x, rfl, a, l, q⟩ := h
    exact ⟨_, rfl, a, fun _ => q, fun z => (by rw [l] at z; cases z)⟩
  obtain ⟨fCt0, dCt0, FCt0, gCt, kCt, bCt⟩ := DT.ex
  have FCt : FnOk P w K mg base CX0 4 fCt0 dCt0 ["letters", "text"] (spCkT K) := XC0.calm FCt0 fun vs H Q E h => by
    obtain ⟨x, y, rfl, a, b, l, t, q⟩ := h
    exact ⟨x, .str y, rfl, a, b, l, fun _ => q, fun z => (by rw [t] at z; cases z)⟩
  refine F.ok scMirrorClose (fun vs H Q E h => ?_) (fun cdv A outer s H vs Q E hr h => ?_)
  · obtain ⟨x, y, rfl, _⟩ := h
    rfl
  · obtain ⟨x, y, rfl, ax, lx, ay, ty, ly, q⟩ := h
    have hs : sizeLine = 16777216 := sizeLine_eq
    have lc : (cs y).length = y.length := cs_len y
    refine ⟨_, PSs.nox (pss_cons (ps_expr (pe_call FCl (hr.mono (by decide)) (by rfl) gCl kCl bCl .nil pass0 (pa_cons (pv 0) (pa_nil))))
      (pss_cons (ps_expr (pe_call FCt (hr.mono (by decide)) (by rfl) gCt kCt bCt .nil pass0 (pa_cons (pv 0) (pa_cons (pv 1) (pa_nil)))))
      (pss_cons (ps_set (i := 2) scMirrorClose.nd rfl (.inl rfl) (pe_revS (pv 1)))
      (pss_cons (ps_set (i := 3) scMirrorClose.nd rfl (.inl rfl) (pe_int))
      (pss_cons (ps_while PassesOwn.never (pt_not (pt_val (pe_bm PySem.F.plainAttrs_str PySem.F.slot_str_startswith PySem.F.type_str_startswith mt_starts (pv 2) (pa_cons (pe_slice sl_str (pv 1) (po_some (pv 3)) po_none) pa_nil)))) (pss_one (ps_aug (i := 3) scMirrorClose.nd rfl (.inl rfl) pe_int ip_add)))
      (pss_one (ps_ret (pe_op op_addS (pv 1) (pe_slice sl_str (pv 2) (po_some (pe_op op_sub (pe_callB call_len (by rfl) M.len PySem.boot_len (pa_cons (pv 1) pa_nil)) (pv 3))) po_none))))))))), ?_⟩
    refine ⟨_, rfl, x, rfl, ax, lx, fun H1 k1 => ?_⟩
    refine ⟨_, rfl, _, rfl, x, y, rfl, asked_ext k1 ax, asked_ext k1 ay, lx, ty, fun H2 k2 => ?_⟩
    refine ⟨_, rfl, y, rfl, by omega, ?_⟩
    refine ⟨fun n σ HX => ∃ s, s ≤ y.length ∧ n = y.length - s ∧ σ = [some (.str x), some (.str y), some (.str (revS y)), some (.int (s : Int))] ∧ HX = H2 ∧ ∀ t, t < s → ¬ Pal ((cs y).drop t), ⟨_, 0, Nat.zero_le _, rfl, rfl, rfl, fun t ht => by omega⟩, ?_⟩
    rintro n σ HX ⟨s, hs1, rfl, rfl, rfl, no⟩
    have es : Txt.startswith (revS y) (cutS y (some (s : Int)) none) = decide (Pal ((cs y).drop s)) := by
      apply Bool.eq_iff_iff.mpr
      rw [starts_iff, decide_eq_true_eq, XFd.cut_from, cs_revS]
      exact starts_pal
    refine ⟨_, rfl, rfl, _, rfl, _, rfl, _, rfl, y, rfl, by omega, _, _, rfl, rfl, _, rfl, ?_⟩
    rw [es]
    by_cases hp : Pal ((cs y).drop s)
    · rw [decide_eq_true hp]
      have lr : (revS y).length = y.length := by rw [← cs_len, cs_revS, List.length_reverse, cs_len]
      have ez : y ++ cutS (revS y) (some ((y.length : Int) - (s : Int))) none = mcS y := by
        apply cs_inj
        rw [show (y.length : Int) - (s : Int) = ((y.length - s : Nat) : Int) by omega, cs_app, XFd.cut_from, cs_revS, cs_mcS, mc_spot (by omega) hp no]
        congr 1
        rw [List.drop_reverse, lc, show y.length - (y.length - s) = s by omega]
      have lz : (cutS (revS y) (some ((y.length : Int) - (s : Int))) none).length ≤ 4000 := by
        rw [show (y.length : Int) - (s : Int) = ((y.length - s : Nat) : Int) by omega, ← cs_len, XFd.cut_from, List.length_drop, cs_len, lr]
        omega
      refine iteF ⟨_, rfl, _, rfl, _, rfl, _, y.length, rfl, ⟨by omega, rfl⟩, _, rfl, _, _, rfl, rfl, _, rfl, revS y, rfl, by omega, _, _, rfl, rfl, by omega, ?_⟩
      rw [ez]
      exact q _ (k1.trans k2)
    · rw [decide_eq_false hp]
      have lt : s < y.length := by
        rcases Nat.lt_or_ge s y.length with z | z
        · exact z
        · obtain rfl : s = y.length := by omega
          exact absurd (by rw [← lc]; exact drop_pal _) hp
      refine iteT ⟨fun σ' H' => σ' = [some (.str x), some (.str y), some (.str (revS y)), some (.int ((s : Int) + 1))] ∧ H' = HX, ?_, _, rfl, _, _, rfl, rfl, rfl, rfl⟩
      rintro σ' H' ⟨rfl, rfl⟩
      refine ⟨y.length - (s + 1), by omega, s + 1, lt, rfl, by push_cast; rfl, rfl, fun t ht => ?_⟩
      by_cases z : t = s
      · rw [z]
        exact hp
      · exact no t (by omega)
theorem ok_law_close (F : FnP K "_law_mirror_close" sLawClose f fd) : FnOk P w K mg base CX0 1 f fd ["line"] spLawClose := by
  refine F.ok scLawClose (fun vs H Q E h => ?_) (fun cdv A outer s H vs Q E hr h => ?_)
  · obtain ⟨y, rfl, _⟩ := h
    rfl
  · obtain ⟨y, rfl, ly, q⟩ := h
    have hs : sizeLine = 16777216 := sizeLine_eq
    have lc : (cs y).length = y.length := cs_len y
    refine ⟨_, PSs.nox (pss_cons (ps_set (i := 1) scLawClose.nd rfl (.inl rfl) (pe_int))
      (pss_cons (ps_while PassesOwn.never (pt_cmpR op_ne (pe_slice sl_str (pv 0) (po_some (pv 1)) po_none) (pe_revS (pe_slice sl_str (pv 0) (po_some (pv 1)) po_none)) (nomark _)) (pss_one (ps_set (i := 1) scLawClose.nd rfl (.inl rfl) (pe_op op_add (pv 1) (pe_int)))))
      (pss_one (ps_ret (pe_op op_addS (pv 0) (pe_revS (pe_slice sl_str (pv 0) po_none (po_some (pv 1))))))))), ?_⟩
    refine ⟨fun n σ HX => ∃ s, s ≤ y.length ∧ n = y.length - s ∧ σ = [some (.str y), some (.int (s : Int))] ∧ HX = H ∧ ∀ t, t < s → ¬ Pal ((cs y).drop t), ⟨_, 0, Nat.zero_le _, rfl, rfl, rfl, fun t ht => by omega⟩, ?_⟩
    rintro n σ HX ⟨s, hs1, rfl, rfl, rfl, no⟩
    have lx : (cutS y (some (s : Int)) none).length ≤ 8001 := by rw [← cs_len, XFd.cut_from, List.length_drop]; omega
    have es : decide (V.str (cutS y (some (s : Int)) none) = V.str (revS (cutS y (some (s : Int)) none))) = decide (Pal ((cs y).drop s)) := by
      apply decide_eq_decide.mpr
      have e : V.str (cutS y (some (s : Int)) none) = V.str (revS (cutS y (some (s : Int)) none)) ↔ cs (cutS y (some (s : Int)) none) = cs (revS (cutS y (some (s : Int)) none)) := ⟨fun z => congrArg cs (V.str.inj z), fun z => congrArg V.str (cs_inj z)⟩
      rw [e, cs_revS, XFd.cut_from]
      exact ⟨fun z => z.symm, fun z => (show ((cs y).drop s).reverse = _ from z).symm⟩
    refine ⟨_, rfl, _, rfl, _, rfl, y, rfl, by omega, _, rfl, _, rfl, _, rfl, y, rfl, by omega, _, rfl, by omega, rfl, _, rfl, ?_⟩
    show if (!decide (V.str (cutS y (some (s : Int)) none) = V.str (revS (cutS y (some (s : Int)) none)))) = true then _ else _
    rw [es]
    by_cases hp : Pal ((cs y).drop s)
    · rw [decide_eq_true hp]
      have lz : (cutS y none (some (s : Int))).length ≤ 8001 := by rw [← cs_len, XFd.cut_to, List.length_take]; omega
      have ez : y ++ revS (cutS y none (some (s : Int))) = mcS y := by
        apply cs_inj
        rw [cs_app, cs_revS, XFd.cut_to, cs_mcS, mc_spot (by omega) hp no]
      have lz2 : (revS (cutS y none (some (s : Int)))).length ≤ 8001 := by rw [← cs_len, cs_revS, List.length_reverse, cs_len]; exact lz
      refine iteF ⟨_, rfl, _, rfl, _, rfl, _, rfl, y, rfl, by omega, _, rfl, by omega, _, _, rfl, rfl, by omega, ?_⟩
      rw [ez]
      exact q
    · rw [decide_eq_false hp]
      have lt : s < y.length := by
        rcases Nat.lt_or_ge s y.length with z | z
        · exact z
        · obtain rfl : s = y.length := by omega
          exact absurd (by rw [← lc]; exact drop_pal _) hp
      refine iteT ⟨fun σ' H' => σ' = [some (.str y), some (.int ((s : Int) + 1))] ∧ H' = HX, ?_, _, rfl, _, _, rfl, rfl, rfl, rfl⟩
      rintro σ' H' ⟨rfl, rfl⟩
      refine ⟨y.length - (s + 1), by omega, s + 1, lt, rfl, by push_cast; rfl, rfl, fun t ht => ?_⟩
      by_cases z : t = s
      · rw [z]
        exact hp
      · exact no t (by omega)
end
end B73

/-! the law's own mirrors -/
namespace B73
open PySem PySem.Spec PyProof.Rows L2 XSt NX XB XE XPl XFd
open PySem.W (Frag)
abbrev sSign : Stmt := top 36
abbrev sBegin : Stmt := top 38
structure Gd (h g : Str) : Prop where
  lh : h.length ≤ 20
  g1 : 1 ≤ g.length
  g20 : g.length ≤ 20
def sgS (h g : Str) (i : Nat) : Str := ⟨#[lw h g i]⟩
def spSign (K : Frag) : Sp := fun vs H Q _ => ∃ (p : Addr) (h g : Str) (i : Nat), vs = [.ref p, .int (i : Int)] ∧ SqT K H p [.str h, .str g] ∧ Gd h g ∧ i ≤ 10000 ∧ Q (.str (sgS h g i)) H
def spBegin (K : Frag) : Sp := fun vs H Q _ => ∃ (p : Addr) (h g : Str) (m N : Nat), vs = [.ref p, .int (m : Int)] ∧ SqT K H p [.str h, .str g] ∧ Gd h g ∧ (∀ i, i < N → (T (lw h g) i).length < m) ∧ m ≤ (T (lw h g) N).length ∧ m ≤ 4000 ∧
  ∀ z H', Ext H H' → cs z = (T (lw h g) N).take m → Q (.str z) H'
section
variable {P : Program} {w : World} {K : Frag} {mg : Str → Option Value} {base : Heap} {f : Addr} {fd : FuncData}
theorem scSign : FnScope ["guide", "at", "head", "again"] ["guide", "at"] (defScope sSign) := ⟨rfl, rfl, rfl, by decide +kernel, rfl, by decide +kernel, by decide +kernel⟩
theorem scBegin : FnScope ["guide", "size_of_it", "found", "at"] ["guide", "size_of_it"] (defScope sBegin) := ⟨rfl, rfl, rfl, by decide +kernel, rfl, by decide +kernel, by decide +kernel⟩
theorem at_signI {z : Str} {i : Nat} (h : i < z.length) : atI z.cps.toList (i : Int) = some ((cs z).getD i 0) := at_sign h
theorem ok_law_sign (F : FnP K "_law_guide_sign" sSign f fd) (M : Free mg) : FnOk P w K mg base CX0 1 f fd ["guide", "at"] (spSign K) := by
  refine F.ok scSign (fun vs H Q E h => ?_) (fun cdv A outer s H vs Q E hr h => ?_)
  · obtain ⟨p, h, g, i, rfl, _⟩ := h
    rfl
  · obtain ⟨p, h, g, i, rfl, sq, G, li, q⟩ := h
    have hs : sizeLine = 16777216 := sizeLine_eq
    have lh := G.lh
    have g1 := G.g1
    have g20 := G.g20
    refine ⟨_, PSs.nox (pss_cons (ps_asg (pv 0) (pg_tup (by rfl) (pgs_cons (pg_name (i := 2) scSign.nd rfl (.inl rfl)) (pgs_cons (pg_name (i := 3) scSign.nd rfl (.inl rfl)) pgs_nil))))
      (pss_one (ps_ret (pe_ifExp (pt_cmpR op_lt (pv 1) (pe_callB call_len (by rfl) M.len PySem.boot_len (pa_cons (pv 2) pa_nil)) (nomark _)) (pe_ix ix_str (pv 2) (pv 1) (fun _ _ => rfl)) (pe_ix ix_str (pv 3) (pe_op op_mod (pe_callTy call_int1 (by rfl) M.int (by decide +kernel) (pa_cons (pe_op op_sub (pv 1) (pe_callB call_len (by rfl) M.len PySem.boot_len (pa_cons (pv 2) pa_nil))) pa_nil)) (pe_callB call_len (by rfl) M.len PySem.boot_len (pa_cons (pv 3) pa_nil))) (fun _ _ => rfl)))))), ?_⟩
    refine ⟨_, rfl, p, _, rfl, sq, rfl, _, _, rfl, _, _, rfl, rfl, ?_⟩
    refine ⟨_, rfl, _, rfl, _, h.length, rfl, ⟨by omega, rfl⟩, _, _, rfl, rfl, _, rfl, ?_⟩
    unfold sgS lw at q
    by_cases c : i < h.length
    · rw [if_pos c] at q
      rw [decide_eq_true (show (i : Int) < (h.length : Int) by omega)]
      exact iteT ⟨_, rfl, _, rfl, h, _, _, rfl, rfl, by omega, at_signI c, q⟩
    · rw [if_neg c] at q
      rw [decide_eq_false (show ¬ (i : Int) < (h.length : Int) by omega)]
      refine iteF ⟨_, rfl, _, rfl, _, rfl, _, h.length, rfl, ⟨by omega, rfl⟩, _, _, rfl, rfl, .inl ⟨_, rfl, _, rfl, _, g.length, rfl, ⟨by omega, rfl⟩, _, _, rfl, rfl, ?_⟩⟩
      refine ⟨by show (0 : Int) < (g.length : Int); omega, g, _, _, rfl, ?_, by omega, at_signI (Nat.mod_lt (i - h.length) (show g.length > 0 by omega)), q⟩
      show V.int (((i : Int) - (h.length : Int)) % (g.length : Int)) = V.int (((i - h.length) % g.length : Nat) : Int)
      congr 1
      rw [show (i : Int) - (h.length : Int) = ((i - h.length : Nat) : Int) by omega]
      exact (Int.natCast_emod _ _).symm
theorem ok_begin (F : FnP K "_law_begin_of" sBegin f fd) (M : Free mg) (DLC : Def P w K mg base CX0 1 "_law_mirror_close" ["line"] spLawClose) (DSN : Def P w K mg base CX0 1 "_law_guide_sign" ["guide", "at"] (spSign K)) :
    FnOk P w K mg base CX0 2 f fd ["guide", "size_of_it"] (spBegin K) := by
  obtain ⟨fLC, dLC, FLC, gLC, kLC, bLC⟩ := DLC.ex
  obtain ⟨fSN, dSN, FSN, gSN, kSN, bSN⟩ := DSN.ex
  refine F.ok scBegin (fun vs H Q E h => ?_) (fun cdv A outer s H vs Q E hr h => ?_)
  · obtain ⟨p, h, g, m, N, rfl, _⟩ := h
    rfl
  · obtain ⟨p, h, g, m, N, rfl, sq, G, less, enough, m4, q⟩ := h
    have hs : sizeLine = 16777216 := sizeLine_eq
    have nl : N ≤ 4000 := by
      rcases Nat.eq_zero_or_pos N with z | z
      · omega
      · have a := T_mono (lw h g) (i := 0) (n := N - 1) (by omega)
        have b := less (N - 1) (by omega)
        omega
    refine ⟨_, PSs.nox (pss_cons (ps_asg ((pe_tup (pa_cons (pe_str) (pa_cons (pe_int) (pa_nil))))) (pg_tup (by rfl) (pgs_cons (pg_name (i := 2) scBegin.nd rfl (.inl rfl)) (pgs_cons (pg_name (i := 3) scBegin.nd rfl (.inl rfl)) pgs_nil))))
      (pss_cons (ps_while PassesOwn.never (pt_cmpR op_lt (pe_callB call_len (by rfl) M.len PySem.boot_len (pa_cons (pv 2) pa_nil)) (pv 1) (nomark _)) (pss_cons (ps_set (i := 2) scBegin.nd rfl (.inl rfl) (pe_call FLC (hr.mono (by decide)) (by rfl) gLC kLC bLC .nil pass0 (pa_cons (pe_op op_addS (pv 2) (pe_call FSN (hr.mono (by decide)) (by rfl) gSN kSN bSN .nil pass0 (pa_cons (pv 0) (pa_cons (pv 3) (pa_nil))))) (pa_nil))))
      (pss_one (ps_set (i := 3) scBegin.nd rfl (.inl rfl) (pe_op op_add (pv 3) (pe_int))))))
      (pss_one (ps_ret (pe_slice sl_str (pv 2) po_none (po_some (pv 1))))))), ?_⟩
    refine ⟨by show 2 ≤ sizeLine; decide, fun t0 ht0 => ?_⟩
    have x0 := (Ext.refl H).new ht0 (o := .tup [.str (Str.ofString ""), .int 0])
    have et0 : (upd H t0 (.tup [.str (Str.ofString ""), .int 0])) t0 = some (.tup [.str (Str.ofString ""), .int 0]) := upd_same
    generalize upd H t0 (.tup [.str (Str.ofString ""), .int 0]) = H0 at x0 et0 ⊢
    refine ⟨t0, _, rfl, SqT.of et0, rfl, _, _, rfl, _, _, rfl, rfl, ?_⟩
    refine ⟨fun n σ HX => ∃ i z, i ≤ N ∧ n = N - i ∧ σ = [some (.ref p), some (.int (m : Int)), some (.str z), some (.int (i : Int))] ∧ cs z = T (lw h g) i ∧ HX = H0, ⟨_, 0, Str.ofString "", Nat.zero_le _, rfl, rfl, by show cs (Str.ofString "") = []; decide +kernel, rfl⟩, ?_⟩
    rintro n σ HX ⟨i, z, hi, rfl, rfl, ez, rfl⟩
    have lz : z.length = (T (lw h g) i).length := by rw [← cs_len, ez]
    have small : z.length ≤ 8000 := by
      rw [lz]
      rcases Nat.lt_or_ge i N with c | c
      · have := less i c
        omega
      · obtain rfl : i = N := by omega
        cases i with
        | zero => exact Nat.zero_le _
        | succ i =>
          have a := less i (Nat.lt_succ_self i)
          have b := mc_len (T (lw h g) i ++ [lw h g i])
          rw [List.length_append, List.length_singleton] at b
          show (mc (T (lw h g) i ++ [lw h g i])).length ≤ 8000
          omega
    refine ⟨_, rfl, _, z.length, rfl, ⟨by omega, rfl⟩, _, rfl, _, _, rfl, rfl, _, rfl, ?_⟩
    rcases Nat.lt_or_ge i N with c | c
    · have lt := less i c
      rw [decide_eq_true (show ((z.length : Int) < (m : Int)) by omega)]
      refine iteT ⟨fun σ' H' => σ' = [some (.ref p), some (.int (m : Int)), some (.str (mcS (z ++ sgS h g i))), some (.int ((i : Int) + 1))] ∧ H' = HX, ?_, ?_⟩
      · rintro σ' H' ⟨rfl, rfl⟩
        refine ⟨N - (i + 1), by omega, i + 1, _, c, rfl, by push_cast; rfl, ?_, rfl⟩
        rw [cs_mcS, cs_app, ez]
        rfl
      · refine ⟨_, rfl, _, rfl, _, rfl, p, h, g, i, rfl, sqT_ext x0 sq, G, by omega, _, _, rfl, rfl, by show z.length + 1 ≤ sizeLine; omega, _, rfl, by rw [app_len]; show z.length + 1 ≤ 8001; omega, ?_⟩
        exact ⟨_, rfl, _, _, rfl, rfl, rfl, rfl⟩
    · obtain rfl : i = N := by omega
      rw [decide_eq_false (show ¬ ((z.length : Int) < (m : Int)) by omega)]
      refine iteF ⟨_, rfl, _, rfl, _, rfl, z, rfl, by omega, ?_⟩
      refine q _ _ x0 ?_
      rw [XFd.cut_to, ez]
end
end B73

/-! tuple(s) of a text; x not in t of texts -/
namespace XTs
open PySem PySem.Spec PyProof.Rows L2 XSt NX
section
variable {prog : Program} {w : World} {A : Around} {E : Value → Shared → Prop} {s : Shared}
theorem code_tuple_new_str {Q₁ : Value → Shared → Prop} (hh : A.handled = none) (x : Str) (t : Tok) (hn : x.cps.size ≤ sizeLine)
    (h : ∀ (h' : Heap) (tk : Nat) (acc : Array Value), (∀ b o, s.heap.get? b = some o → h'.get? b = some o) → ItemsOf (SignAt x) acc x.cps.size →
      Q₁ (.ref h'.objs.size) { s with heap := h'.push { cls := .type "tuple", data := .seq acc }, toks := tk }) :
    codeAny (model prog w) A (.call (.builtin "tuple.__new__") ⟨[.type "tuple", .str x t], []⟩) (wants Q₁ E) s := by
  refine codeAny_of_tree ?_
  show wpAny _ A.in1 (do checkBuiltinCall "tuple.__new__" ⟨[.type "tuple", .str x t], []⟩; again (.builtin "tuple.__new__" ⟨[.type "tuple", .str x t], []⟩)) _ _ s
  refine wpAny_bind (wpAny_of_eq (F.newCall_tuple_1 _) (wpAny_pure ⟨plainId_quiet F.plain_tuple_new _, codeAny_builtin F.entry_tuple_new ?_⟩))
  rw [Around.under_plainId F.plain_tuple_new _]
  have hsub := sub_tuple_self
  have hinit := init_tuple_lookup
  have hmh := madeHere_tuple
  have hTI : s.TypeIs (.str x t) "str" := rfl
  have hh1 : A.in1.handled = none := hh
  wp_walk using wpAny_typeOf hTI, wpAny_collect_str (A := A.in1) hh1 x t (hn := hn)
  intro s' acc hk hg hd ho hacc
  show wpAny _ _ (Builtin.Tuple.tupleExact acc.toList.toArray >>= fun v => ret v) _ _ _
  unfold Builtin.Tuple.tupleExact
  refine wpAny_bind (wpAny_newObj_type ?_ (by show acc.toList.toArray.size ≤ sizeLine; simp only [Array.toArray_toList]; rw [hacc.1]; exact hn))
  refine wpAny_pure ?_
  have e : acc.toList.toArray = acc := by simp
  rw [e]
  have z := h s'.heap s'.toks acc hk hacc
  obtain ⟨hp, g, d, tk, os⟩ := s'
  cases hg
  cases hd
  cases ho
  exact z
theorem call_tuple_str {Q : Value → Shared → Prop} (hh : A.handled = none) (x : Str) (t : Tok) (hn : x.cps.size ≤ sizeLine)
    (hQ : ∀ (h' : Heap) (tk : Nat) (acc : Array Value), (∀ b o, s.heap.get? b = some o → h'.get? b = some o) → ItemsOf (SignAt x) acc x.cps.size →
      Q (.ref h'.objs.size) { s with heap := h'.push { cls := .type "tuple", data := .seq acc }, toks := tk }) :
    wpAny (model prog w) A (call (.type "tuple") [.str x t]) Q E s := by
  refine callType_codes (Q₁ := fun obj s₁ => s₁.TypeIs obj "tuple" ∧ Q obj s₁) F.called_tuple (F.typeCall_tuple_1 _) F.entry_object_init
    (code_tuple_new_str (A := A.in1) hh x t hn fun h' tk acc hk hacc => ⟨⟨_, Heap.get?_push_size _ rfl, rfl⟩, hQ h' tk acc hk hacc⟩) fun obj s₁ h₁ => ?_
  exact ⟨h₁.1, F.args_object_init_2 obj _, object_init_meets F.called_tuple.init.lookup F.called_tuple.made (by decide) prog w A.in1 _ s₁ ⟨h₁.1, rfl, h₁.2⟩⟩
end
theorem vals_signs {x : Str} {acc : Array Value} (h : ItemsOf (SignAt x) acc x.cps.size) : Vals ((XSt.signs x).map V.str) acc.toList := by
  have lc : ((XSt.signs x).map V.str).length = x.cps.size := by
    rw [List.length_map]
    unfold XSt.signs
    rw [List.length_map]
    rfl
  refine vals_of_idx _ _ (by rw [lc, Array.length_toList, h.1]) fun j u hj => ?_
  have hj' : acc[j]? = some u := by
    rw [← Array.getElem?_toList]
    exact hj
  obtain ⟨c, t, hc, rfl⟩ := h.2 j u hj'
  refine ⟨.str ⟨#[c]⟩, ?_, t, rfl⟩
  rw [List.getElem?_map]
  unfold XSt.signs
  rw [List.getElem?_map]
  have : x.cps.toList[j]? = some c := by
    rw [Array.getElem?_toList]
    exact hc
  rw [this]
  rfl
theorem cr_tupS {X : Cx} (hc : X.calm = true) : CallR X (.type "tuple") (fun xs H Q => ∃ z, xs = [.str z] ∧ z.length ≤ sizeLine ∧ ∀ p, H p = none → Q (.ref p) (upd H p (.tup ((XSt.signs z).map V.str)))) := by
  intro pins s σ H xs us Q I r h
  obtain ⟨z, rfl, hz, q⟩ := h
  obtain ⟨u, rfl, t, rfl⟩ := vals1 r
  refine call_tuple_str (I.ok.hd hc) z t hz fun h' tk acc hk hacc => ?_
  have I1 : Inv X pins σ H { s with heap := h', toks := tk } := I.kept (t' := tk) hk
  have rv := vals_signs hacc
  have len : ((XSt.signs z).map V.str).length ≤ sizeLine := by
    rw [rv.length, Array.length_toList, hacc.1]
    exact hz
  have I2 : Inv X pins σ (upd H h'.objs.size (.tup ((XSt.signs z).map V.str))) { s with heap := h'.push { cls := .type "tuple", data := .seq acc }, toks := tk } :=
    I1.laid (t' := tk) (fun b o e => Heap.get?_push_of_some _ e) (Nat.le_refl _) (show ObjOk X.prog X.w _ _ _ (.tup ((XSt.signs z).map V.str)) from ⟨len, acc.toList, rv, by simpa using IsTup.new _ _⟩)
  exact ⟨.ref h'.objs.size, _, I2, rfl, q _ (I1.hok.fresh (Nat.le_refl _))⟩
/-- a text in a tuple of texts, and not in it -/
def rInTs (K : PySem.W.Frag) (g : Bool → Bool) : R2 := fun x y H Q => ∃ (z : Str) (p : Addr) (ws : List Str), x = .str z ∧ y = .ref p ∧ SqT K H p (ws.map V.str) ∧ PyData.strOk z = true ∧ (∀ k ∈ ws, PyData.strOk k = true) ∧ Q (.bl (g (decide (z ∈ ws)))) H
theorem any_eqv (z : Str) : ∀ ws : List Str, ((ws.map PyData.str).any fun y => PyData.eqv y (.str z)) = decide (z ∈ ws)
  | [] => rfl
  | a :: l => by
    have ih := any_eqv z l
    rw [List.map_cons, List.any_cons, ih]
    have e : PyData.eqv (.str a) (.str z) = decide (z = a) := by
      show (a == z) = _
      rw [Bool.beq_eq_decide_eq]
      exact decide_eq_decide.mpr eq_comm
    rw [e, ← Bool.decide_or]
    exact decide_eq_decide.mpr List.mem_cons.symm
theorem op_notInTs {X : Cx} (hu : X.A.units + 64 < cLine) : OpR X (compareOp .NotIn) (rInTs X.K fun b => !b) := by
  intro pins s σ H x y v u Q I rx ry h
  obtain ⟨z, p, ws, rfl, rfl, sq, oz, ok, q⟩ := h
  have hd : Dp X.K H (.str z) (.str z) := .str z
  have he : Dp X.K H (.ref p) (.tuple (ws.map PyData.str)) := .tup sq (dpa_txt ws)
  obtain ⟨as, r1⟩ := Dp.reads I _ _ v hd rx
  obtain ⟨bs, r2⟩ := Dp.reads I _ _ u he ry
  have sh := txt_shapedT ok
  have shz : SeqAt.shaped (.str z) = true := by
    unfold SeqAt.shaped
    rw [Bool.and_eq_true]
    exact ⟨oz, rfl⟩
  have h0 : (PyData.str z).depth ≤ 1 := Nat.le_of_ble_eq_true rfl
  have h1 := Nat.min_le_right (PyData.depthAll (ws.map PyData.str)) (PyData.str z).depth
  have room : X.A.units + 1 + min (PyData.depthAll (ws.map PyData.str)) (PyData.str z).depth < cLine := by omega
  refine SeqAt.notIn_tuple_reads r2 r1 (SeqAt.canLay_of_shaped sh) (SeqAt.canLay_of_shaped shz) room ?_
  rw [any_eqv]
  exact ⟨.bl _, H, I, rfl, q⟩
end XTs

/-! list(s) of a text -/
namespace XTs
open PySem PySem.Spec PyProof.Rows L2 XSt NX
theorem cr_listS {X : Cx} (hc : X.calm = true) : CallR X (.type "list") (fun xs H Q => ∃ z, xs = [.str z] ∧ z.length ≤ sizeLine ∧ ∀ p, H p = none → Q (.ref p) (upd H p (.lst ((XSt.signs z).map V.str)))) := by
  intro pins s σ H xs us Q I r h
  obtain ⟨z, rfl, hz, q⟩ := h
  obtain ⟨u, rfl, t, rfl⟩ := vals1 r
  refine call_list_str (I.ok.hd hc) z t (fun h' tk acc c hk hS hacc => ?_) hz
  have rv := vals_signs hacc
  have len : ((XSt.signs z).map V.str).length ≤ sizeLine := by
    rw [rv.length, Array.length_toList, hacc.1]
    exact hz
  exact ⟨.ref s.heap.objs.size, _, I.laid (t' := tk) hk (Nat.le_refl _) (show ObjOk X.prog X.w _ h' _ (.lst ((XSt.signs z).map V.str)) from ⟨len, acc.toList, c, rv, by simpa using hS⟩), rfl, q _ (I.hok.fresh (Nat.le_refl _))⟩
end XTs

/-! the guides that are drawn -/
namespace B73
open PySem PySem.Spec PyProof.Rows L2 XSt NX XB XE XPl XFd XTs
open PySem.W (Frag)
abbrev sGuide : Stmt := top 35
/-- a guide over the letters x -/
structure Gx (x h g : Str) : Prop where
  hx : ∀ c ∈ cs h, c ∈ cs x
  gx : ∀ c ∈ cs g, c ∈ cs x
  xg : ∀ c ∈ cs x, c ∈ cs g
  lh : h.length ≤ 20
  g1 : 1 ≤ g.length
  g20 : g.length ≤ 20
theorem Gx.gd {x h g : Str} (G : Gx x h g) : Gd h g := ⟨G.lh, G.g1, G.g20⟩
def spGuide : Sp := fun vs H Q _ => ∃ (j : Addr) (x : Str), vs = [.ref j, .str x] ∧ JugAt H j ∧ 1 ≤ x.length ∧ x.length ≤ 3 ∧
  ∀ p h g H', H p = none → Kj j H H' → H' p = some (.tup [.str h, .str g]) → Gx x h g → h.length ≤ 3 → g.length ≤ 4 → Q (.ref p) H'
theorem join_flat (l : List Str) : cs (Txt.join (Str.ofString "") l) = (l.map cs).flatten := joined_list l
theorem ones_len : ∀ {l : List Str}, (∀ y ∈ l, ∃ c, y = (⟨#[c]⟩ : Str)) → ((l.map cs).flatten).length = l.length
  | [], _ => rfl
  | y :: l, h => by
    obtain ⟨c, rfl⟩ := h _ (List.mem_cons_self ..)
    rw [List.map_cons, List.flatten_cons, List.length_append, ones_len fun y m => h y (List.mem_cons_of_mem _ m), List.length_cons]
    show 1 + _ = _
    omega
theorem ones_mem {l : List Str} {P : Nat → Prop} (h : ∀ y ∈ l, ∃ c, y = (⟨#[c]⟩ : Str) ∧ P c) : ∀ c ∈ (l.map cs).flatten, P c := by
  intro c m
  obtain ⟨t, mt, mc⟩ := List.mem_flatten.mp m
  obtain ⟨y, my, rfl⟩ := List.mem_map.mp mt
  obtain ⟨d, rfl, hd⟩ := h y my
  obtain rfl : c = d := List.mem_singleton.mp mc
  exact hd
theorem ones_sum {l : List Str} (h : ∀ y ∈ l, ∃ c, y = (⟨#[c]⟩ : Str)) : (l.map (·.length)).sum ≤ l.length := sum_ones l fun y my => by
  obtain ⟨c, rfl⟩ := h y my
  exact Nat.le_refl _
theorem signs_one {z y : Str} (m : y ∈ XSt.signs z) : ∃ c, y = (⟨#[c]⟩ : Str) ∧ c ∈ cs z := by
  unfold XSt.signs at m
  obtain ⟨c, mc, rfl⟩ := List.mem_map.mp m
  exact ⟨c, rfl, mc⟩
theorem one_signs {z : Str} {c : Nat} (m : c ∈ cs z) : (⟨#[c]⟩ : Str) ∈ XSt.signs z := by
  unfold XSt.signs
  exact List.mem_map.mpr ⟨c, m, rfl⟩
theorem str_perm {ys : List V} {ws : List Str} (p : ys.Perm (ws.map V.str)) : ∃ c : List Str, ys = c.map V.str ∧ c.Perm ws := by
  obtain ⟨c, p1, e⟩ := perm_lift V.str p ws rfl
  exact ⟨c, e.symm, p1⟩
theorem len_zero : (Str.ofString "").length = 0 := rfl
section
variable {P : Program} {w : World} {K : Frag} {mg : Str → Option Value} {base : Heap} {f : Addr} {fd : FuncData}
theorem scGuide : FnScope ["jug", "signs", "head", "more", "turn"] ["jug", "signs"] (defScope sGuide) := ⟨rfl, rfl, rfl, by decide +kernel, rfl, by decide +kernel, by decide +kernel⟩
theorem ok_guide (F : FnP K "_law_guide" sGuide f fd) (M : Free mg) (mR : mg "range" = none) (mL : mg "list" = none) (DB : Def P w K mg base CX0 1 "_law_bit" ["jug", "much"] spBit) (DP : Def P w K mg base CX0 2 "_law_pick" ["jug", "items"] (spPickS K)) (DD : Def P w K mg base CX0 2 "_law_dealt" ["jug", "items"] (spDealt K)) :
    FnOk P w K mg base CX0 3 f fd ["jug", "signs"] spGuide := by
  obtain ⟨fBi, dBi, FBi, gBi, kBi, bBi⟩ := DB.ex
  obtain ⟨fP, dP, FP, gP, kP, bP⟩ := DP.ex
  obtain ⟨fD, dD, FD, gD, kD, bD⟩ := DD.ex
  refine F.ok scGuide (fun vs H Q E h => ?_) (fun cdv A outer s H vs Q E hr h => ?_)
  · obtain ⟨j, x, rfl, _⟩ := h
    rfl
  · obtain ⟨j, x, rfl, hj, x1, x3, q⟩ := h
    have hs : sizeLine = 16777216 := sizeLine_eq
    refine ⟨_, PSs.nox (pss_cons (ps_set (i := 2) scGuide.nd rfl (.inl rfl) (pe_bm PySem.F.plainAttrs_str PySem.F.slot_str_join PySem.F.type_str_join mt_join pe_str (pa_cons (pe_lc (own := [("turn", 4)]) (g := gName 4) (tt := tYes) (te := tCall (spPickS K) [] E0 (tCons (tVar 0) (tCons (tVar 1) tNil))) rfl scGuide.nd (pi_range1 (by rfl) mR (pa_cons (pe_call FBi (hr.mono (by decide)) (by rfl) gBi kBi bBi .nil pass0 (pa_cons (pv 0) (pa_cons (pe_int) (pa_nil)))) (pa_nil))) (blkOk_by (N := ["jug", "signs", "head", "more", "turn"]) (sc := defScope sGuide) (by decide +kernel)) (fun _ _ _ _ _ => pg_name (i := 4) scGuide.nd rfl (Or.inl rfl)) (fun _ _ _ _ _ => pts_nil) (fun _ _ _ _ _ => by exact pe_call FP (hr.mono (by decide)) (by rfl) gP kP bP .nil pass0 (pa_cons (pv 0) (pa_cons (pv 1) (pa_nil))))) pa_nil)))
      (pss_cons (ps_set (i := 3) scGuide.nd rfl (.inl rfl) (pe_bm PySem.F.plainAttrs_str PySem.F.slot_str_join PySem.F.type_str_join mt_join pe_str (pa_cons (pe_lc (own := [("turn", 4)]) (g := gName 4) (tt := tYes) (te := tCall (spPickS K) [] E0 (tCons (tVar 0) (tCons (tVar 1) tNil))) rfl scGuide.nd (pi_range1 (by rfl) mR (pa_cons (pe_call FBi (hr.mono (by decide)) (by rfl) gBi kBi bBi .nil pass0 (pa_cons (pv 0) (pa_cons (pe_int) (pa_nil)))) (pa_nil))) (blkOk_by (N := ["jug", "signs", "head", "more", "turn"]) (sc := defScope sGuide) (by decide +kernel)) (fun _ _ _ _ _ => pg_name (i := 4) scGuide.nd rfl (Or.inl rfl)) (fun _ _ _ _ _ => pts_nil) (fun _ _ _ _ _ => by exact pe_call FP (hr.mono (by decide)) (by rfl) gP kP bP .nil pass0 (pa_cons (pv 0) (pa_cons (pv 1) (pa_nil))))) pa_nil)))
      (pss_one (ps_ret (pe_tup (pa_cons (pv 2) (pa_cons (pe_bm PySem.F.plainAttrs_str PySem.F.slot_str_join PySem.F.type_str_join mt_join pe_str (pa_cons (pe_call FD (hr.mono (by decide)) (by rfl) gD kD bD .nil pass0 (pa_cons (pv 0) (pa_cons (pe_callTy (cr_listS rfl) (by rfl) mL (by decide +kernel) (pa_cons (pe_op op_addS (pv 1) (pv 3)) pa_nil)) (pa_nil)))) pa_nil)) pa_nil))))))), ?_⟩
    refine ⟨rfl, _, rfl, j, _, rfl, hj, by decide, by decide, fun r1 H1 a1 b1 kr1 => ?_⟩
    refine ⟨_, rfl, by omega, by omega, fun D1 hD1 => ?_⟩
    have n1j := jug_none kr1.2 hD1
    have f10 := kr1.none hD1
    refine lc_range (n := r1.toNat) (fun i HX => ∃ l : List Str, HX D1 = some (.lst (l.map V.str)) ∧ l.length = i ∧ (∀ y ∈ l, ∃ c, y = ⟨#[c]⟩ ∧ c ∈ cs x) ∧ Kj j H HX) ⟨[], upd_same, rfl, fun _ y => (by cases y), kr1.new f10 n1j⟩ ?_ ?_
    · rintro i HX hi ⟨l, e1, e2, e3, k2⟩
      refine ⟨rfl, _, rfl, _, rfl, j, _, rfl, k2.2, Or.inr ⟨x, rfl, by omega, by omega, fun c HY mc k3 => ?_⟩⟩
      have e4 := k3.1 D1 _ n1j e1
      refine ⟨_, e4, by rw [List.length_map]; omega, l ++ [⟨#[c]⟩], ?_, by rw [List.length_append, e2]; rfl, fun y my => ?_, (k2.trans k3).new f10 n1j⟩
      · rw [List.map_append]
        exact upd_same
      · rcases List.mem_append.mp my with my | my
        · exact e3 y my
        · exact ⟨c, List.mem_singleton.mp my, mc⟩
    rintro G1 ⟨l1, e1, n1, o1, kg1⟩
    have s1 := ones_sum (l := l1) fun y my => by
      obtain ⟨c, e, _⟩ := o1 y my
      exact ⟨c, e⟩
    have lh' : (Txt.join (Str.ofString "") l1).length = l1.length := by
      rw [← cs_len, join_flat, ones_len fun y my => by
        obtain ⟨c, e, _⟩ := o1 y my
        exact ⟨c, e⟩]
    have in1 : ∀ c ∈ cs (Txt.join (Str.ofString "") l1), c ∈ cs x := by
      rw [join_flat]
      exact ones_mem o1
    refine ⟨_, D1, l1, rfl, rfl, Or.inl (SqL.of e1), by rw [len_zero]; omega, ?_⟩
    generalize Txt.join (Str.ofString "") l1 = h' at lh' in1 ⊢
    refine ⟨rfl, _, rfl, j, _, rfl, kg1.2, by decide, by decide, fun r2 H2 a2 b2 kr2 => ?_⟩
    refine ⟨_, rfl, by omega, by omega, fun D2 hD2 => ?_⟩
    have n2j := jug_none kr2.2 hD2
    have f20 := kr2.none hD2
    refine lc_range (n := r2.toNat) (fun i HX => ∃ l : List Str, HX D2 = some (.lst (l.map V.str)) ∧ l.length = i ∧ (∀ y ∈ l, ∃ c, y = ⟨#[c]⟩ ∧ c ∈ cs x) ∧ Kj j G1 HX) ⟨[], upd_same, rfl, fun _ y => (by cases y), kr2.new f20 n2j⟩ ?_ ?_
    · rintro i HX hi ⟨l, e1, e2, e3, k2⟩
      refine ⟨rfl, _, rfl, _, rfl, j, _, rfl, k2.2, Or.inr ⟨x, rfl, by omega, by omega, fun c HY mc k3 => ?_⟩⟩
      have e4 := k3.1 D2 _ n2j e1
      refine ⟨_, e4, by rw [List.length_map]; omega, l ++ [⟨#[c]⟩], ?_, by rw [List.length_append, e2]; rfl, fun y my => ?_, (k2.trans k3).new f20 n2j⟩
      · rw [List.map_append]
        exact upd_same
      · rcases List.mem_append.mp my with my | my
        · exact e3 y my
        · exact ⟨c, List.mem_singleton.mp my, mc⟩
    rintro G2 ⟨l2, e2, n2, o2, kg2⟩
    have s2 := ones_sum (l := l2) fun y my => by
      obtain ⟨c, e, _⟩ := o2 y my
      exact ⟨c, e⟩
    have lm' : (Txt.join (Str.ofString "") l2).length = l2.length := by
      rw [← cs_len, join_flat, ones_len fun y my => by
        obtain ⟨c, e, _⟩ := o2 y my
        exact ⟨c, e⟩]
    have in2 : ∀ c ∈ cs (Txt.join (Str.ofString "") l2), c ∈ cs x := by
      rw [join_flat]
      exact ones_mem o2
    refine ⟨_, D2, l2, rfl, rfl, Or.inl (SqL.of e2), by rw [len_zero]; omega, ?_⟩
    generalize Txt.join (Str.ofString "") l2 = m' at lm' in2 ⊢
    have k22 := kg1.trans kg2
    have lz : (x ++ m').length = x.length + l2.length := by rw [app_len, lm']
    refine ⟨_, rfl, rfl, _, rfl, _, rfl, _, rfl, _, _, rfl, rfl, by omega, _, rfl, by omega, fun p hp => ?_⟩
    have npj := jug_none k22.2 hp
    have k3 := k22.new (k22.none hp) npj (o := .lst ((XSt.signs (x ++ m')).map V.str))
    refine ⟨j, p, _, rfl, k3.2, .inl (SqL.of upd_same), npj, by rw [List.length_map, signs_count]; omega, fun qd ys H4 _ eq pm k4 => ?_⟩
    obtain ⟨l3, rfl, pm3⟩ := str_perm pm
    have one3 : ∀ y ∈ l3, ∃ c, y = (⟨#[c]⟩ : Str) ∧ c ∈ cs (x ++ m') := fun y my => signs_one (pm3.mem_iff.mp my)
    have n3 : l3.length = (x ++ m').length := by rw [pm3.length_eq, signs_count]
    have s3 := ones_sum (l := l3) fun y my => by
      obtain ⟨c, e, _⟩ := one3 y my
      exact ⟨c, e⟩
    have lg : (Txt.join (Str.ofString "") l3).length = l3.length := by
      rw [← cs_len, join_flat, ones_len fun y my => by
        obtain ⟨c, e, _⟩ := one3 y my
        exact ⟨c, e⟩]
    refine ⟨_, qd, l3, rfl, rfl, .inl (SqL.of eq), by rw [len_zero]; omega, by show 2 ≤ sizeLine; decide, fun t ht => ?_⟩
    have kk := (k3.trans k4)
    have ntj := jug_none kk.2 ht
    have sub : ∀ c ∈ cs (x ++ m'), c ∈ cs x := by
      intro c mc
      rw [cs_app] at mc
      rcases List.mem_append.mp mc with mc | mc
      · exact mc
      · exact in2 c mc
    refine q t _ _ _ (kk.none ht) (kk.new (kk.none ht) ntj) upd_same ⟨in1, fun c mc => ?_, fun c mc => ?_, by omega, by omega, by omega⟩ (by omega) (by omega)
    · rw [join_flat] at mc
      exact sub c (ones_mem one3 c mc)
    · rw [join_flat]
      refine List.mem_flatten.mpr ⟨cs ⟨#[c]⟩, List.mem_map.mpr ⟨⟨#[c]⟩, pm3.mem_iff.mpr (one_signs (by rw [cs_app]; exact List.mem_append_left _ mc)), rfl⟩, List.mem_singleton.mpr rfl⟩
end
end B73

/-! another telling of a guide; where two guides are unlike -/
namespace B73
open PySem PySem.Spec PyProof.Rows L2 XSt NX XB XE XPl XFd XTs XNil
open PySem.W (Frag)
abbrev sTelling : Stmt := top 40
abbrev sUnlike : Stmt := top 42
def spTelling (K : Frag) : Sp := fun vs H Q _ => ∃ (j p : Addr) (x h g : Str), vs = [.ref j, .ref p] ∧ JugAt H j ∧ SqT K H p [.str h, .str g] ∧ Gx x h g ∧ h.length ≤ 3 ∧ g.length ≤ 4 ∧
  ∀ q h' g' H', H q = none → Kj j H H' → H' q = some (.tup [.str h', .str g']) → Gx x h' g' → (∀ i, lw h' g' i = lw h g i) → Q (.ref q) H'
def spUnlike (K : Frag) : Sp := fun vs H Q _ => ∃ (p q : Addr) (h g h' g' : Str), vs = [.ref p, .ref q] ∧ SqT K H p [.str h, .str g] ∧ SqT K H q [.str h', .str g'] ∧ Gd h g ∧ Gd h' g' ∧
  ((∀ i, i < 60 → lw h g i = lw h' g' i) → ∀ H', Ext H H' → Q .non H') ∧
  (∀ i : Nat, i < 60 → lw h g i ≠ lw h' g' i → (∀ k, k < i → lw h g k = lw h' g' k) → ∀ H', Ext H H' → Q (.int (i : Int)) H')
theorem lw_turn {h g h' g' : Str} {c : Nat} {r : List Nat} (e : cs g = c :: r) (eh : cs h' = cs h ++ [c]) (eg : cs g' = r ++ [c]) (i : Nat) : lw h' g' i = lw h g i := by
  have lg : g.length = r.length + 1 := by rw [← cs_len, e, List.length_cons]
  have lg' : g'.length = r.length + 1 := by rw [← cs_len, eg, List.length_append]; rfl
  have lh' : h'.length = h.length + 1 := by rw [← cs_len, eh, List.length_append, cs_len]; rfl
  unfold lw
  rw [lg, lg', lh', eh, eg, e]
  have lc : (cs h).length = h.length := cs_len h
  rcases Nat.lt_trichotomy i h.length with c1 | c1 | c1
  · rw [if_pos (by omega), if_pos c1, List.getD_eq_getElem?_getD, List.getElem?_append_left (by omega), List.getD_eq_getElem?_getD]
  · subst c1
    rw [if_pos (by omega), if_neg (by omega), List.getD_eq_getElem?_getD, List.getElem?_append_right (by omega), lc, Nat.sub_self, Nat.zero_mod]
    rfl
  · rw [if_neg (by omega), if_neg (by omega)]
    obtain ⟨k, rfl⟩ : ∃ k, i = h.length + 1 + k := ⟨i - (h.length + 1), by omega⟩
    rw [show h.length + 1 + k - (h.length + 1) = k by omega, show h.length + 1 + k - h.length = k + 1 by omega, List.getD_eq_getElem?_getD, List.getD_eq_getElem?_getD]
    have m := Nat.mod_lt k (show r.length + 1 > 0 by omega)
    by_cases z : k % (r.length + 1) = r.length
    · rw [z, List.getElem?_append_right (Nat.le_refl _), Nat.sub_self]
      have y : (k + 1) % (r.length + 1) = 0 := by
        rw [Nat.add_mod, z]
        by_cases r0 : r.length = 0
        · rw [r0]
        · rw [Nat.mod_eq_of_lt (show 1 < r.length + 1 by omega), Nat.mod_self]
      rw [y]
      rfl
    · have y : (k + 1) % (r.length + 1) = k % (r.length + 1) + 1 := by
        rw [Nat.add_mod, Nat.mod_eq_of_lt (show 1 < r.length + 1 by omega)]
        exact Nat.mod_eq_of_lt (by omega)
      rw [y, List.getElem?_append_left (by omega), List.getElem?_cons_succ]
theorem lw_rep {h g g' : Str} {n : Nat} (n1 : 1 ≤ n) (g1 : 1 ≤ g.length) (eg : cs g' = (List.replicate n (cs g)).flatten) (i : Nat) : lw h g' i = lw h g i := by
  have lg : (cs g).length = g.length := cs_len g
  have lg' : g'.length = n * g.length := by rw [← cs_len, eg, rep_lenG, lg]
  unfold lw
  rw [lg', eg]
  split
  · rfl
  · have pos : 0 < n * g.length := Nat.mul_pos (by omega) (by omega)
    rw [List.getD_eq_getElem?_getD, List.getD_eq_getElem?_getD, rep_get (cs g) (by omega) n _ (by rw [lg]; exact Nat.mod_lt _ pos), lg, Nat.mod_mod_of_dvd _ (Nat.dvd_mul_left _ _)]
section
variable {P : Program} {w : World} {K : Frag} {mg : Str → Option Value} {base : Heap} {f : Addr} {fd : FuncData}
theorem scTelling : FnScope ["jug", "guide", "head", "again", "much", "turn"] ["jug", "guide"] (defScope sTelling) := ⟨rfl, rfl, rfl, by decide +kernel, rfl, by decide +kernel, by decide +kernel⟩
theorem scUnlike : FnScope ["one", "two", "some", "at"] ["one", "two"] (defScope sUnlike) := ⟨rfl, rfl, rfl, by decide +kernel, rfl, by decide +kernel, by decide +kernel⟩
theorem ok_telling (F : FnP K "_law_other_telling" sTelling f fd) (mR : mg "range" = none) (DB : Def P w K mg base CX0 1 "_law_bit" ["jug", "much"] spBit) : FnOk P w K mg base CX0 2 f fd ["jug", "guide"] (spTelling K) := by
  obtain ⟨fBi, dBi, FBi, gBi, kBi, bBi⟩ := DB.ex
  refine F.ok scTelling (fun vs H Q E h => ?_) (fun cdv A outer s H vs Q E hr h => ?_)
  · obtain ⟨j, p, x, h, g, rfl, _⟩ := h
    rfl
  · obtain ⟨j, p, x, h, g, rfl, hj, sq, G, h3, g4, q⟩ := h
    have hs : sizeLine = 16777216 := sizeLine_eq
    refine ⟨_, PSs.nox (pss_cons (ps_asg (pv 1) (pg_tup (by rfl) (pgs_cons (pg_name (i := 2) scTelling.nd rfl (.inl rfl)) (pgs_cons (pg_name (i := 3) scTelling.nd rfl (.inl rfl)) pgs_nil))))
      (pss_cons (ps_set (i := 4) scTelling.nd rfl (.inl rfl) (pe_call FBi (hr.mono (by decide)) (by rfl) gBi kBi bBi .nil pass0 (pa_cons (pv 0) (pa_cons (pe_int) (pa_nil)))))
      (pss_cons (ps_for PassesOwn.never rfl (pi_range1 (by rfl) mR (pa_cons (pv 4) (pa_nil))) (pg_name (i := 5) scTelling.nd rfl (.inl rfl)) (pss_one (ps_par (i := 2) (j := 3) (by rfl) scTelling.nd rfl rfl (by decide) rfl rfl (pa_cons (pe_op op_addS (pv 2) (pe_ix ix_str (pv 3) (pe_int) (fun _ _ => rfl))) (pa_cons (pe_op op_addS (pe_slice sl_str (pv 3) (po_some (pe_int)) po_none) (pe_ix ix_str (pv 3) (pe_int) (fun _ _ => rfl))) (pa_nil))) (by rfl))))
      (pss_one (ps_ret ((pe_tup (pa_cons (pv 2) (pa_cons (pe_op op_mulS (pv 3) (pe_op op_add (pe_int) (pe_call FBi (hr.mono (by decide)) (by rfl) gBi kBi bBi .nil pass0 (pa_cons (pv 0) (pa_cons (pe_int) (pa_nil)))))) (pa_nil)))))))))), ?_⟩
    refine ⟨_, rfl, p, _, rfl, sq, rfl, _, _, rfl, _, _, rfl, rfl, ?_⟩
    refine ⟨_, rfl, j, _, rfl, hj, by decide, by decide, fun r H1 r0 r1 k1 => ?_⟩
    refine ⟨_, rfl, _, rfl, by omega, by omega, ?_⟩
    refine for_range (n := r.toNat) (fun i σ HX => ∃ h' g' : Str, σ.take 5 = [some (.ref j), some (.ref p), some (.str h'), some (.str g'), some (.int r)] ∧ σ.length = 6 ∧ Gx x h' g' ∧ h'.length = h.length + i ∧ g'.length = g.length ∧ (∀ i, lw h' g' i = lw h g i) ∧ Kj j H HX) ⟨h, g, rfl, rfl, G, rfl, rfl, fun _ => rfl, k1⟩ ?_ ?_
    · rintro i σ HX hi ⟨h', g', eσ, lσ, G', lh', lg', same, k2⟩
      obtain ⟨o, rfl⟩ : ∃ o, σ = [some (.ref j), some (.ref p), some (.str h'), some (.str g'), some (.int r), o] := by
        match σ, lσ, eσ with
        | [a, b, c, d, e, o], _, eσ => exact ⟨o, by simpa using eσ⟩
      have g1 := G'.g1
      obtain ⟨c, rr, ec⟩ : ∃ c rr, cs g' = c :: rr := by
        cases z : cs g' with
        | nil =>
          have y := cs_len g'
          rw [z] at y
          have : (0 : Nat) = g'.length := y
          omega
        | cons c rr => exact ⟨c, rr, rfl⟩
      have e0 : atI g'.cps.toList (0 : Int) = some c := by
        have y := at_signI (z := g') (i := 0) (by omega)
        rw [ec] at y
        exact y
      have l1 : (cutS g' (some ((1 : Nat) : Int)) none).length = rr.length := by rw [← cs_len, XFd.cut_from, ec]; rfl
      have lr : g'.length = rr.length + 1 := by rw [← cs_len, ec, List.length_cons]
      have lh20 := G'.lh
      have g20 := G'.g20
      have eg1 : cs (cutS g' (some ((1 : Nat) : Int)) none ++ (⟨#[c]⟩ : Str)) = rr ++ [c] := by
        rw [cs_app, XFd.cut_from, ec]
        rfl
      have eh1 : cs (h' ++ (⟨#[c]⟩ : Str)) = cs h' ++ [c] := cs_app _ _
      refine ⟨_, rfl, _, rfl, g', _, _, rfl, rfl, by omega, e0, _, _, rfl, rfl, by show h'.length + 1 ≤ sizeLine; omega, ?_⟩
      refine ⟨_, rfl, _, rfl, g', rfl, by omega, _, rfl, g', _, _, rfl, rfl, by omega, e0, _, _, rfl, rfl, by show (cutS g' (some ((1 : Nat) : Int)) none).length + 1 ≤ sizeLine; omega, ?_⟩
      refine ⟨_, _, rfl, h' ++ (⟨#[c]⟩ : Str), cutS g' (some ((1 : Nat) : Int)) none ++ (⟨#[c]⟩ : Str), rfl, rfl, ⟨fun d m => ?_, fun d m => ?_, fun d m => ?_, ?_, ?_, ?_⟩, ?_, ?_, fun i => ?_, k2⟩
      · rw [eh1] at m
        rcases List.mem_append.mp m with m | m
        · exact G'.hx d m
        · obtain rfl : d = c := List.mem_singleton.mp m
          exact G'.gx d (by rw [ec]; exact List.mem_cons_self ..)
      · rw [eg1] at m
        refine G'.gx d ?_
        rw [ec]
        rcases List.mem_append.mp m with m | m
        · exact List.mem_cons_of_mem _ m
        · obtain rfl : d = c := List.mem_singleton.mp m
          exact List.mem_cons_self ..
      · rw [eg1]
        have y := G'.xg d m
        rw [ec] at y
        rcases List.mem_cons.mp y with rfl | y
        · exact List.mem_append_right _ (List.mem_singleton.mpr rfl)
        · exact List.mem_append_left _ y
      · rw [app_len]
        show h'.length + 1 ≤ 20
        omega
      · rw [app_len]
        show 1 ≤ _ + 1
        omega
      · rw [app_len]
        show _ + 1 ≤ 20
        omega
      · rw [app_len]
        show h'.length + 1 = _
        omega
      · rw [app_len]
        show _ + 1 = _
        omega
      · rw [lw_turn ec eh1 eg1]
        exact same i
    · rintro σ HX ⟨h', g', eσ, lσ, G', lh', lg', same, k2⟩
      obtain ⟨o, rfl⟩ : ∃ o, σ = [some (.ref j), some (.ref p), some (.str h'), some (.str g'), some (.int r), o] := by
        match σ, lσ, eσ with
        | [a, b, c, d, e, o], _, eσ => exact ⟨o, by simpa using eσ⟩
      have g1 := G'.g1
      refine ⟨_, rfl, _, rfl, _, rfl, j, _, rfl, k2.2, by decide, by decide, fun r2 H2 a2 b2 k3 => ?_⟩
      obtain ⟨n, rfl⟩ : ∃ n : Nat, r2 = (n : Int) := ⟨r2.toNat, by omega⟩
      have n4 : 1 + n ≤ 3 := by omega
      have ge : cs (Txt.mul g' ((1 + n : Nat) : Int)) = (List.replicate (1 + n) (cs g')).flatten := mul_G g' _ (by omega) (by omega)
      have lm : (1 + n) * g'.length ≤ 3 * 4 := Nat.mul_le_mul n4 (by omega)
      have lm1 : 1 * 1 ≤ (1 + n) * g'.length := Nat.mul_le_mul (by omega) (by omega)
      have lt : (Txt.mul g' ((1 + n : Nat) : Int)).length = (1 + n) * g'.length := by rw [← cs_len, ge, rep_lenG, cs_len]
      have gm : ∀ d, d ∈ (List.replicate (1 + n) (cs g')).flatten ↔ d ∈ cs g' := fun d => by
        constructor
        · intro m
          obtain ⟨t, mt, md⟩ := List.mem_flatten.mp m
          rw [List.eq_of_mem_replicate mt] at md
          exact md
        · intro m
          exact List.mem_flatten.mpr ⟨_, List.mem_replicate.mpr ⟨by omega, rfl⟩, m⟩
      refine ⟨_, _, rfl, rfl, g', 1 + n, rfl, by push_cast; rfl, by rw [Nat.mul_comm]; omega, by omega, by omega, by show 2 ≤ sizeLine; decide, fun t ht => ?_⟩
      have kk := k2.trans k3
      refine q t _ _ _ (kk.none ht) (kk.new (kk.none ht) (jug_none kk.2 ht)) upd_same ⟨G'.hx, fun d m => ?_, fun d m => ?_, G'.lh, by omega, by omega⟩ fun i => ?_
      · rw [ge] at m
        exact G'.gx d ((gm d).mp m)
      · rw [ge]
        exact (gm d).mpr (G'.xg d m)
      · rw [lw_rep (by omega) g1 ge]
        exact same i
theorem ok_unlike (F : FnP K "_law_first_unlike" sUnlike f fd) (mR : mg "range" = none) (DSN : Def P w K mg base CX0 1 "_law_guide_sign" ["guide", "at"] (spSign K)) : FnOk P w K mg base CX0 2 f fd ["one", "two"] (spUnlike K) := by
  obtain ⟨fSN, dSN, FSN, gSN, kSN, bSN⟩ := DSN.ex
  refine F.ok scUnlike (fun vs H Q E h => ?_) (fun cdv A outer s H vs Q E hr h => ?_)
  · obtain ⟨p, p', h, g, h', g', rfl, _⟩ := h
    rfl
  · obtain ⟨p, p', h, g, h', g', rfl, sq, sq', G, G', qn, qi⟩ := h
    have hs : sizeLine = 16777216 := sizeLine_eq
    refine ⟨_, PSs.nox (pss_cons (ps_setLc (i := 2) (own := [("at", 3)]) (g := gName 3) (tt := tTest (tOp rNe (tCall (spSign K) [] E0 (tCons (tVar 0) (tCons (tVar 3) tNil))) (tCall (spSign K) [] E0 (tCons (tVar 1) (tCons (tVar 3) tNil))))) (te := tVar 3) rfl scUnlike.nd rfl rfl (sw_true rfl rfl rfl (by decide +kernel)) (pi_range1 (by rfl) mR (pa_cons (pe_int) (pa_nil))) (blkOk_by (N := ["one", "two", "some", "at"]) (sc := defScope sUnlike) (by decide +kernel)) (fun _ _ _ _ _ => pg_name (i := 3) scUnlike.nd rfl (Or.inl rfl)) (fun _ _ _ _ _ => by exact pts_one (pt_cmpR op_ne (pe_call FSN (hr.mono (by decide)) (by rfl) gSN kSN bSN .nil pass0 (pa_cons (pv 0) (pa_cons (pv 3) (pa_nil)))) (pe_call FSN (hr.mono (by decide)) (by rfl) gSN kSN bSN .nil pass0 (pa_cons (pv 1) (pa_cons (pv 3) (pa_nil)))) (nomark _))) (fun _ _ _ _ _ => by exact pv 3))
      (pss_one (ps_ret (pe_ifExp (pt_cmpR (op_neE hr.units) (pv 2) (pe_lst pa_nil) (nomark _)) (pe_ix ix_list (pv 2) (pe_int) (fun _ _ => rfl)) pe_non)))), ?_⟩
    refine ⟨_, rfl, by decide, by decide, fun D hD => ?_⟩
    refine lc_range (n := 60) (fun i HX => HX D = some (.lst (((List.range i).filter fun k => decide (lw h g k ≠ lw h' g' k)).map fun k : Nat => V.int (k : Int))) ∧ Ext H HX) ⟨upd_same, (Ext.refl _).new hD⟩ ?_ ?_
    · rintro i HX hi ⟨e1, x1⟩
      rw [Int.zero_add]
      refine ⟨rfl, _, rfl, _, rfl, p, h, g, i, rfl, sqT_ext x1 sq, G, by omega, _, rfl, _, rfl, p', h', g', i, rfl, sqT_ext x1 sq', G', by omega, ?_⟩
      show rNe _ _ _ _
      refine ⟨rfl, _, rfl, ?_⟩
      have ed : decide (V.str (sgS h g i) = V.str (sgS h' g' i)) = decide (lw h g i = lw h' g' i) := decide_eq_decide.mpr ⟨fun z => one_inj (V.str.inj z), fun z => by unfold sgS; rw [z]⟩
      show if (!decide (V.str (sgS h g i) = V.str (sgS h' g' i))) = true then _ else _
      rw [ed]
      by_cases c : lw h g i = lw h' g' i
      · rw [decide_eq_true c]
        refine iteF ⟨?_, x1⟩
        rw [List.range_succ, List.filter_append, List.filter_cons_of_neg (by simpa using c)]
        simpa using e1
      · rw [decide_eq_false c]
        refine iteT ⟨_, rfl, _, e1, by rw [List.length_map]; have z := List.length_filter_le (fun k => decide (lw h g k ≠ lw h' g' k)) (List.range i); rw [List.length_range] at z; omega, ?_, fun a o e => by rw [upd_ne (ne_of_none e hD)]; exact x1 a o e⟩
        rw [List.range_succ, List.filter_append, List.filter_cons_of_pos (by simpa using c), List.map_append]
        exact upd_same
    · rintro HX ⟨e1, x1⟩
      refine ⟨_, rfl, by show 0 ≤ sizeLine; decide, fun t ht => ?_⟩
      have x2 := Ext.new x1 ht (o := .lst [])
      have e2 : (upd HX t (.lst [])) D = _ := ((Ext.refl HX).new ht) _ _ e1
      refine ⟨D, _, t, rfl, rfl, SqL.of e2, SqL.of upd_same, _, rfl, ?_⟩
      cases z : (List.range 60).filter fun k => decide (lw h g k ≠ lw h' g' k) with
      | nil =>
        rw [z] at e2
        refine iteF (qn (fun i hi => ?_) _ x2)
        have y := List.filter_eq_nil_iff.mp z i (List.mem_range.mpr hi)
        simpa using y
      | cons i l =>
        rw [z] at e2
        refine iteT ⟨_, rfl, D, _, _, _, rfl, rfl, SqL.of e2, atI_nat (j := 0) rfl, ?_⟩
        have mi : i ∈ (List.range 60).filter fun k => decide (lw h g k ≠ lw h' g' k) := by rw [z]; exact List.mem_cons_self ..
        obtain ⟨m1, m2⟩ := List.mem_filter.mp mi
        refine qi i (List.mem_range.mp m1) (by simpa using m2) (fun k hk => ?_) _ x2
        apply Classical.byContradiction
        intro c
        have mk : k ∈ (List.range 60).filter fun k => decide (lw h g k ≠ lw h' g' k) := List.mem_filter.mpr ⟨List.mem_range.mpr (by have := List.mem_range.mp m1; omega), by simpa using c⟩
        have pw := (List.pairwise_lt_range (n := 60)).filter fun k => decide (lw h g k ≠ lw h' g' k)
        rw [z] at mk pw
        rcases List.mem_cons.mp mk with e | m
        · omega
        · have := (List.pairwise_cons.mp pw).1 k m
          omega
end
end B73

/-! words put in, taken out, with all that is refused -/
namespace B73
open PySem PySem.Spec PyProof.Rows L2 XSt NX XB XE
open PySem.W (Frag)
theorem word_str {x : Str} {z : V} (h : wordV x 400 z = true) : ∃ y, z = .str y := by
  cases z with
  | str y => exact ⟨y, rfl⟩
  | _ => cases h
theorem word_len {x y : Str} (h : wordV x 400 (.str y) = true) : 1 ≤ y.length ∧ y.length ≤ 400 := by
  have z2 : (decide (Txt.stripChars y x = ⟨#[]⟩) && (decide (1 ≤ y.length) && decide (y.length ≤ 400))) = true := h
  rw [Bool.and_eq_true, Bool.and_eq_true, decide_eq_true_eq, decide_eq_true_eq, decide_eq_true_eq] at z2
  exact z2.2
def spWithX (K : Frag) (C cW cO cC cM : Addr) : Sp := fun vs H Q E => ∃ (b : Addr) (x : Str) (ws : List Str) (v : V), vs = [.ref b, v] ∧ BookAt H b C x ws ∧ Asked K H v ∧ GoodL x ∧ (∀ k ∈ ws, GoodW x k) ∧ ws.length ≤ 400 ∧
  (wordV x 400 v = false → ∀ H', Ext H H' → E (.ref cW) none H') ∧
  (∀ y, v = .str y → wordV x 400 v = true →
    (y ∈ ws → ∀ H', Ext H H' → E (.ref cO) none H') ∧
    (¬ y ∈ ws → 400 < (ordT (ws ++ [y])).length → ∀ d H', Ext H H' → H' d = some (.xd manyF) → E (.ref cM) (some d) H') ∧
    (¬ y ∈ ws → (ordT (ws ++ [y])).length ≤ 400 → firstV (ordT (ws ++ [y])) = none → ∀ b' H', H b' = none → Ext H H' → BookAt H' b' C x (ordT (ws ++ [y])) → Q (.ref b') H') ∧
    (¬ y ∈ ws → (ordT (ws ++ [y])).length ≤ 400 → ∀ u v, firstV (ordT (ws ++ [y])) = some (u, v) → ∀ d H', Ext H H' → H' d = some (.xd (clashF u v)) → E (.ref cC) (some d) H'))
def spWithoutX (K : Frag) (C cW cO : Addr) : Sp := fun vs H Q E => ∃ (b : Addr) (x : Str) (ws : List Str) (v : V), vs = [.ref b, v] ∧ BookAt H b C x ws ∧ Asked K H v ∧ GoodL x ∧ (∀ k ∈ ws, GoodW x k) ∧ ws.length ≤ 400 ∧ ordT ws = ws ∧ firstV ws = none ∧
  (wordV x 400 v = false → ∀ H', Ext H H' → E (.ref cW) none H') ∧
  (∀ y, v = .str y → wordV x 400 v = true →
    (¬ y ∈ ws → ∀ H', Ext H H' → E (.ref cO) none H') ∧
    (y ∈ ws → ∀ b' H', H b' = none → Ext H H' → BookAt H' b' C x (ws.filter fun k => decide (k ≠ y)) → Q (.ref b') H'))
section
variable {P : Program} {w : World} {K : Frag} {mg : Str → Option Value} {base : Heap} {f fO fC fW fI C cC cO cL cW cM : Addr} {fd dO dC dW dI : FuncData}
theorem upd_ext {H H' : Hp} {b dx : Addr} {C : Addr} (hb : H b = none) (hdx : H dx = none) (off : ∀ c o, c ≠ b → (upd (upd H dx (.own b)) b (.ins C dx [])) c = some o → H' c = some o) : Ext H H' := fun c o e => by
  have n1 := ne_of_none e hb
  have n2 := ne_of_none e hdx
  exact off c o n1 (by rw [upd_ne n1, upd_ne n2]; exact e)
end
end B73

/-! uniform books -/
namespace B73
open PySem PySem.Spec PyProof.Rows L2 XSt NX XB
open PySem.W (Frag)
def spUniform (K : Frag) (C : Addr) : Sp := fun vs H Q _ => ∃ (x : Str) (n : Nat), vs = [.ref C, .str x, .int (n : Int)] ∧ Abc x ∧ 1 ≤ n ∧ n ≤ 400 ∧ (∀ i, i ≤ n → x.length ^ i ≤ 400) ∧ ∀ b H', H b = none → Ext H H' → BookAt H' b C x (unif x n) → Q (.ref b) H'
section
variable {P : Program} {w : World} {K : Frag} {mg : Str → Option Value} {base : Heap} {f fL fN fI C : Addr} {fd dL dN dI : FuncData}
end
end B73

/-! uniform books, with all that is refused -/
namespace B73
open PySem PySem.Spec PyProof.Rows L2 XSt NX XB XE
open PySem.W (Frag)
def spUniformX (K : Frag) (C cL cN cM : Addr) : Sp := fun vs H Q E => ∃ u v, vs = [.ref C, u, v] ∧ Asked K H u ∧ Asked K H v ∧
  ((lettersV u = false ∧ ∀ H', Ext H H' → E (.ref cL) none H') ∨
   (lettersV u = true ∧ numV 1 400 v = false ∧ ∀ d H', Ext H H' → H' d = some (.xd (numF v)) → E (.ref cN) (some d) H') ∨
   ∃ (x : Str) (n : Nat), u = .str x ∧ Abc x ∧ v = .int (n : Int) ∧ 1 ≤ n ∧ n ≤ 400 ∧
    ((∃ i, i ≤ n ∧ 400 < x.length ^ i) → ∀ d H', Ext H H' → H' d = some (.xd manyF) → E (.ref cM) (some d) H') ∧
    ((∀ i, i ≤ n → x.length ^ i ≤ 400) → ∀ b H', H b = none → Ext H H' → BookAt H' b C x (unif x n) → Q (.ref b) H'))
theorem long_i {i : Int} (h0 : 0 ≤ i) (h : i ≤ 100000) : longV (.int i) = true := by
  show decide ((if i < 0 then -i else i) < (10 ^ 50) ^ 4) = true
  rw [if_neg (by omega)]
  exact decide_eq_true (Int.lt_of_le_of_lt (show i ≤ 100000 by omega) (by decide +kernel))
theorem long_n {n : Nat} (h : n ≤ 100000) : longV (.int (n : Int)) = true := long_i (by omega) (by omega)
theorem num_good {n : Nat} (h1 : 1 ≤ n) (h2 : n ≤ 400) : numV 1 400 (.int (n : Int)) = true := by
  show (longV (.int (n : Int)) && (decide ((1 : Int) ≤ (n : Int)) && decide ((n : Int) ≤ 400))) = true
  rw [long_n (by omega), decide_eq_true (show (1 : Int) ≤ (n : Int) by omega), decide_eq_true (show (n : Int) ≤ 400 by omega)]
  rfl
section
variable {P : Program} {w : World} {K : Frag} {mg : Str → Option Value} {base : Heap} {f fL fN fI C cL cN cM cW cO cC : Addr} {fd dL dN dI : FuncData}
theorem init_calm (FI : FnOk P w K mg base (L2.CX P w) 6 fI dI ["self", "letters", "words"] (spInitY K C cL cW cO cC cM)) : FnOk P w K mg base CX0 6 fI dI ["self", "letters", "words"] (spInit K C) := XC0.calm FI fun vs H Q E h => by
  obtain ⟨b, dx, p, x, ys, rfl, eb, gl, sq, npb, gw, few, lim, np, ns, q⟩ := h
  have fv := firstV_none (ordT_nodup ys) (np.perm fun _ => ordT_mem) (ns.perm fun _ => ordT_mem)
  refine ⟨b, dx, _, _, rfl, eb, gl.ask, .inr (.inr ⟨x, p, _, rfl, gl.2.2, rfl, npb, sq, by rw [List.length_map]; exact few, fun z m => by obtain ⟨k, mk, rfl⟩ := List.mem_map.mp m; exact (gw k mk).ask, .inr ⟨ys, rfl, fun k m => (gw k m).2.2, few, fun big => by omega, fun _ _ H' off bk => q H' off bk, fun _ u v fv2 => ?_⟩⟩)⟩
  rw [fv] at fv2
  cases fv2
theorem abc_pow {x : Str} (h : x.length ≤ 3) {n : Nat} (hn : n ≤ 5) : ∀ i, i ≤ n → x.length ^ i ≤ 400 := fun i hi => Nat.le_trans (pow_few h (by omega)) (by decide)
end
end B73

/-! beginnings of a given length; rows that are made, their texts, when two are equal -/
namespace B73
open PySem PySem.Spec PyProof.Rows L2 XSt NX XB XE XPl XFd XTs XNil
open PySem.StrLaws
open PySem.W (Frag)
/-- the row's first m letters -/
def beg (w : Nat → Nat) (m : Nat) : List Nat := (T w m).take m
theorem T_big (w : Nat → Nat) (n : Nat) : n ≤ (T w n).length := by
  have z := T_mono w (Nat.zero_le n)
  omega
theorem take_pre {l k : List Nat} {m : Nat} (h : l <+: k) (hm : m ≤ l.length) : l.take m = k.take m := by
  obtain ⟨t, rfl⟩ := h
  rw [List.take_append_of_le_length hm]
theorem beg_at {w : Nat → Nat} {n m : Nat} (h : m ≤ (T w n).length) : (T w n).take m = beg w m := by
  unfold beg
  rcases Nat.le_total n m with c | c
  · exact take_pre (T_pre w c) h
  · exact (take_pre (T_pre w c) (T_big w m)).symm
theorem beg_same {u v : Nat → Nat} (h : ∀ i, u i = v i) (m : Nat) : beg u m = beg v m := by
  rw [show u = v from funext h]
theorem beg_len (w : Nat → Nat) (m : Nat) : (beg w m).length = m := by
  unfold beg
  rw [List.length_take]
  have := T_big w m
  omega
theorem beg_take (w : Nat → Nat) {k m : Nat} (h : k ≤ m) : (beg w m).take k = beg w k := by
  unfold beg
  rw [List.take_take, Nat.min_eq_left h]
  exact beg_at (Nat.le_trans h (T_big w m))
theorem least (f : Nat → Nat) (m : Nat) : ∀ n, m ≤ f n → ∃ N, N ≤ n ∧ m ≤ f N ∧ ∀ i, i < N → f i < m
  | 0, h => ⟨0, Nat.le_refl _, h, fun i hi => by omega⟩
  | n + 1, h => by
    by_cases c : ∃ k, k ≤ n ∧ m ≤ f k
    · obtain ⟨k, hk, hm⟩ := c
      obtain ⟨N, h1, h2, h3⟩ := least f m k hm
      exact ⟨N, by omega, h2, h3⟩
    · exact ⟨n + 1, Nat.le_refl _, h, fun i hi => Nat.lt_of_not_le fun z => c ⟨i, by omega, z⟩⟩
termination_by n => n
theorem inB_nil (t : Str) : inB (Str.ofString "") t = true := by
  unfold inB
  rw [occ_eq]
  have z := occ_first t (Str.ofString "") t.length (List.range' 0 (t.length + 1 - 0)) 0 (fun j _ => Nat.zero_le _)
  have e : (List.range' 0 (t.length + 1 - 0)).find? (fun i => decide (i + (Str.ofString "").length ≤ t.length) && Builtin.Str.subAt t (Str.ofString "") i) = some 0 := by
    rw [show t.length + 1 - 0 = t.length + 1 from rfl, List.range'_succ, List.find?_cons_of_pos]
    rw [decide_eq_true (show 0 + (Str.ofString "").length ≤ t.length by show 0 + 0 ≤ _; omega), subAt_eq]
    rfl
  rw [z, e]
  rfl
theorem steps_least {h g : Str} {m N : Nat} (m4 : m ≤ 4000) (hN : N ≤ m) (h1 : m ≤ (T (lw h g) N).length) (h2 : ∀ i, i < N → (T (lw h g) i).length < m) : Steps h g (m : Int) (Str.ofString "") N := by
  have len : ∀ i, (stF h g i).1.length = (T (lw h g) i).length := fun i => by rw [← (st_T h g i).1, cs_len]
  refine ⟨by omega, fun i hi => ?_, ?_, fun i hi => ?_⟩
  · unfold onB
    rw [decide_eq_true (show ((stF h g i).1.length : Int) < (m : Int) by rw [len]; have := h2 i hi; omega)]
    rfl
  · unfold onB
    rw [decide_eq_false (show ¬ ((stF h g N).1.length : Int) < (m : Int) by rw [len]; omega), inB_nil]
    rfl
  · rw [len]
    rcases Nat.lt_or_ge i N with c | c
    · have := h2 i c
      omega
    · obtain rfl : i = N := by omega
      cases i with
      | zero => exact Nat.zero_le _
      | succ k =>
        have a := h2 k (Nat.lt_succ_self k)
        have b := mc_len (T (lw h g) k ++ [lw h g k])
        rw [List.length_append, List.length_singleton] at b
        show (mc (T (lw h g) k ++ [lw h g k])).length ≤ 8001
        omega
theorem least_T (w : Nat → Nat) (m : Nat) : ∃ N, N ≤ m ∧ m ≤ (T w N).length ∧ ∀ i, i < N → (T w i).length < m := least (fun i => (T w i).length) m m (T_big w m)
theorem num_upto {m k : Nat} (h : m ≤ k) (k4 : k ≤ 4000) : numV 0 (k : Int) (.int (m : Int)) = true := by
  show (longV (.int (m : Int)) && (decide ((0 : Int) ≤ (m : Int)) && decide ((m : Int) ≤ (k : Int)))) = true
  rw [long_n (by omega), decide_eq_true (show (0 : Int) ≤ (m : Int) by omega), decide_eq_true (show (m : Int) ≤ (k : Int) by omega)]
  rfl
/-- a row that was made -/
structure Rw (x h g : Str) : Prop where
  abc : Abc x
  gx : Gx x h g
theorem text_in {x y : Str} (h : ∀ c ∈ cs y, c ∈ cs x) (few : y.length ≤ 4000) : textV x 4000 (.str y) = true := by
  show (decide (Txt.stripChars y x = ⟨#[]⟩) && decide (y.length ≤ 4000)) = true
  rw [strip_in, decide_eq_true few, Bool.and_true, List.all_eq_true]
  exact fun c m => decide_eq_true (h c m)
theorem Rw.guide {x h g : Str} (r : Rw x h g) : Guide x h g := ⟨r.abc.few, r.abc.ok, r.abc.good.2.2, r.gx.lh, r.gx.g1, r.gx.g20⟩
theorem ask_in {K : Frag} {H : Hp} {x y : Str} (a : Abc x) (h : ∀ c ∈ cs y, c ∈ cs x) (few : y.length ≤ 8000) : Asked K H (.str y) := ⟨few, strOk_of a.ok h⟩
abbrev sRowEq : Stmt := inClass sRow 7
abbrev sRowStr : Stmt := inClass sRow 8
def spStart (C : Addr) : Sp := fun vs H Q _ => ∃ (b : Addr) (x h g : Str) (m : Nat), vs = [.ref b, .int (m : Int)] ∧ RowAt H b C x h g ∧ Rw x h g ∧ m ≤ 4000 ∧ ∀ z H', Ext H H' → cs z = beg (lw h g) m → Q (.str z) H'
def spTellG (C : Addr) : Sp := fun vs H Q _ => ∃ (b : Addr) (x h g : Str) (m : Nat), vs = [.ref b, .int (m : Int)] ∧ RowAt H b C x h g ∧ Rw x h g ∧ m ≤ 400 ∧ ∀ H', Ext H H' → Q (.str (guideF h g m)) H'
def spInit0 (C : Addr) : Sp := fun vs H Q _ => ∃ (b dx : Addr) (x h g : Str), vs = [.ref b, .str x, .str h, .str g] ∧ H b = some (.ins C dx []) ∧ Rw x h g ∧ ∀ H', (∀ c o, c ≠ b → H c = some o → H' c = some o) → RowAt H' b C x h g → Q .non H'
def spRowEq (K : Frag) (C : Addr) : Sp := fun vs H Q _ => ∃ (b : Addr) (x h g : Str) (v : V), vs = [.ref b, v] ∧ RowAt H b C x h g ∧ Gd h g ∧ ((NoBook K H v ∧ Q (.bl false) H) ∨
  ∃ (b' : Addr) (x' h' g' : Str), v = .ref b' ∧ RowAt H b' C x' h' g' ∧ Gd h' g' ∧ Q (.bl (decide (x = x') && decide (guideF h g 60 = guideF h' g' 60))) H)
def rowTold (x : Str) : Str := Str.empty ++ Str.ofString "mirror row over " ++ x
def spRowStr (C : Addr) : Sp := fun vs H Q _ => ∃ (b : Addr) (x h g : Str), vs = [.ref b] ∧ RowAt H b C x h g ∧ x.length ≤ 8000 ∧ Q (.str (rowTold x)) H
section
variable {P : Program} {w : World} {K : Frag} {mg : Str → Option Value} {base : Heap} {f C cN cL cT cO : Addr} {fd : FuncData}
theorem scRowEq : FnScope ["self", "other", "size"] ["self", "other"] (defScope sRowEq) := ⟨rfl, rfl, rfl, by decide +kernel, rfl, by decide +kernel, by decide +kernel⟩
theorem scRowStr : FnScope ["self"] ["self"] (defScope sRowStr) := ⟨rfl, rfl, rfl, by decide +kernel, rfl, by decide +kernel, by decide +kernel⟩
theorem start_calm (F : FnOk P w K mg base (L2.CX P w) 4 f fd ["self", "size"] (spStartX K C cN)) : FnOk P w K mg base CX0 4 f fd ["self", "size"] (spStart C) := XC0.calm F fun vs H Q E h => by
  obtain ⟨b, x, h, g, m, rfl, ra, r, m4, q⟩ := h
  have ng := num_upto (m := m) (k := 4000) m4 (Nat.le_refl _)
  refine ⟨b, x, h, g, _, rfl, ra, r.guide, trivial, fun z => (Bool.noConfusion (ng.symm.trans z)), fun _ => ?_⟩
  obtain ⟨N, h1, h2, h3⟩ := least_T (lw h g) m
  refine ⟨m, N, rfl, steps_least m4 h1 h2 h3, fun H' k => q _ _ k ?_⟩
  rw [XFd.cut_to, (st_T h g N).1, beg_at h2]
theorem tellG_calm (F : FnOk P w K mg base (L2.CX P w) 4 f fd ["self", "size"] (spGuideX K C cN)) : FnOk P w K mg base CX0 4 f fd ["self", "size"] (spTellG C) := XC0.calm F fun vs H Q E h => by
  obtain ⟨b, x, h, g, m, rfl, ra, r, m4, q⟩ := h
  have ng := num_upto (m := m) (k := 400) m4 (by decide)
  refine ⟨b, x, h, g, _, rfl, ra, r.guide, trivial, fun z => (Bool.noConfusion (ng.symm.trans z)), fun m' e _ H' k => ?_⟩
  obtain rfl : m = m' := Int.ofNat.inj (V.int.inj e)
  exact q H' k
theorem rinit_calm (F : FnOk P w K mg base (L2.CX P w) 5 f fd ["self", "letters", "head", "again"] (spRowInit K C cL cT cO)) : FnOk P w K mg base CX0 5 f fd ["self", "letters", "head", "again"] (spInit0 C) := XC0.calm F fun vs H Q E h => by
  obtain ⟨b, dx, x, h, g, rfl, e, r, q⟩ := h
  have G := r.gx
  have lh := G.lh
  have g20 := G.g20
  refine ⟨b, dx, _, _, _, rfl, e, ask_in r.abc (fun _ m => m) (by have := r.abc.few; omega), ask_in r.abc G.hx (by omega), ask_in r.abc G.gx (by omega), .inr ⟨x, rfl, r.abc.good.2.2, r.abc.few, .inr ⟨h, g, rfl, rfl, text_in G.hx (by omega), text_in G.gx (by omega), fun z => ?_, fun _ _ _ => q⟩⟩⟩
  rcases z with z | z | z
  · omega
  · omega
  · have y : coversB x g = true := by
      unfold coversB
      rw [List.all_eq_true]
      exact fun c m => decide_eq_true (G.xg c m)
    rw [y] at z
    cases z
theorem ok_row_eq (F : FnM K "__eq__" "MirrorRow.__eq__" sRowEq f fd) (B : RowK K C) (M : Free mg) (gR : mg "MirrorRow" = some (.ref C)) (gG : ∃ t, mg "MAX_GUIDE" = some (.int 20 t)) (DG : Def P w K mg base CX0 1 "guide_of" ["head", "again", "size"] spGuideOf) :
    FnOk P w K mg base CX0 2 f fd ["self", "other"] (spRowEq K C) := by
  obtain ⟨tk, gG⟩ := gG
  obtain ⟨fG, dG, FG, gG2, kG, bG⟩ := DG.ex
  refine F.ok scRowEq (fun vs H Q E h => ?_) (fun cdv A outer s H vs Q E hr h => ?_)
  · obtain ⟨b, x, h, g, v, rfl, _⟩ := h
    rfl
  · obtain ⟨b, x, h, g, v, rfl, ra, G, way⟩ := h
    refine ⟨_, PSs.nox (pss_cons (ps_if (PW.pt (pw_or (pt_not (pt_val (pe_callB call_isi (by rfl) M.isi (by decide +kernel) (pa_cons (pv 1) (pa_cons (pe_glob (v := .ref C) (by rfl) gR rfl) pa_nil))))) (pw_or1 (pt_cmpR op_ne (pe_fld (pv 0) rfl) (pe_fld (pv 1) rfl) (nomark _))))) (pss_one (ps_ret pe_bl)) pss_nil)
      (pss_cons (ps_set (i := 2) scRowEq.nd rfl (.inl rfl) (pe_op op_mul pe_int (pe_glob (v := .int 20) (by rfl) gG ⟨tk, rfl⟩)))
      (pss_one (ps_ret (pe_cmpR op_eq (pe_call FG (hr.mono (by decide)) (by rfl) gG2 kG bG .nil pass0 (pa_cons (pe_fld (pv 0) rfl) (pa_cons (pe_fld (pv 0) rfl) (pa_cons (pv 2) pa_nil)))) (pe_call FG (hr.mono (by decide)) (by rfl) gG2 kG bG .nil pass0 (pa_cons (pe_fld (pv 1) rfl) (pa_cons (pe_fld (pv 1) rfl) (pa_cons (pv 2) pa_nil)))) (nomark _)))))), ?_⟩
    rcases way with ⟨nb, q⟩ | ⟨b', x', h', g', rfl, rb, G', q⟩
    · obtain ⟨T, mT, ty⟩ := noBook_ty nb
      exact ⟨_, rfl, _, _, _, _, _, rfl, .own C, ty, (B.others T mT).1, _, rfl, iteT (iteT q)⟩
    · have ty := rb.ty (K := K) B
      obtain ⟨dx, e⟩ := ra
      obtain ⟨dx', e'⟩ := rb
      refine ⟨_, rfl, _, _, _, _, _, rfl, .own C, ty, B.own, _, rfl, iteF ?_⟩
      refine ⟨_, rfl, b, C, dx, _, _, rfl, e, B.cls, B.nl, rfl, _, rfl, b', C, dx', _, _, rfl, e', B.cls, B.nl, rfl, rfl, _, rfl, ?_⟩
      have e1 : decide (V.str x = V.str x') = decide (x = x') := by simp
      show if (!decide (V.str x = V.str x')) = true then _ else _
      rw [e1]
      by_cases c : x = x'
      · rw [decide_eq_true c] at q ⊢
        refine iteF ⟨_, _, rfl, rfl, .inl ⟨by decide, by decide⟩, ?_⟩
        refine ⟨_, rfl, b, C, dx, _, _, rfl, e, B.cls, B.nh, rfl, _, rfl, b, C, dx, _, _, rfl, e, B.cls, B.na, rfl, _, rfl, h, g, 60, rfl, G.lh, G.g1, G.g20, by decide, ?_⟩
        refine ⟨_, rfl, b', C, dx', _, _, rfl, e', B.cls, B.nh, rfl, _, rfl, b', C, dx', _, _, rfl, e', B.cls, B.na, rfl, _, rfl, h', g', 60, rfl, G'.lh, G'.g1, G'.g20, by decide, rfl, ?_⟩
        rw [show decide (V.str (guideF h g 60) = V.str (guideF h' g' 60)) = decide (guideF h g 60 = guideF h' g' 60) by simp]
        exact q
      · rw [decide_eq_false c] at q ⊢
        exact iteT q
theorem ok_row_str (F : FnM K "__str__" "MirrorRow.__str__" sRowStr f fd) (B : RowK K C) : FnOk P w K mg base CX0 1 f fd ["self"] (spRowStr C) := by
  refine F.ok scRowStr (fun vs H Q E h => ?_) (fun cdv A outer s H vs Q E hr h => ?_)
  · obtain ⟨b, x, h, g, rfl, _⟩ := h
    rfl
  · obtain ⟨b, x, h, g, rfl, ⟨dx, e⟩, lx, q⟩ := h
    have hs : sizeLine = 16777216 := sizeLine_eq
    refine ⟨_, PSs.nox (pss_one (ps_ret (pe_joined (.cons pe_str (.cons (pe_fmt (pe_fld (pv 0) rfl)) .nil))))), ?_⟩
    have l0 : (Str.empty ++ Str.ofString "mirror row over ").length = 16 := by decide +kernel
    refine ⟨_, rfl, by rw [l0]; omega, _, rfl, b, C, dx, _, _, rfl, e, B.cls, B.nl, rfl, Or.inl ⟨x, rfl, by omega, _, rfl, ?_, q⟩⟩
    rw [app_len, l0]
    show 16 + x.length ≤ sizeLine
    omega
end
end B73

/-! the rules of rows; shortest texts that read alike both ways -/
namespace B73
open PySem PySem.Spec PyProof.Rows L2 XSt NX XB XE XPl XFd XTs XNil
open PySem.W (Frag)
abbrev sCloseRight : Stmt := top 39
structure RowR (P : Program) (w : World) (K : Frag) (mg : Str → Option Value) (base : Heap) (C : Addr) : Prop where
  B : RowK K C
  gR : mg "MirrorRow" = some (.ref C)
  make : ∃ g fd, Mk K C g ∧ FnOk P w K mg base CX0 5 g fd ["self", "letters", "head", "again"] (spInit0 C) ∧ Binds K fd ["self", "letters", "head", "again"] []
  lt : ∃ p g fd, PropOf K C "letters" p g ∧ FnOk P w K mg base CX0 1 g fd ["self"] (spRowL C) ∧ Binds K fd ["self"] []
  hd : ∃ p g fd, PropOf K C "head" p g ∧ FnOk P w K mg base CX0 1 g fd ["self"] (spRowH C) ∧ Binds K fd ["self"] []
  ag : ∃ p g fd, PropOf K C "again" p g ∧ FnOk P w K mg base CX0 1 g fd ["self"] (spRowG C) ∧ Binds K fd ["self"] []
  st : ∃ g fd, Meth K C "start" g ∧ FnOk P w K mg base CX0 4 g fd ["self", "size"] (spStart C) ∧ Binds K fd ["self", "size"] []
  gu : ∃ g fd, Meth K C "guide" g ∧ FnOk P w K mg base CX0 4 g fd ["self", "size"] (spTellG C) ∧ Binds K fd ["self", "size"] []
  eq : ∃ g fd, Own K C "__eq__" g ∧ FnOk P w K mg base CX0 2 g fd ["self", "other"] (spRowEq K C) ∧ Binds K fd ["self", "other"] []
  ne : PySem.W.findIn K (.ref C) "__ne__" = some (some (.builtin "object.__ne__")) ∧ PySem.W.subIn K (.ref C) (.type "object") = some true
  str : ∃ g fd, Own K C "__str__" g ∧ FnOk P w K mg base CX0 1 g fd ["self"] (spRowStr C) ∧ Binds K fd ["self"] []
theorem mc_mem : ∀ {l : List Nat} {c : Nat}, c ∈ mc l → c ∈ l
  | [], _, h => h
  | d :: l, c, h => by
    unfold mc at h
    split at h
    · exact h
    · rcases List.mem_cons.mp h with h | h
      · exact List.mem_cons.mpr (.inl h)
      · rcases List.mem_append.mp h with h | h
        · exact List.mem_cons_of_mem _ (mc_mem h)
        · rw [List.mem_singleton.mp h]
          exact List.mem_cons_self ..
theorem mc_fix {l : List Nat} (h : Pal l) : mc l = l := ((mc_pre l).eq_of_length (Nat.le_antisymm (mc_pre l).length_le (mc_min l h (List.prefix_refl l)))).symm
theorem rev_pal {z : Str} (h : Pal (cs z)) : revS z = z := cs_inj (by rw [cs_revS]; exact h)
theorem pal_rev {z : Str} (h : revS z = z) : Pal (cs z) := by
  show (cs z).reverse = cs z
  rw [← cs_revS, h]
def spCloseRight : Sp := fun vs H Q _ => ∃ (j : Addr) (x : Str), vs = [.ref j, .str x] ∧ JugAt H j ∧ Abc x ∧ ∀ H', Kj j H H' → Q (.bl true) H'
section
variable {P : Program} {w : World} {K : Frag} {mg : Str → Option Value} {base : Heap} {f C : Addr} {fd : FuncData}
theorem scCloseRight : FnScope ["jug", "signs", "line", "told", "much", "near"] ["jug", "signs"] (defScope sCloseRight) := ⟨rfl, rfl, rfl, by decide +kernel, rfl, by decide +kernel, by decide +kernel⟩
theorem ok_close_right (F : FnP K "_law_close_right" sCloseRight f fd) (M : Free mg) (mR : mg "range" = none) (DLi : Def P w K mg base CX0 3 "_law_line" ["jug", "signs", "most"] spLine) (DMC : Def P w K mg base CX0 5 "mirror_close" ["letters", "text"] (spMirrorClose K)) (DLC : Def P w K mg base CX0 1 "_law_mirror_close" ["line"] spLawClose) :
    FnOk P w K mg base CX0 6 f fd ["jug", "signs"] spCloseRight := by
  obtain ⟨fLi, dLi, FLi, gLi, kLi, bLi⟩ := DLi.ex
  obtain ⟨fMC, dMC, FMC, gMC, kMC, bMC⟩ := DMC.ex
  obtain ⟨fLC, dLC, FLC, gLC, kLC, bLC⟩ := DLC.ex
  refine F.ok scCloseRight (fun vs H Q E h => ?_) (fun cdv A outer s H vs Q E hr h => ?_)
  · obtain ⟨j, x, rfl, _⟩ := h
    rfl
  · obtain ⟨j, x, rfl, hj, abc, q⟩ := h
    have hs : sizeLine = 16777216 := sizeLine_eq
    have x3 := abc.few
    refine ⟨_, PSs.nox (pss_cons (ps_set (i := 2) scCloseRight.nd rfl (.inl rfl) (pe_call FLi (hr.mono (by decide)) (by rfl) gLi kLi bLi .nil pass0 (pa_cons (pv 0) (pa_cons (pv 1) (pa_cons (pe_int) (pa_nil))))))
      (pss_cons (ps_set (i := 3) scCloseRight.nd rfl (.inl rfl) (pe_call FMC (hr.mono (by decide)) (by rfl) gMC kMC bMC .nil pass0 (pa_cons (pv 1) (pa_cons (pv 2) (pa_nil)))))
      (pss_cons (ps_if (PW.pt (pw_or (pt_cmpR op_ne (pv 3) (pe_revS (pv 3)) (nomark _)) (pw_or1 (pt_cmpR op_ne (pe_slice sl_str (pv 3) po_none (po_some (pe_callB call_len (by rfl) M.len PySem.boot_len (pa_cons (pv 2) pa_nil)))) (pv 2) (nomark _))))) (pss_one (ps_ret pe_bl)) pss_nil)
      (pss_cons (ps_for PassesOwn.never rfl (pi_range1 (by rfl) mR (pa_cons (pe_op op_sub (pe_callB call_len (by rfl) M.len PySem.boot_len (pa_cons (pv 3) pa_nil)) (pe_callB call_len (by rfl) M.len PySem.boot_len (pa_cons (pv 2) pa_nil))) (pa_nil))) (pg_name (i := 4) scCloseRight.nd rfl (.inl rfl)) (pss_cons (ps_set (i := 5) scCloseRight.nd rfl (.inl rfl) (pe_op op_addS (pv 2) (pe_revS (pe_slice sl_str (pv 2) po_none (po_some (pv 4))))))
      (pss_one (ps_if (pt_cmpR op_eq (pv 5) (pe_revS (pv 5)) (nomark _)) (pss_one (ps_ret pe_bl)) pss_nil))))
      (pss_one (ps_ret (pe_and (pe_cmpR op_eq (pv 3) (pe_call FLC (hr.mono (by decide)) (by rfl) gLC kLC bLC .nil pass0 (pa_cons (pv 2) (pa_nil))) (nomark _)) (pe_one (pe_cmpR op_eq (pe_call FMC (hr.mono (by decide)) (by rfl) gMC kMC bMC .nil pass0 (pa_cons (pv 1) (pa_cons (pv 3) (pa_nil)))) (pv 3) (nomark _)))))))))), ?_⟩
    refine ⟨_, rfl, _, rfl, j, x, 12, rfl, hj, abc.one, by omega, by decide, fun y H1 my ly k1 => ?_⟩
    have my : ∀ c ∈ cs y, c ∈ cs x := my
    have ax : ∀ Hx, Asked K Hx (.str x) := fun Hx => ask_in abc (fun _ m => m) (by omega)
    refine ⟨_, rfl, _, rfl, x, y, rfl, ax _, abc.good.2.2, ask_in abc my (by omega), text_in my (by omega), by omega, fun H2 k2 => ?_⟩
    have lz : (mcS y).length ≤ 24 := by
      rw [← cs_len, cs_mcS]
      have := mc_len (cs y)
      rw [cs_len] at this
      omega
    have lyz : y.length ≤ (mcS y).length := by
      have := (mc_pre (cs y)).length_le
      rw [← cs_mcS, cs_len, cs_len] at this
      exact this
    have mz : ∀ c ∈ cs (mcS y), c ∈ cs x := fun c m => my c (mc_mem m)
    have pz : Pal (cs (mcS y)) := mc_pal _
    have ez := rev_pal pz
    have e1 : cutS (mcS y) none (some (y.length : Int)) = y := cs_inj (by
      rw [XFd.cut_to, cs_mcS]
      have z := List.prefix_iff_eq_take.mp (mc_pre (cs y))
      rw [cs_len] at z
      exact z.symm)
    have fz : mcS (mcS y) = mcS y := cs_inj (by rw [cs_mcS, mc_fix pz])
    refine ⟨_, rfl, _, rfl, mcS y, rfl, by omega, rfl, _, rfl, ?_⟩
    show if (!decide (V.str (mcS y) = V.str (revS (mcS y)))) = true then _ else _
    rw [ez, decide_eq_true rfl]
    refine iteF ?_
    refine ⟨_, rfl, _, rfl, _, y.length, rfl, ⟨by omega, rfl⟩, _, rfl, mcS y, rfl, by omega, _, rfl, rfl, _, rfl, ?_⟩
    show if (!decide (V.str (cutS (mcS y) none (some (y.length : Int))) = V.str y)) = true then _ else _
    rw [e1, decide_eq_true rfl]
    refine iteF ?_
    refine ⟨_, rfl, _, (mcS y).length, rfl, ⟨by omega, rfl⟩, _, rfl, _, y.length, rfl, ⟨by omega, rfl⟩, _, _, rfl, rfl, ?_⟩
    refine ⟨(((mcS y).length - y.length : Nat) : Int), congrArg (fun z => [V.int z]) (show ((mcS y).length : Int) - (y.length : Int) = (((mcS y).length - y.length : Nat) : Int) by omega), by omega, by omega, ?_⟩
    have few : (mcS y).length - y.length ≤ y.length := by
      have := mc_len (cs y)
      rw [← cs_mcS, cs_len, cs_len] at this
      omega
    refine for_range (n := (mcS y).length - y.length) (fun i σ HX => ∃ o1 o2, σ = [some (.ref j), some (.str x), some (.str y), some (.str (mcS y)), o1, o2] ∧ HX = H2) ⟨_, _, rfl, rfl⟩ ?_ ?_
    · rintro i σ HX hi ⟨o1, o2, rfl, rfl⟩
      rw [Int.zero_add]
      have lt : (cutS y none (some (i : Int))).length = i := by rw [← cs_len, XFd.cut_to, List.length_take, cs_len]; omega
      have lr : (revS (cutS y none (some (i : Int)))).length = i := by rw [← cs_len, cs_revS, List.length_reverse, cs_len, lt]
      refine ⟨_, rfl, _, rfl, _, rfl, _, rfl, y, rfl, by omega, _, rfl, by omega, _, _, rfl, rfl, by omega, ?_⟩
      have ln : (y ++ revS (cutS y none (some (i : Int)))).length = y.length + i := by rw [app_len, lr]
      refine ⟨_, rfl, _, rfl, _, rfl, by omega, rfl, _, rfl, ?_⟩
      rw [decide_eq_false fun z => ?_]
      · exact iteF ⟨_, _, rfl, rfl⟩
      · have p := pal_rev (V.str.inj z).symm
        have m := mc_min (cs y) p (by rw [cs_app]; exact List.prefix_append _ _)
        rw [← cs_mcS, cs_len, cs_len, ln] at m
        omega
    · rintro σ HX ⟨o1, o2, rfl, rfl⟩
      refine ⟨_, rfl, _, rfl, y, rfl, by omega, rfl, _, rfl, ?_⟩
      rw [decide_eq_true rfl]
      refine iteT ⟨_, rfl, _, rfl, x, mcS y, rfl, ax _, abc.good.2.2, ask_in abc mz (by omega), text_in mz (by omega), by omega, fun H3 k3 => ?_⟩
      refine ⟨_, rfl, rfl, ?_⟩
      rw [fz, decide_eq_true rfl]
      exact q _ ((k1.ext k2).ext k3)
end
end B73

/-! name.m(e, ..) of an object, whatever the form of the call -/
namespace XMe
open PySem PySem.Spec PyProof.Rows L2 PySem.Calls XB
theorem meth_eqG {o : Expr} {m : Str} {es : List Expr} {apos pos : Pos} {env : Env} (hbase : attributeBase o m env (eval o env) = eval o env) (hline : (apos.endLine == pos.line) = true) (hform : methodCallForm (es.length + ([] : List Keyword).length) (backTo pos (starEach es env)) (backToKw pos (keywordEach [] env)) = true) : eval (.Call (.Attribute o m apos) es [] pos) env = (do
      let ov ← eval o env
      standAt apos.atName
      let (f, first) ← holding [ov] (getMethod ov m (do return (← importBound o env).getD true))
      callWith pos f first (backTo pos (starEach es env)) (backToKw pos (keywordEach [] env))) := by
  rw [arm_eval_Call, hbase]
  have hpos : methodCallPos true o env apos pos = pure pos := by
    unfold methodCallPos
    rw [hline]
    rfl
  unfold methodCall
  rw [hform, hpos]
  rfl

/-- name.m(e, ..) -/
theorem pe_mG {X : Cx} {CX : CXT} {E : XK} {C f : Addr} {fd : FuncData} {m x : Str} {e : Expr} {es : List Expr} {k : Nat} {sp : Sp} {ps : List Str} {ta : TE} {t : TA} {p1 apos pos : Pos} (ho : PE X (.Name x p1) ta) (ha : PA X (e :: es) t) (c : Cls X.K C) (hm : Meth X.K C m f)
    (F : FnOk X.prog X.w X.K X.mg X.base CX k f fd ps sp) (hr : Room k X.A) (hb : Binds X.K fd ps []) (hx : Passes CX X E)
    (hst : starEach (e :: es) X.env = (false, eval e X.env) :: starEach es X.env := by rfl) (hpl : (backTo pos (starEach es X.env)).any (·.1) = false := by rfl) (hform : methodCallForm ((e :: es).length + ([] : List Keyword).length) (backTo pos (starEach (e :: es) X.env)) (backToKw pos (keywordEach [] X.env)) = true := by rfl)
    (hbase : attributeBase (.Name x p1) m X.env (eval (.Name x p1) X.env) = eval (.Name x p1) X.env := by rfl) (hline : (apos.endLine == pos.line) = true := by rfl) :
    PE X (.Call (.Attribute (.Name x p1) m apos) (e :: es) [] pos) (tMeth C m sp [] E ta t) :=
  pe_meth ho c hm F hr hb .nil hx ha hst hpl (meth_eqG hbase hline hform)
/-- o.m(e, ..), whatever o is -/
theorem pe_mX {X : Cx} {CX : CXT} {E : XK} {C f : Addr} {fd : FuncData} {m : Str} {o e : Expr} {es : List Expr} {k : Nat} {sp : Sp} {ps : List Str} {ta : TE} {t : TA} {apos pos : Pos} (ho : PE X o ta) (ha : PA X (e :: es) t) (c : Cls X.K C) (hm : Meth X.K C m f)
    (F : FnOk X.prog X.w X.K X.mg X.base CX k f fd ps sp) (hr : Room k X.A) (hb : Binds X.K fd ps []) (hx : Passes CX X E)
    (hst : starEach (e :: es) X.env = (false, eval e X.env) :: starEach es X.env := by rfl) (hpl : (backTo pos (starEach es X.env)).any (·.1) = false := by rfl) (hform : methodCallForm ((e :: es).length + ([] : List Keyword).length) (backTo pos (starEach (e :: es) X.env)) (backToKw pos (keywordEach [] X.env)) = true := by rfl)
    (hbase : attributeBase o m X.env (eval o X.env) = eval o X.env := by rfl) (hline : (apos.endLine == pos.line) = true := by rfl) :
    PE X (.Call (.Attribute o m apos) (e :: es) [] pos) (tMeth C m sp [] E ta t) :=
  pe_meth ho c hm F hr hb .nil hx ha hst hpl (meth_eqG hbase hline hform)
end XMe

/-! what a row tells -/
namespace B73
open PySem PySem.Spec PyProof.Rows L2 XSt NX XB XE XPl XFd XTs XNil XMe
open PySem.W (Frag)
abbrev sIsTold : Stmt := top 41
def spIsTold (K : Frag) (C : Addr) : Sp := fun vs H Q _ => ∃ (b p : Addr) (x h g : Str), vs = [.ref b, .str x, .ref p] ∧ RowAt H b C x h g ∧ Rw x h g ∧ SqT K H p [.str h, .str g] ∧ ∀ H', Ext H H' → Q (.bl true) H'
theorem empty_app (a : Str) : Str.empty ++ a = a := by
  apply cs_inj
  rw [cs_app]
  rfl
theorem strOk_app {a b : Str} (ha : PyData.strOk a = true) (hb : PyData.strOk b = true) : PyData.strOk (a ++ b) = true := by
  unfold PyData.strOk at ha hb ⊢
  show ((a.cps ++ b.cps).all _) = true
  rw [Array.all_append, ha, hb]
  rfl
theorem shown_guide {h g : Str} (g1 : 1 ≤ g.length) (n : Nat) : Txt.join (Str.ofString "") ((List.range n).map (sgS h g)) = guideF h g n := by
  apply cs_inj
  rw [join_flat, guide_cs g1, List.map_map]
  induction n with
  | zero => rfl
  | succ n ih =>
    rw [List.range_succ, List.map_append, List.flatten_append, ih, List.map_append]
    rfl
theorem guide_take {h g : Str} (g1 : 1 ≤ g.length) {k n : Nat} (hk : k ≤ n) : cutS (guideF h g n) none (some (k : Int)) = guideF h g k := by
  apply cs_inj
  rw [XFd.cut_to, guide_cs g1, guide_cs g1, ← List.map_take, List.take_range, Nat.min_eq_left hk]
theorem guide_len {h g : Str} (g1 : 1 ≤ g.length) (n : Nat) : (guideF h g n).length = n := by
  rw [← cs_len, guide_cs g1, List.length_map, List.length_range]
theorem beg_nil {w : Nat → Nat} {z : Str} (e : cs z = beg w 0) : z = Str.ofString "" := cs_inj e
section
variable {P : Program} {w : World} {K : Frag} {mg : Str → Option Value} {base : Heap} {f C : Addr} {fd : FuncData}
theorem scIsTold : FnScope ["row", "signs", "guide", "head", "again", "shown", "at", "begun"] ["row", "signs", "guide"] (defScope sIsTold) := ⟨rfl, rfl, rfl, by decide +kernel, rfl, by decide +kernel, by decide +kernel⟩
theorem ok_is_told (F : FnP K "_law_is_told" sIsTold f fd) (M : Free mg) (mR : mg "range" = none) (R : RowR P w K mg base C) (DSN : Def P w K mg base CX0 1 "_law_guide_sign" ["guide", "at"] (spSign K)) (DBG : Def P w K mg base CX0 2 "_law_begin_of" ["guide", "size_of_it"] (spBegin K)) :
    FnOk P w K mg base CX0 5 f fd ["row", "signs", "guide"] (spIsTold K C) := by
  have B := R.B
  obtain ⟨p1, g1, d1, P1, F1, b1⟩ := R.lt
  obtain ⟨p2, g2, d2, P2, F2, b2⟩ := R.hd
  obtain ⟨p3, g3, d3, P3, F3, b3⟩ := R.ag
  obtain ⟨fST, dST, MST, FST, bST⟩ := R.st
  obtain ⟨fGU, dGU, MGU, FGU, bGU⟩ := R.gu
  obtain ⟨g7, d7, O7, F7, b7⟩ := R.str
  obtain ⟨fSN, dSN, FSN, gSN, kSN, bSN⟩ := DSN.ex
  obtain ⟨fBG, dBG, FBG, gBG, kBG, bBG⟩ := DBG.ex
  refine F.ok scIsTold (fun vs H Q E h => ?_) (fun cdv A outer s H vs Q E hr h => ?_)
  · obtain ⟨b, p, x, h, g, rfl, _⟩ := h
    rfl
  · obtain ⟨b, p, x, h, g, rfl, ra, rw0, sq, q⟩ := h
    have hs : sizeLine = 16777216 := sizeLine_eq
    have G := rw0.gx
    have Gd0 := G.gd
    have gl := G.g1
    have abc := rw0.abc
    have x3 := abc.few
    have lh := G.lh
    have lg := G.g20
    obtain ⟨dx, e⟩ := id ra
    refine ⟨_, PSs.nox (pss_cons (ps_asg (pv 2) (pg_tup (by rfl) (pgs_cons (pg_name (i := 3) scIsTold.nd rfl (.inl rfl)) (pgs_cons (pg_name (i := 4) scIsTold.nd rfl (.inl rfl)) pgs_nil))))
      (pss_cons (ps_if (pt_cmpR (op_neD hr.units) ((pe_lst (pa_cons (pe_prop (pv 0) B.cls P1 F1 (hr.mono (by decide)) b1 .nil pass0 rfl) (pa_cons (pe_prop (pv 0) B.cls P2 F2 (hr.mono (by decide)) b2 .nil pass0 rfl) (pa_cons (pe_prop (pv 0) B.cls P3 F3 (hr.mono (by decide)) b3 .nil pass0 rfl) (pa_cons (pe_callTy (call_strO F7 (hr.mono (by decide)) O7 b7) (by rfl) M.str (by decide +kernel) (pa_cons (pv 0) pa_nil)) (pa_nil))))))) ((pe_lst (pa_cons (pv 1) (pa_cons (pv 3) (pa_cons (pv 4) (pa_cons (pe_op op_addS (pe_str) (pv 1)) (pa_nil))))))) (nomark _)) (pss_one (ps_ret pe_bl)) pss_nil)
      (pss_cons (ps_set (i := 5) scIsTold.nd rfl (.inl rfl) (pe_bm PySem.F.plainAttrs_str PySem.F.slot_str_join PySem.F.type_str_join mt_join pe_str (pa_cons (pe_lc (own := [("at", 6)]) (g := gName 6) (tt := tYes) (te := tCall (spSign K) [] E0 (tCons (tVar 2) (tCons (tVar 6) tNil))) rfl scIsTold.nd (pi_range1 (by rfl) mR (pa_cons (pe_int) (pa_nil))) (blkOk_by (N := ["row", "signs", "guide", "head", "again", "shown", "at", "begun"]) (sc := defScope sIsTold) (by decide +kernel)) (fun _ _ _ _ _ => pg_name (i := 6) scIsTold.nd rfl (Or.inl rfl)) (fun _ _ _ _ _ => pts_nil) (fun _ _ _ _ _ => by exact pe_call FSN (hr.mono (by decide)) (by rfl) gSN kSN bSN .nil pass0 (pa_cons (pv 2) (pa_cons (pv 6) (pa_nil))))) pa_nil)))
      (pss_cons (ps_if (PW.pt (pw_or (pt_cmpR op_ne (pe_mG (pv 0) (pa_cons (pe_int) (pa_nil)) B.cls MGU FGU (hr.mono (by decide)) bGU pass0) (pv 5) (nomark _)) (pw_or (pt_cmpR op_ne (pe_mG (pv 0) (pa_cons (pe_int) (pa_nil)) B.cls MGU FGU (hr.mono (by decide)) bGU pass0) (pe_slice sl_str (pv 5) po_none (po_some (pe_int))) (nomark _)) (pw_or1 (pt_cmpR op_ne (pe_mG (pv 0) (pa_cons (pe_int) (pa_nil)) B.cls MGU FGU (hr.mono (by decide)) bGU pass0) (pe_str) (nomark _)))))) (pss_one (ps_ret pe_bl)) pss_nil)
      (pss_cons (ps_set (i := 7) scIsTold.nd rfl (.inl rfl) (pe_call FBG (hr.mono (by decide)) (by rfl) gBG kBG bBG .nil pass0 (pa_cons (pv 2) (pa_cons (pe_int) (pa_nil)))))
      (pss_one (ps_ret (pe_and (pe_cmpR op_eq (pe_mG (pv 0) (pa_cons (pe_int) (pa_nil)) B.cls MST FST (hr.mono (by decide)) bST pass0) (pv 7) (nomark _)) (pe_and (pe_cmpR op_eq (pe_mG (pv 0) (pa_cons (pe_int) (pa_nil)) B.cls MST FST (hr.mono (by decide)) bST pass0) (pe_slice sl_str (pv 7) po_none (po_some (pe_int))) (nomark _)) (pe_one (pe_cmpR op_eq (pe_mG (pv 0) (pa_cons (pe_int) (pa_nil)) B.cls MST FST (hr.mono (by decide)) bST pass0) pe_str (nomark _)))))))))))), ?_⟩
    refine ⟨_, rfl, p, _, rfl, sq, rfl, _, _, rfl, _, _, rfl, rfl, ?_⟩
    refine ⟨_, rfl, b, dx, _, rfl, e, b, x, h, g, rfl, ra, _, rfl, b, dx, _, rfl, e, b, x, h, g, rfl, ra, _, rfl, b, dx, _, rfl, e, b, x, h, g, rfl, ra, ?_⟩
    refine ⟨_, rfl, b, dx, _, rfl, e, b, x, h, g, rfl, ra, by omega, _, rfl, by show 4 ≤ sizeLine; decide, fun l1 hl1 => ?_⟩
    have et : rowTold x = Str.ofString "mirror row over " ++ x := by
      unfold rowTold
      rw [empty_app]
    rw [et]
    have l16 : (Str.ofString "mirror row over ").length = 16 := by decide +kernel
    have okR : PyData.strOk (Str.ofString "mirror row over " ++ x) = true := strOk_app (by decide +kernel) abc.ok
    have lR : (Str.ofString "mirror row over " ++ x).length ≤ 19 := by rw [app_len, l16]; omega
    have sR : 16 + x.length ≤ sizeLine := by omega
    generalize eR : Str.ofString "mirror row over " ++ x = rt at okR lR ⊢
    have x1 := (Ext.refl H).new hl1 (o := .lst [.str x, .str h, .str g, .str rt])
    have el1 : (upd H l1 (.lst [.str x, .str h, .str g, .str rt])) l1 = some (.lst ([x, h, g, rt].map V.str)) := upd_same
    generalize upd H l1 (.lst [.str x, .str h, .str g, .str rt]) = H1 at x1 el1 ⊢
    refine ⟨_, rfl, _, rfl, _, rfl, _, rfl, _, _, rfl, rfl, by rw [l16]; exact sR, by show 4 ≤ sizeLine; decide, fun l2 hl2 => ?_⟩
    rw [eR]
    have x2 := (Ext.refl H1).new hl2 (o := .lst [.str x, .str h, .str g, .str rt])
    have el2 : (upd H1 l2 (.lst [.str x, .str h, .str g, .str rt])) l2 = some (.lst ([x, h, g, rt].map V.str)) := upd_same
    generalize upd H1 l2 (.lst [.str x, .str h, .str g, .str rt]) = H2 at x2 el2 ⊢
    have ok4 : ∀ k ∈ [x, h, g, rt], PyData.strOk k = true := by
      intro k m
      simp only [List.mem_cons, List.not_mem_nil, or_false] at m
      rcases m with rfl | rfl | rfl | rfl
      · exact abc.ok
      · exact strOk_of abc.ok G.hx
      · exact strOk_of abc.ok G.gx
      · exact okR
    have sh := txt_shaped ok4
    refine ⟨_, _, .lst (SqL.of (x2 _ _ el1)) (dpa_txt _), .lst (SqL.of el2) (dpa_txt _), sh, sh, _, rfl, ?_⟩
    rw [eqvL_self]
    refine iteF ?_
    have x02 := x1.trans x2
    clear x1 x2 el1 el2 hl1 hl2
    -- the guide's letters, one by one
    refine ⟨rfl, _, rfl, by decide, by decide, fun D hD => ?_⟩
    refine lc_range (n := 40) (fun i HX => HX D = some (.lst (((List.range i).map (sgS h g)).map V.str)) ∧ Ext H2 HX) ⟨upd_same, (Ext.refl _).new hD⟩ ?_ ?_
    · rintro i HX hi ⟨e1, k1⟩
      rw [Int.zero_add]
      refine ⟨rfl, _, rfl, _, rfl, p, h, g, i, rfl, sqT_ext (x02.trans k1) sq, Gd0, by omega, _, e1, by rw [List.length_map, List.length_map, List.length_range]; omega, ?_, fun a o z => ?_⟩
      · rw [List.range_succ, List.map_append, List.map_append]
        exact upd_same
      · rw [upd_ne (ne_of_none z hD)]
        exact k1 a o z
    rintro H3 ⟨e1, k1⟩
    have x03 := x02.trans k1
    have sum : (((List.range 40).map (sgS h g)).map (·.length)).sum ≤ ((List.range 40).map (sgS h g)).length := sum_ones _ fun y my => by
      obtain ⟨i, _, rfl⟩ := List.mem_map.mp my
      exact Nat.le_refl _
    have c40 : ((List.range 40).map (sgS h g)).length = 40 := by rw [List.length_map, List.length_range]
    refine ⟨_, D, (List.range 40).map (sgS h g), rfl, rfl, .inl (SqL.of e1), by rw [len_zero]; omega, ?_⟩
    rw [shown_guide gl]
    have l40 : (guideF h g 40).length = 40 := guide_len gl 40
    have g7 : cutS (guideF h g 40) none (some ((7 : Nat) : Int)) = guideF h g 7 := guide_take gl (by decide)
    have g0 : guideF h g 0 = Str.ofString "" := by
      apply cs_inj
      rw [guide_cs gl]
      rfl
    have e3 := x03 _ _ e
    refine ⟨_, rfl, b, dx, _, rfl, e3, rfl, b, x, h, g, 40, rfl, ra.ext x03, rw0, by decide, fun H4 k4 => ⟨_, rfl, rfl, _, rfl, ?_⟩⟩
    rw [decide_eq_true rfl]
    refine iteF ?_
    have x04 := x03.trans k4
    refine ⟨_, rfl, b, dx, _, rfl, x04 _ _ e, rfl, b, x, h, g, 7, rfl, ra.ext x04, rw0, by decide, fun H5 k5 => ⟨_, rfl, _, rfl, guideF h g 40, rfl, by omega, rfl, _, rfl, ?_⟩⟩
    show if (!decide (V.str (guideF h g 7) = V.str (cutS (guideF h g 40) none (some ((7 : Nat) : Int))))) = true then _ else _
    rw [g7, decide_eq_true rfl]
    refine iteF ?_
    have x05 := x04.trans k5
    refine ⟨_, rfl, b, dx, _, rfl, x05 _ _ e, rfl, b, x, h, g, 0, rfl, ra.ext x05, rw0, by decide, fun H6 k6 => ⟨rfl, _, rfl, ?_⟩⟩
    show if (!decide (V.str (guideF h g 0) = V.str (Str.ofString ""))) = true then _ else _
    rw [g0, decide_eq_true rfl]
    refine iteF ?_
    have x06 := x05.trans k6
    -- the beginning
    obtain ⟨N, n1, n2, n3⟩ := least_T (lw h g) 120
    refine ⟨_, rfl, p, h, g, 120, N, rfl, sqT_ext x06 sq, Gd0, n3, n2, by decide, fun z H7 k7 ez => ?_⟩
    rw [beg_at n2] at ez
    have x07 := x06.trans k7
    have lz : z.length = 120 := by rw [← cs_len, ez, beg_len]
    refine ⟨_, rfl, b, dx, _, rfl, x07 _ _ e, rfl, b, x, h, g, 120, rfl, ra.ext x07, rw0, by decide, fun z1 H8 k8 e8 => ⟨_, rfl, rfl, _, rfl, ?_⟩⟩
    rw [show z1 = z from cs_inj (e8.trans ez.symm), decide_eq_true rfl]
    have x08 := x07.trans k8
    refine iteT ⟨_, rfl, b, dx, _, rfl, x08 _ _ e, rfl, b, x, h, g, 33, rfl, ra.ext x08, rw0, by decide, fun z2 H9 k9 e9 => ⟨_, rfl, _, rfl, z, rfl, by omega, rfl, _, rfl, ?_⟩⟩
    have c33 : cutS z none (some ((33 : Nat) : Int)) = z2 := cs_inj (by rw [XFd.cut_to, ez, beg_take _ (by decide), e9])
    show if decide (V.str z2 = V.str (cutS z none (some ((33 : Nat) : Int)))) = true then _ else _
    rw [c33, decide_eq_true rfl]
    have x09 := x08.trans k9
    refine iteT ⟨_, rfl, b, dx, _, rfl, x09 _ _ e, rfl, b, x, h, g, 0, rfl, ra.ext x09, rw0, by decide, fun z3 HA kA eA => ⟨rfl, ?_⟩⟩
    rw [show z3 = Str.ofString "" from beg_nil eA]
    show Q (.bl (decide (V.str (Str.ofString "") = V.str (Str.ofString "")))) HA
    rw [decide_eq_true rfl]
    exact q _ (x09.trans kA)
end
end B73

/-! two rows, and where they part -/
namespace B73
open PySem PySem.Spec PyProof.Rows L2 XSt NX XB XE XPl XFd XTs XNil XMe
open PySem.W (Frag)
abbrev sPair : Stmt := top 43
theorem nf_self {K : Frag} {C : Addr} : PySem.W.notFirst K C (.ref C) = true := by simp [PySem.W.notFirst]
def spPair (K : Frag) : Sp := fun vs H Q _ => ∃ (x : Str) (p q : Addr) (h g h' g' : Str), vs = [.str x, .ref p, .ref q] ∧ Abc x ∧ SqT K H p [.str h, .str g] ∧ SqT K H q [.str h', .str g'] ∧ Gx x h g ∧ Gx x h' g' ∧ ∀ H', Ext H H' → Q (.bl true) H'
theorem made_ext {H H' : Hp} {b dx : Addr} {o1 o2 : HO} (hb : H b = none) (hd : H dx = none) (k : ∀ c o, c ≠ b → (upd (upd H dx o1) b o2) c = some o → H' c = some o) : Ext H H' := fun a o e => by
  have n1 := ne_of_none e hb
  have n2 := ne_of_none e hd
  exact k a o n1 (by rw [upd_ne n1, upd_ne n2]; exact e)
theorem T_len7 (w : Nat → Nat) : ∀ k, k ≤ 7 → (T w k).length + 2 ≤ 2 ^ (k + 1)
  | 0, _ => by
    show 0 + 2 ≤ 2 ^ 1
    decide
  | k + 1, h => by
    have ih := T_len7 w k (by omega)
    have z := mc_len (T w k ++ [w k])
    rw [List.length_append, List.length_singleton] at z
    have z : (T w (k + 1)).length ≤ 2 * ((T w k).length + 1) := z
    rw [Nat.pow_succ]
    omega
theorem T_200 (w : Nat → Nat) {k : Nat} (h : k ≤ 7) : (T w k).length ≤ 254 := by
  have a := T_len7 w k h
  have b : 2 ^ (k + 1) ≤ 2 ^ 8 := Nat.pow_le_pow_right (by decide) (by omega)
  have c : 2 ^ 8 = 256 := by decide
  omega
/-- the letter after a whole beginning -/
theorem beg_next (w : Nat → Nat) (k : Nat) : beg w ((T w k).length + 1) = T w k ++ [w k] := by
  have p := T_next w k
  have l : (T w k ++ [w k]).length = (T w k).length + 1 := by rw [List.length_append]; rfl
  rw [← beg_at (n := k + 1) (by rw [← l]; exact p.length_le), ← l]
  exact (List.prefix_iff_eq_take.mp p).symm
theorem beg_T (w : Nat → Nat) (k : Nat) : beg w (T w k).length = T w k := by
  rw [← beg_at (Nat.le_refl _), List.take_length]
theorem at_end {z : Str} {l : List Nat} {c : Nat} (e : cs z = l ++ [c]) : atI z.cps.toList (-1) = some c := by
  have e : z.cps.toList = l ++ [c] := e
  rw [e]
  exact atI_last _ _
theorem guide_end {h g : Str} (g1 : 1 ≤ g.length) (n : Nat) : atI (guideF h g (n + 1)).cps.toList (-1) = some (lw h g n) := at_end (l := (List.range n).map (lw h g)) (by rw [guide_cs g1, List.range_succ, List.map_append]; rfl)
theorem guides_eq {h g h' g' : Str} (G : Gd h g) (G' : Gd h' g') : guideF h g 60 = guideF h' g' 60 ↔ ∀ i, i < 60 → lw h g i = lw h' g' i := by
  constructor
  · intro e i hi
    have z : (cs (guideF h g 60))[i]? = (cs (guideF h' g' 60))[i]? := by rw [e]
    rw [guide_cs G.g1, guide_cs G'.g1, List.getElem?_map, List.getElem?_map, List.getElem?_range hi] at z
    exact Option.some.inj z
  · intro e
    apply cs_inj
    rw [guide_cs G.g1, guide_cs G'.g1]
    exact List.map_congr_left fun i m => e i (List.mem_range.mp m)
theorem lw_in {x h g : Str} (G : Gx x h g) (i : Nat) : lw h g i ∈ cs x := by
  have g1 := G.g1
  unfold lw
  split
  · rename_i c
    rw [List.getD_eq_getElem?_getD, List.getElem?_eq_getElem (by rw [cs_len]; exact c)]
    exact G.hx _ (List.getElem_mem _)
  · have m : (i - h.length) % g.length < (cs g).length := by
      rw [cs_len]
      exact Nat.mod_lt _ (by omega)
    rw [List.getD_eq_getElem?_getD, List.getElem?_eq_getElem m]
    exact G.gx _ (List.getElem_mem _)
section
variable {P : Program} {w : World} {K : Frag} {mg : Str → Option Value} {base : Heap} {f C : Addr} {fd : FuncData}
theorem scPair : FnScope ["signs", "one", "two", "first", "second", "spot", "line", "at", "much", "told"] ["signs", "one", "two"] (defScope sPair) := ⟨rfl, rfl, rfl, by decide +kernel, rfl, by decide +kernel, by decide +kernel⟩
theorem ok_pair (F : FnP K "_law_pair_right" sPair f fd) (M : Free mg) (mR : mg "range" = none) (mN : mg "min" = none) (R : RowR P w K mg base C) (DSN : Def P w K mg base CX0 1 "_law_guide_sign" ["guide", "at"] (spSign K)) (DFU : Def P w K mg base CX0 2 "_law_first_unlike" ["one", "two"] (spUnlike K)) (DLC : Def P w K mg base CX0 1 "_law_mirror_close" ["line"] spLawClose) :
    FnOk P w K mg base CX0 8 f fd ["signs", "one", "two"] (spPair K) := by
  have B := R.B
  have gR := R.gR
  obtain ⟨fI, dI, MK, FI, bI⟩ := R.make
  obtain ⟨fST, dST, MST, FST, bST⟩ := R.st
  obtain ⟨fGU, dGU, MGU, FGU, bGU⟩ := R.gu
  obtain ⟨fE, dE, OE, FE, bE⟩ := R.eq
  obtain ⟨ne1, ne2⟩ := R.ne
  obtain ⟨fSN, dSN, FSN, gSN, kSN, bSN⟩ := DSN.ex
  obtain ⟨fFU, dFU, FFU, gFU, kFU, bFU⟩ := DFU.ex
  obtain ⟨fLC, dLC, FLC, gLC, kLC, bLC⟩ := DLC.ex
  refine F.ok scPair (fun vs H Q E h => ?_) (fun cdv A outer s H vs Q E hr h => ?_)
  · obtain ⟨x, p, q, h, g, h', g', rfl, _⟩ := h
    rfl
  · obtain ⟨x, p, p', h, g, h', g', rfl, abc, sq, sq', G, G', q⟩ := h
    have hs : sizeLine = 16777216 := sizeLine_eq
    have rw1 : Rw x h g := ⟨abc, G⟩
    have rw2 : Rw x h' g' := ⟨abc, G'⟩
    refine ⟨_, PSs.nox (pss_cons (ps_par (i := 3) (j := 4) (by rfl) scPair.nd rfl rfl (by decide) rfl rfl (pa_cons (pe_make MK FI (hr.mono (by decide)) (by rfl) gR bI .nil pass0 (pa_cons (pv 0) (pa_cons (pe_ix ix_tup (pv 1) (pe_int) (fun _ _ => rfl)) (pa_cons (pe_ix ix_tup (pv 1) (pe_int) (fun _ _ => rfl)) (pa_nil))))) (pa_cons (pe_make MK FI (hr.mono (by decide)) (by rfl) gR bI .nil pass0 (pa_cons (pv 0) (pa_cons (pe_ix ix_tup (pv 2) (pe_int) (fun _ _ => rfl)) (pa_cons (pe_ix ix_tup (pv 2) (pe_int) (fun _ _ => rfl)) (pa_nil))))) (pa_nil))) (by rfl))
      (pss_cons (ps_set (i := 5) scPair.nd rfl (.inl rfl) (pe_call FFU (hr.mono (by decide)) (by rfl) gFU kFU bFU .nil pass0 (pa_cons (pv 1) (pa_cons (pv 2) (pa_nil)))))
      (pss_cons (ps_if (PW.pt (pw_or (pt_cmpR op_ne (pe_cmpR (op_eqO FE (hr.mono (by decide)) OE bE) (pv 3) (pv 4) (nomark _)) (pe_cmpR op_isN (pv 5) pe_non (nomark _)) (nomark _)) (pw_or1 (pt_cmpR op_eq (pe_cmpR (op_neO FE (hr.mono (by decide)) OE ne1 ne2 bE) (pv 3) (pv 4) (nomark _)) (pe_cmpR op_isN (pv 5) pe_non (nomark _)) (nomark _))))) (pss_one (ps_ret pe_bl)) pss_nil)
      (pss_cons (ps_if (pt_cmpR op_isN (pv 5) pe_non (nomark _)) (pss_one (ps_ret (pe_cmpR op_eq (pe_mG (pv 3) (pa_cons (pe_int) (pa_nil)) B.cls MST FST (hr.mono (by decide)) bST pass0) (pe_mG (pv 4) (pa_cons (pe_int) (pa_nil)) B.cls MST FST (hr.mono (by decide)) bST pass0) (nomark _)))) pss_nil)
      (pss_cons (ps_set (i := 6) scPair.nd rfl (.inl rfl) (pe_str))
      (pss_cons (ps_for PassesOwn.never rfl (pi_range1 (by rfl) mR (pa_cons (pe_callB (call_min2 rfl) (by rfl) mN (by decide +kernel) (pa_cons (pv 5) (pa_cons pe_int pa_nil))) (pa_nil))) (pg_name (i := 7) scPair.nd rfl (.inl rfl)) (pss_one (ps_set (i := 6) scPair.nd rfl (.inl rfl) (pe_call FLC (hr.mono (by decide)) (by rfl) gLC kLC bLC .nil pass0 (pa_cons (pe_op op_addS (pv 6) (pe_call FSN (hr.mono (by decide)) (by rfl) gSN kSN bSN .nil pass0 (pa_cons (pv 1) (pa_cons (pv 7) (pa_nil))))) (pa_nil))))))
      (pss_cons (ps_if (PW.pt (pw_or (pt_cmpR op_gt (pv 5) (pe_int) (nomark _)) (pw_or1 (pt_cmpR op_gt (pe_callB call_len (by rfl) M.len PySem.boot_len (pa_cons (pv 6) pa_nil)) (pe_int) (nomark _))))) (pss_one (ps_ret pe_bl)) pss_nil)
      (pss_cons (ps_set (i := 8) scPair.nd rfl (.inl rfl) (pe_callB call_len (by rfl) M.len PySem.boot_len (pa_cons (pv 6) pa_nil)))
      (pss_cons (ps_if (PW.pt (pw_or (pt_cmpR op_ne (pe_mG (pv 3) (pa_cons (pv 8) (pa_nil)) B.cls MST FST (hr.mono (by decide)) bST pass0) (pv 6) (nomark _)) (pw_or1 (pt_cmpR op_ne (pe_mG (pv 4) (pa_cons (pv 8) (pa_nil)) B.cls MST FST (hr.mono (by decide)) bST pass0) (pv 6) (nomark _))))) (pss_one (ps_ret pe_bl)) pss_nil)
      (pss_cons (ps_set (i := 9) scPair.nd rfl (.inl rfl) ((pe_lst (pa_cons (pe_ix ix_str (pe_mG (pv 3) (pa_cons (pe_op op_add (pv 8) (pe_int)) (pa_nil)) B.cls MST FST (hr.mono (by decide)) bST pass0) (pe_un un_neg pe_int) (fun _ _ => rfl)) (pa_cons (pe_ix ix_str (pe_mG (pv 4) (pa_cons (pe_op op_add (pv 8) (pe_int)) (pa_nil)) B.cls MST FST (hr.mono (by decide)) bST pass0) (pe_un un_neg pe_int) (fun _ _ => rfl)) (pa_nil))))))
      (pss_one (ps_ret (pe_cmpR (op_eqD hr.units) (pv 9) ((pe_lst (pa_cons (pe_ix ix_str (pe_mG (pv 3) (pa_cons (pe_op op_add (pv 5) (pe_int)) (pa_nil)) B.cls MGU FGU (hr.mono (by decide)) bGU pass0) (pe_un un_neg pe_int) (fun _ _ => rfl)) (pa_cons (pe_ix ix_str (pe_mG (pv 4) (pa_cons (pe_op op_add (pv 5) (pe_int)) (pa_nil)) B.cls MGU FGU (hr.mono (by decide)) bGU pass0) (pe_un un_neg pe_int) (fun _ _ => rfl)) (pa_nil))))) (nomark _)))))))))))))), ?_⟩
    refine ⟨_, rfl, _, rfl, p, _, _, _, rfl, rfl, sq, atI_nat (j := 0) rfl, _, rfl, p, _, _, _, rfl, rfl, sq, atI_nat (j := 1) rfl, fun b1 d1 hb1 hd1 nd1 => ?_⟩
    refine ⟨b1, d1, x, h, g, rfl, upd_same, rw1, fun H1 keep1 ra1 => ⟨rfl, ?_⟩⟩
    have x1 := made_ext hb1 hd1 keep1
    refine ⟨_, rfl, _, rfl, p', _, _, _, rfl, rfl, sqT_ext x1 sq', atI_nat (j := 0) rfl, _, rfl, p', _, _, _, rfl, rfl, sqT_ext x1 sq', atI_nat (j := 1) rfl, fun b2 d2 hb2 hd2 nd2 => ?_⟩
    refine ⟨b2, d2, x, h', g', rfl, upd_same, rw2, fun H2 keep2 ra2 => ⟨rfl, _, _, rfl, ?_⟩⟩
    have x12 := made_ext hb2 hd2 keep2
    have x2 := x1.trans x12
    replace ra1 := ra1.ext x12
    obtain ⟨dx1, e1⟩ := id ra1
    obtain ⟨dx2, e2⟩ := id ra2
    refine ⟨_, rfl, _, rfl, p, p', h, g, h', g', rfl, sqT_ext x2 sq, sqT_ext x2 sq', G.gd, G'.gd, fun all H3 k3 => ?_, fun i hi unl same H3 k3 => ?_⟩
    · have allw := lw_agree G.lh G.g1 G.g20 G'.lh G'.g1 G'.g20 all
      have x3 := x2.trans k3
      have eqg : (decide (x = x) && decide (guideF h g 60 = guideF h' g' 60)) = true := by
        rw [decide_eq_true rfl, decide_eq_true ((guides_eq G.gd G'.gd).mpr all)]
        rfl
      have r1 := ra1.ext k3
      have r2 := ra2.ext k3
      have ty := r2.ty (K := K) B
      refine ⟨_, rfl, _, rfl, b1, dx1, _, .ref C, rfl, k3 _ _ e1, ty, nf_self, b1, x, h, g, .ref b2, rfl, r1, G.gd, .inr ⟨b2, x, h', g', rfl, r2, G'.gd, _, rfl, ?_⟩⟩
      rw [eqg]
      refine ⟨_, rfl, rfl, rfl, _, rfl, ?_⟩
      refine iteF ?_
      refine ⟨_, rfl, _, rfl, b1, dx1, _, .ref C, rfl, k3 _ _ e1, ty, nf_self, b1, x, h, g, .ref b2, rfl, r1, G.gd, .inr ⟨b2, x, h', g', rfl, r2, G'.gd, _, rfl, ?_⟩⟩
      rw [eqg]
      refine ⟨_, rfl, rfl, rfl, _, rfl, ?_⟩
      refine iteF ?_
      refine ⟨_, rfl, rfl, _, rfl, iteT ?_⟩
      refine ⟨_, rfl, b1, dx1, _, rfl, k3 _ _ e1, rfl, b1, x, h, g, 300, rfl, r1, rw1, by decide, fun z1 H4 k4 ez1 => ?_⟩
      refine ⟨_, rfl, b2, dx2, _, rfl, k4 _ _ (k3 _ _ e2), rfl, b2, x, h', g', 300, rfl, r2.ext k4, rw2, by decide, fun z2 H5 k5 ez2 => ⟨rfl, ?_⟩⟩
      rw [show z1 = z2 from cs_inj (by rw [ez1, ez2, beg_same allw])]
      rw [decide_eq_true rfl]
      exact q _ ((x3.trans k4).trans k5)
    · have x3 := x2.trans k3
      have eqg : (decide (x = x) && decide (guideF h g 60 = guideF h' g' 60)) = false := by
        rw [decide_eq_false fun z => unl ((guides_eq G.gd G'.gd).mp z i hi), Bool.and_false]
      have isn : decide (V.int (i : Int) = V.non) = false := decide_eq_false fun z => by cases z
      have r1 := ra1.ext k3
      have r2 := ra2.ext k3
      have ty := r2.ty (K := K) B
      refine ⟨_, rfl, _, rfl, b1, dx1, _, .ref C, rfl, k3 _ _ e1, ty, nf_self, b1, x, h, g, .ref b2, rfl, r1, G.gd, .inr ⟨b2, x, h', g', rfl, r2, G'.gd, _, rfl, ?_⟩⟩
      rw [eqg]
      refine ⟨_, rfl, rfl, ?_⟩
      rw [isn]
      refine ⟨rfl, _, rfl, iteF ?_⟩
      refine ⟨_, rfl, _, rfl, b1, dx1, _, .ref C, rfl, k3 _ _ e1, ty, nf_self, b1, x, h, g, .ref b2, rfl, r1, G.gd, .inr ⟨b2, x, h', g', rfl, r2, G'.gd, _, rfl, ?_⟩⟩
      rw [eqg]
      refine ⟨_, rfl, rfl, ?_⟩
      rw [isn]
      refine ⟨rfl, _, rfl, iteF ?_⟩
      refine ⟨_, rfl, rfl, _, rfl, ?_⟩
      rw [isn]
      refine iteF ?_
      refine ⟨_, rfl, _, _, rfl, _, rfl, ?_⟩
      by_cases c : (7 : Int) < (i : Int)
      · rw [if_pos c]
        refine ⟨by decide, by decide, ?_⟩
        refine for_range (n := 7) (fun k σ HX => ∃ z o7 o8 o9, σ = [some (.str x), some (.ref p), some (.ref p'), some (.ref b1), some (.ref b2), some (.int (i : Int)), some (.str z), o7, o8, o9] ∧ cs z = T (lw h g) k ∧ HX = H3) ⟨Str.ofString "", _, _, _, rfl, by show cs (Str.ofString "") = []; decide +kernel, rfl⟩ ?_ ?_
        · rintro k σ HX hk ⟨z, o7, o8, o9, rfl, ez, rfl⟩
          rw [Int.zero_add]
          have k7 : k ≤ 7 := by omega
          have lz : z.length ≤ 254 := by
            rw [← cs_len, ez]
            exact T_200 _ k7
          refine ⟨_, rfl, _, rfl, _, rfl, p, h, g, k, rfl, sqT_ext x3 sq, G.gd, by omega, _, _, rfl, rfl, by show z.length + 1 ≤ sizeLine; omega, _, rfl, by rw [app_len]; show z.length + 1 ≤ 8001; omega, ?_⟩
          refine ⟨_, _, _, _, rfl, ?_, rfl⟩
          rw [cs_mcS, cs_app, ez]
          rfl
        rintro σ HX ⟨z, o7, o8, o9, rfl, ez, rfl⟩
        refine ⟨_, rfl, _, _, rfl, rfl, _, rfl, ?_⟩
        rw [decide_eq_true c]
        exact iteT (iteT (q _ x3))
      · rw [if_neg c]
        refine ⟨by omega, by omega, ?_⟩
        refine for_range (n := i) (fun k σ HX => ∃ z o7 o8 o9, σ = [some (.str x), some (.ref p), some (.ref p'), some (.ref b1), some (.ref b2), some (.int (i : Int)), some (.str z), o7, o8, o9] ∧ cs z = T (lw h g) k ∧ HX = H3) ⟨Str.ofString "", _, _, _, rfl, by show cs (Str.ofString "") = []; decide +kernel, rfl⟩ ?_ ?_
        · rintro k σ HX hk ⟨z, o7, o8, o9, rfl, ez, rfl⟩
          rw [Int.zero_add]
          have k7 : k ≤ 7 := by omega
          have lz : z.length ≤ 254 := by
            rw [← cs_len, ez]
            exact T_200 _ k7
          refine ⟨_, rfl, _, rfl, _, rfl, p, h, g, k, rfl, sqT_ext x3 sq, G.gd, by omega, _, _, rfl, rfl, by show z.length + 1 ≤ sizeLine; omega, _, rfl, by rw [app_len]; show z.length + 1 ≤ 8001; omega, ?_⟩
          refine ⟨_, _, _, _, rfl, ?_, rfl⟩
          rw [cs_mcS, cs_app, ez]
          rfl
        rintro σ HX ⟨z, o7, o8, o9, rfl, ez, rfl⟩
        have i7 : i ≤ 7 := by omega
        have ez : cs z = T (lw h g) i := ez
        have lz : z.length ≤ 254 := by
          rw [← cs_len, ez]
          exact T_200 _ i7
        have lT : z.length = (T (lw h g) i).length := by rw [← cs_len, ez]
        have eT : T (lw h' g') i = T (lw h g) i := T_same fun k hk => (same k hk).symm
        refine ⟨_, rfl, _, _, rfl, rfl, _, rfl, ?_⟩
        rw [decide_eq_false c]
        refine iteF ⟨_, rfl, _, z.length, rfl, ⟨by omega, rfl⟩, _, _, rfl, rfl, _, rfl, ?_⟩
        rw [decide_eq_false (show ¬ (3000 : Int) < (z.length : Int) by omega)]
        refine iteF ⟨_, rfl, _, z.length, rfl, ⟨by omega, rfl⟩, ?_⟩
        refine ⟨_, rfl, b1, dx1, _, rfl, k3 _ _ e1, rfl, _, rfl, b1, x, h, g, z.length, rfl, r1, rw1, by omega, fun z1 H4 k4 ez1 => ⟨_, rfl, rfl, _, rfl, ?_⟩⟩
        rw [show z1 = z from cs_inj (by rw [ez1, lT, beg_T, ez])]
        show if (!decide (V.str z = V.str z)) = true then _ else _
        rw [decide_eq_true rfl]
        have x4 := k3.trans k4
        refine iteF ⟨_, rfl, b2, dx2, _, rfl, x4 _ _ e2, rfl, _, rfl, b2, x, h', g', z.length, rfl, ra2.ext x4, rw2, by omega, fun z2 H5 k5 ez2 => ⟨_, rfl, rfl, _, rfl, ?_⟩⟩
        rw [show z2 = z from cs_inj (by rw [ez2, lT, ← eT, beg_T, eT, ez])]
        show if (!decide (V.str z = V.str z)) = true then _ else _
        rw [decide_eq_true rfl]
        have x5 := x4.trans k5
        refine iteF ⟨_, rfl, b1, dx1, _, rfl, x5 _ _ e1, rfl, _, rfl, _, _, rfl, rfl, b1, x, h, g, z.length + 1, rfl, ra1.ext x5, rw1, by omega, fun z3 H6 k6 ez3 => ?_⟩
        have a3 : atI z3.cps.toList (-1) = some (lw h g i) := at_end (by rw [ez3, lT, beg_next])
        have l3 : z3.length ≤ 4000 := by rw [← cs_len, ez3, beg_len]; omega
        refine ⟨_, rfl, z3, _, _, rfl, rfl, by omega, a3, ?_⟩
        have x6 := x5.trans k6
        refine ⟨_, rfl, b2, dx2, _, rfl, x6 _ _ e2, rfl, _, rfl, _, _, rfl, rfl, b2, x, h', g', z.length + 1, rfl, ra2.ext x6, rw2, by omega, fun z4 H7 k7 ez4 => ?_⟩
        have a4 : atI z4.cps.toList (-1) = some (lw h' g' i) := at_end (by rw [ez4, lT, ← eT, beg_next])
        have l4 : z4.length ≤ 4000 := by rw [← cs_len, ez4, beg_len]; omega
        have x7 := x6.trans k7
        refine ⟨_, rfl, z4, _, _, rfl, rfl, by omega, a4, by show 2 ≤ sizeLine; decide, fun m1 hm1 => ?_⟩
        have x8 := x7.new hm1 (o := .lst [.str ⟨#[lw h g i]⟩, .str ⟨#[lw h' g' i]⟩])
        have em1 : (upd H7 m1 (.lst [.str ⟨#[lw h g i]⟩, .str ⟨#[lw h' g' i]⟩])) m1 = some (.lst ([⟨#[lw h g i]⟩, ⟨#[lw h' g' i]⟩].map V.str)) := upd_same
        generalize upd H7 m1 (.lst [.str ⟨#[lw h g i]⟩, .str ⟨#[lw h' g' i]⟩]) = H8 at x8 em1 ⊢
        have m5 : guideF h g (i + 1) = guideF h g (i + 1) := rfl
        refine ⟨_, rfl, _, rfl, b1, dx1, _, rfl, x8 _ _ e1, rfl, _, rfl, _, _, rfl, rfl, b1, x, h, g, i + 1, rfl, ra1.ext x8, rw1, by omega, fun H9 k9 => ?_⟩
        have l5 : (guideF h g (i + 1)).length = i + 1 := guide_len G.g1 _
        have l6 : (guideF h' g' (i + 1)).length = i + 1 := guide_len G'.g1 _
        refine ⟨_, rfl, _, _, _, rfl, rfl, by omega, guide_end G.g1 i, ?_⟩
        have x9 := x8.trans k9
        refine ⟨_, rfl, b2, dx2, _, rfl, x9 _ _ e2, rfl, _, rfl, _, _, rfl, rfl, b2, x, h', g', i + 1, rfl, ra2.ext x9, rw2, by omega, fun HA kA => ?_⟩
        have xA := x9.trans kA
        refine ⟨_, rfl, _, _, _, rfl, rfl, by omega, guide_end G'.g1 i, by show 2 ≤ sizeLine; decide, fun m2 hm2 => ?_⟩
        have xB := xA.new hm2 (o := .lst [.str ⟨#[lw h g i]⟩, .str ⟨#[lw h' g' i]⟩])
        have em2 : (upd HA m2 (.lst [.str ⟨#[lw h g i]⟩, .str ⟨#[lw h' g' i]⟩])) m2 = some (.lst ([⟨#[lw h g i]⟩, ⟨#[lw h' g' i]⟩].map V.str)) := upd_same
        have em3 := ((Ext.refl HA).new hm2 (o := .lst [.str ⟨#[lw h g i]⟩, .str ⟨#[lw h' g' i]⟩])) _ _ (kA _ _ (k9 _ _ em1))
        generalize upd HA m2 (.lst [.str ⟨#[lw h g i]⟩, .str ⟨#[lw h' g' i]⟩]) = HB at xB em2 em3 ⊢
        have ok2 : ∀ k ∈ ([⟨#[lw h g i]⟩, ⟨#[lw h' g' i]⟩] : List Str), PyData.strOk k = true := by
          intro k m
          simp only [List.mem_cons, List.not_mem_nil, or_false] at m
          rcases m with rfl | rfl
          · exact strOk_of abc.ok fun d md => by
              rw [List.mem_singleton.mp (show d ∈ [lw h g i] from md)]
              exact lw_in G i
          · exact strOk_of abc.ok fun d md => by
              rw [List.mem_singleton.mp (show d ∈ [lw h' g' i] from md)]
              exact lw_in G' i
        have sh := txt_shaped ok2
        refine ⟨_, _, .lst (SqL.of em3) (dpa_txt _), .lst (SqL.of em2) (dpa_txt _), sh, sh, ?_⟩
        rw [eqvL_self]
        exact q _ (x2.trans xB)
end
end B73

/-! one drawn row -/
namespace B73
open PySem PySem.Spec PyProof.Rows L2 XSt NX XB XE XPl XFd XTs XNil XMe
open PySem.W (Frag)
abbrev sRight : Stmt := top 44
def spRight : Sp := fun vs H Q _ => ∃ j, vs = [.ref j] ∧ JugAt H j ∧ ∀ H', Kj j H H' → Q (.bl true) H'
theorem RowAt.kj {H H' : Hp} {j b C : Addr} {x h g : Str} (k : Kj j H H') (n : b ≠ j) (r : RowAt H b C x h g) : RowAt H' b C x h g := by
  obtain ⟨dx, e⟩ := r
  exact ⟨dx, k.1 _ _ n e⟩
section
variable {P : Program} {w : World} {K : Frag} {mg : Str → Option Value} {base : Heap} {f C : Addr} {fd : FuncData}
theorem scRight : FnScope ["jug", "signs", "one", "two", "made", "near", "odd", "value"] ["jug"] (defScope sRight) := ⟨rfl, rfl, rfl, by decide +kernel, rfl, by decide +kernel, by decide +kernel⟩
theorem ok_right (F : FnP K "_law_right" sRight f fd) (M : Free mg) (R : RowR P w K mg base C) (DSi : Def P w K mg base CX0 3 "_law_signs" ["jug"] spSigns) (DG : Def P w K mg base CX0 3 "_law_guide" ["jug", "signs"] spGuide) (DIT : Def P w K mg base CX0 5 "_law_is_told" ["row", "signs", "guide"] (spIsTold K C))
    (DPR : Def P w K mg base CX0 8 "_law_pair_right" ["signs", "one", "two"] (spPair K)) (DOT : Def P w K mg base CX0 2 "_law_other_telling" ["jug", "guide"] (spTelling K)) (DP : Def P w K mg base CX0 2 "_law_pick" ["jug", "items"] (spPickS K)) (DCR : Def P w K mg base CX0 6 "_law_close_right" ["jug", "signs"] spCloseRight) :
    FnOk P w K mg base CX0 9 f fd ["jug"] spRight := by
  have B := R.B
  have gR := R.gR
  obtain ⟨fI, dI, MK, FI, bI⟩ := R.make
  obtain ⟨fST, dST, MST, FST, bST⟩ := R.st
  obtain ⟨fE, dE, OE, FE, bE⟩ := R.eq
  obtain ⟨fSi, dSi, FSi, gSi, kSi, bSi⟩ := DSi.ex
  obtain ⟨fG, dG, FG, gG, kG, bG⟩ := DG.ex
  obtain ⟨fIT, dIT, FIT, gIT, kIT, bIT⟩ := DIT.ex
  obtain ⟨fPR, dPR, FPR, gPR, kPR, bPR⟩ := DPR.ex
  obtain ⟨fOT, dOT, FOT, gOT, kOT, bOT⟩ := DOT.ex
  obtain ⟨fP, dP, FP, gP, kP, bP⟩ := DP.ex
  obtain ⟨fCR, dCR, FCR, gCR, kCR, bCR⟩ := DCR.ex
  refine F.ok scRight (fun vs H Q E h => ?_) (fun cdv A outer s H vs Q E hr h => ?_)
  · obtain ⟨j, rfl, _⟩ := h
    rfl
  · obtain ⟨j, rfl, hj, q⟩ := h
    have hs : sizeLine = 16777216 := sizeLine_eq
    refine ⟨_, PSs.nox (pss_cons (ps_set (i := 1) scRight.nd rfl (.inl rfl) (pe_call FSi (hr.mono (by decide)) (by rfl) gSi kSi bSi .nil pass0 (pa_cons (pv 0) (pa_nil))))
      (pss_cons (ps_par (i := 2) (j := 3) (by rfl) scRight.nd rfl rfl (by decide) rfl rfl (pa_cons (pe_call FG (hr.mono (by decide)) (by rfl) gG kG bG .nil pass0 (pa_cons (pv 0) (pa_cons (pv 1) (pa_nil)))) (pa_cons (pe_call FG (hr.mono (by decide)) (by rfl) gG kG bG .nil pass0 (pa_cons (pv 0) (pa_cons (pv 1) (pa_nil)))) (pa_nil))) (by rfl))
      (pss_cons (ps_set (i := 4) scRight.nd rfl (.inr rfl) (pe_make MK FI (hr.mono (by decide)) (by rfl) gR bI .nil pass0 (pa_cons (pv 1) (pa_cons (pe_ix ix_tup (pv 2) (pe_int) (fun _ _ => rfl)) (pa_cons (pe_ix ix_tup (pv 2) (pe_int) (fun _ _ => rfl)) (pa_nil))))))
      (pss_cons (ps_if (PW.pt (pw_or (pt_not (pt_val (pe_call FIT (hr.mono (by decide)) (by rfl) gIT kIT bIT .nil pass0 (pa_cons (pv 4) (pa_cons (pv 1) (pa_cons (pv 2) (pa_nil))))))) (pw_or1 (pt_not (pt_val (pe_call FIT (hr.mono (by decide)) (by rfl) gIT kIT bIT .nil pass0 (pa_cons (pv 4) (pa_cons (pv 1) (pa_cons (pv 2) (pa_nil)))))))))) (pss_one (ps_ret pe_bl)) pss_nil)
      (pss_cons (ps_if (PW.pt (pw_or (pt_not (pt_val (pe_call FPR (hr.mono (by decide)) (by rfl) gPR kPR bPR .nil pass0 (pa_cons (pv 1) (pa_cons (pv 2) (pa_cons (pe_call FOT (hr.mono (by decide)) (by rfl) gOT kOT bOT .nil pass0 (pa_cons (pv 0) (pa_cons (pv 2) (pa_nil)))) (pa_nil))))))) (pw_or1 (pt_not (pt_val (pe_call FPR (hr.mono (by decide)) (by rfl) gPR kPR bPR .nil pass0 (pa_cons (pv 1) (pa_cons (pv 2) (pa_cons (pv 3) (pa_nil)))))))))) (pss_one (ps_ret pe_bl)) pss_nil)
      (pss_cons (ps_set (i := 5) scRight.nd rfl (.inl rfl) ((pe_tup (pa_cons (pe_op op_addS (pe_ix ix_tup (pv 2) (pe_int) (fun _ _ => rfl)) (pe_call FP (hr.mono (by decide)) (by rfl) gP kP bP .nil pass0 (pa_cons (pv 0) (pa_cons (pv 1) (pa_nil))))) (pa_cons (pe_ix ix_tup (pv 2) (pe_int) (fun _ _ => rfl)) (pa_nil))))))
      (pss_cons (ps_set (i := 6) scRight.nd rfl (.inl rfl) ((pe_lst (pa_cons (pe_non) (pa_cons (pe_int) (pa_cons (pe_mG (pv 4) (pa_cons (pe_int) (pa_nil)) B.cls MST FST (hr.mono (by decide)) bST pass0) (pa_cons ((pe_lst (pa_cons (pv 4) (pa_nil)))) (pa_nil))))))))
      (pss_cons (ps_if (PW.pt (pw_or (pt_not (pt_val (pe_call FPR (hr.mono (by decide)) (by rfl) gPR kPR bPR .nil pass0 (pa_cons (pv 1) (pa_cons (pv 2) (pa_cons (pv 5) (pa_nil))))))) (pw_or1 (pt_cmpR (op_neE hr.units) (pe_lc (own := [("value", 7)]) (g := gName 7) (tt := tTest (tOp (rEqO K C (spRowEq K C) fun b => b) (tVar 4) (tVar 7))) (te := tVar 7) rfl scRight.nd (pi_list (pv 6)) (blkOk_by (N := ["jug", "signs", "one", "two", "made", "near", "odd", "value"]) (sc := defScope sRight) (by decide +kernel)) (fun _ _ _ _ _ => pg_name (i := 7) scRight.nd rfl (Or.inl rfl)) (fun _ _ _ _ _ => by exact pts_one (pt_cmpR (op_eqO FE (hr.mono (by decide)) OE bE) (pv 4) (pv 7) (nomark _))) (fun _ _ _ _ _ => by exact pv 7)) (pe_lst pa_nil) (nomark _))))) (pss_one (ps_ret pe_bl)) pss_nil)
      (pss_one (ps_ret (pe_and (pe_call FCR (hr.mono (by decide)) (by rfl) gCR kCR bCR .nil pass0 (pa_cons (pv 0) (pa_cons (pv 1) (pa_nil)))) (pe_one (pe_call FCR (hr.mono (by decide)) (by rfl) gCR kCR bCR .nil pass0 (pa_cons (pv 0) (pa_cons (pv 1) (pa_nil)))))))))))))))), ?_⟩
    refine ⟨_, rfl, j, rfl, hj, fun x H1 mx k1 => ?_⟩
    have abc := four_abc x mx
    have x1 := abc.one
    have x3 := abc.few
    refine ⟨_, rfl, _, rfl, j, x, rfl, k1.2, x1, x3, fun p h g H2 hp k2 ep G h3 g4 => ?_⟩
    refine ⟨_, rfl, _, rfl, j, x, rfl, k2.2, x1, x3, fun p' h' g' H3 hp' k3 ep' G' _ _ => ⟨_, _, rfl, ?_⟩⟩
    have np := jug_none k1.2 hp
    have np' := jug_none k2.2 hp'
    have ep3 := k3.1 _ _ np ep
    have k03 := (k1.trans k2).trans k3
    have rw1 : Rw x h g := ⟨abc, G⟩
    -- the row
    refine ⟨_, rfl, _, rfl, p, _, _, _, rfl, rfl, SqT.of ep3, atI_nat (j := 0) rfl, _, rfl, p, _, _, _, rfl, rfl, SqT.of ep3, atI_nat (j := 1) rfl, fun b d hb hd nd => ?_⟩
    have nb := jug_none k3.2 hb
    refine ⟨b, d, x, h, g, rfl, upd_same, rw1, fun H4 keep4 ra4 => ⟨rfl, ?_⟩⟩
    have x4 := made_ext hb hd keep4
    have k04 := k03.ext x4
    have sq4 : SqT K H4 p [.str h, .str g] := SqT.of (x4 _ _ ep3)
    -- what it tells
    refine ⟨_, rfl, _, rfl, _, rfl, b, p, x, h, g, rfl, ra4, rw1, sq4, fun H5 k5 => ⟨_, rfl, iteF ?_⟩⟩
    refine ⟨_, rfl, _, rfl, _, rfl, b, p, x, h, g, rfl, ra4.ext k5, rw1, sqT_ext k5 sq4, fun H6 k6 => ⟨_, rfl, iteF ?_⟩⟩
    have k46 := k5.trans k6
    have k06 := k04.ext k46
    have sq6 := sqT_ext k46 sq4
    -- another telling, another guide
    refine ⟨_, rfl, _, rfl, _, rfl, _, rfl, j, p, x, h, g, rfl, k06.2, sq6, G, h3, g4, fun q7 h7 g7 H7 hq7 k7 e7 G7 same7 => ?_⟩
    have sq7 := k7.sqT np sq6
    refine ⟨x, p, q7, h, g, h7, g7, rfl, abc, sq7, SqT.of e7, G, G7, fun H8 k8 => ⟨_, rfl, iteF ?_⟩⟩
    have ep8 : H8 p' = some (.tup [.str h', .str g']) := k8 _ _ (k7.1 _ _ np' (k46 _ _ (x4 _ _ ep')))
    refine ⟨_, rfl, _, rfl, _, rfl, x, p, p', h, g, h', g', rfl, abc, sqT_ext k8 sq7, SqT.of ep8, G, G', fun H9 k9 => ⟨_, rfl, iteF ?_⟩⟩
    have k09 := ((k06.trans k7).ext k8).ext k9
    have sq9 := sqT_ext k9 (sqT_ext k8 sq7)
    have ra9 := ((RowAt.kj k7 nb (ra4.ext k46)).ext k8).ext k9
    -- a guide with one letter more
    refine ⟨_, rfl, p, _, _, _, rfl, rfl, sq9, atI_nat (j := 0) rfl, _, rfl, _, rfl, j, .str x, rfl, k09.2, .inr ⟨x, rfl, x1, by omega, fun c HA mc kA => ?_⟩⟩
    have mc : c ∈ cs x := mc
    have sqA := kA.sqT np sq9
    refine ⟨_, _, rfl, rfl, by show h.length + 1 ≤ sizeLine; omega, _, rfl, p, _, _, _, rfl, rfl, sqA, atI_nat (j := 1) rfl, by show 2 ≤ sizeLine; decide, fun t ht => ?_⟩
    have kt := (k09.trans kA)
    have xt := (Ext.refl HA).new ht (o := .tup [.str (h ++ ⟨#[c]⟩), .str g])
    have et : (upd HA t (.tup [.str (h ++ ⟨#[c]⟩), .str g])) t = some (.tup [.str (h ++ ⟨#[c]⟩), .str g]) := upd_same
    generalize upd HA t (.tup [.str (h ++ ⟨#[c]⟩), .str g]) = HB at xt et ⊢
    have kB := kt.ext xt
    have GN : Gx x (h ++ ⟨#[c]⟩) g := ⟨fun d m => by
      rw [cs_app] at m
      rcases List.mem_append.mp m with m | m
      · exact G.hx d m
      · rw [List.mem_singleton.mp (show d ∈ [c] from m)]
        exact mc, G.gx, G.xg, by rw [app_len]; show h.length + 1 ≤ 20; omega, G.g1, G.g20⟩
    have raB := (RowAt.kj kA nb ra9).ext xt
    obtain ⟨dx, eb⟩ := id raB
    -- values that are no rows
    refine ⟨_, rfl, b, dx, _, rfl, eb, rfl, b, x, h, g, 5, rfl, raB, rw1, by decide, fun z HC kC ez => ?_⟩
    refine ⟨_, rfl, by show 1 ≤ sizeLine; decide, fun l1 hl1 => ⟨by show 4 ≤ sizeLine; decide, fun l2 hl2 => ?_⟩⟩
    have y1 := (Ext.refl HC).new hl1 (o := .lst [.ref b])
    have el1 : (upd HC l1 (.lst [.ref b])) l1 = some (.lst [.ref b]) := upd_same
    generalize upd HC l1 (.lst [.ref b]) = HD at y1 el1 hl2 ⊢
    have y2 := (Ext.refl HD).new hl2 (o := .lst [.non, .int 0, .str z, .ref l1])
    have el2 : (upd HD l2 (.lst [.non, .int 0, .str z, .ref l1])) l2 = some (.lst [.non, .int 0, .str z, .ref l1]) := upd_same
    generalize upd HD l2 (.lst [.non, .int 0, .str z, .ref l1]) = HE at y2 el2 ⊢
    have xBE := (kC.trans y1).trans y2
    have kE := kB.ext xBE
    refine ⟨_, rfl, _, rfl, _, rfl, x, p, t, h, g, h ++ ⟨#[c]⟩, g, rfl, abc, sqT_ext xBE (sqT_ext xt sqA), SqT.of (xBE _ _ et), G, GN, fun HF kF => ⟨_, rfl, iteF ?_⟩⟩
    have el1F := kF _ _ (y2 _ _ el1)
    have el2F := kF _ _ el2
    have raF := raB.ext (xBE.trans kF)
    obtain ⟨dxF, ebF⟩ := id raF
    have kF0 := kE.ext kF
    refine ⟨_, rfl, l2, rfl, ⟨_, SqL.of el2F⟩, fun D hD => ?_⟩
    refine walk_it walk_list (fun i H5 => H5 D = some (.lst []) ∧ Ext HF H5) ⟨upd_same, (Ext.refl _).new hD⟩ (fun i H5 _ z => SqL.of (z.2 _ _ el2F)) ?_ ?_
    · rintro i v HG HG' hi ⟨f1, f2⟩ ⟨rfl, ex⟩
      have mv := List.mem_of_getElem? ex
      have no : NoBook K HG' v := by
        simp only [List.mem_cons, List.not_mem_nil, or_false] at mv
        rcases mv with rfl | rfl | rfl | rfl
        · exact .non
        · exact .int 0
        · exact .str _
        · exact .seq (.base (.lst (f2 _ _ el1F))) (by simp)
      obtain ⟨T, mT, ty⟩ := noBook_ty no
      exact ⟨rfl, _, rfl, _, rfl, b, dxF, _, _, rfl, f2 _ _ ebF, ty, (B.others T mT).2, b, x, h, g, v, rfl, raF.ext f2, G.gd, .inl ⟨no, _, rfl, _, rfl, iteF ⟨f1, f2⟩⟩⟩
    rintro HG ⟨f1, f2⟩
    refine ⟨by show 0 ≤ sizeLine; decide, fun n hn => ?_⟩
    have f3 : Ext HG (upd HG n (.lst [])) := (Ext.refl HG).new hn
    refine ⟨D, [], n, rfl, rfl, SqL.of (f3 _ _ f1), SqL.of upd_same, _, rfl, iteF ?_⟩
    have kG := (kF0.ext f2).ext f3
    refine ⟨_, rfl, _, rfl, j, x, rfl, kG.2, abc, fun HH kH => ⟨_, rfl, iteT ?_⟩⟩
    have kH0 := kG.trans kH
    exact ⟨_, rfl, _, rfl, j, x, rfl, kH0.2, abc, fun HI kI => q _ (kH0.trans kI)⟩
end
end B73

/-! the law -/
namespace B73
open PySem PySem.Spec PyProof.Rows L2 XSt NX XB XE XPl XFd XTs XNil XMe LamX
open PySem.W (Frag)
abbrev sLaw : Stmt := top 45
def spLaw (T : List (Addr × Str)) (K : Frag) : Sp := fun vs H Q _ => ∃ (a : Addr) (ns : List Int), vs = [.ref a] ∧ SqL K H a (ns.map V.int) ∧ ns.length ≤ 63 ∧ Tabs T H ∧ ∀ H', Q (.bl true) H'
def S (s : String) : Str := Str.ofString s
theorem gx_ {x h g : Str} (d : (decide (∀ c ∈ cs h, c ∈ cs x) && decide (∀ c ∈ cs g, c ∈ cs x) && decide (∀ c ∈ cs x, c ∈ cs g) && decide (h.length ≤ 20) && decide (1 ≤ g.length) && decide (g.length ≤ 20)) = true) : Gx x h g := by
  simp only [Bool.and_eq_true, decide_eq_true_eq] at d
  obtain ⟨⟨⟨⟨⟨d1, d2⟩, d3⟩, d4⟩, d5⟩, d6⟩ := d
  exact ⟨d1, d2, d3, d4, d5, d6⟩
theorem abAbc : Abc (S "ab") := four_abc _ (by decide +kernel)
theorem abcAbc : Abc (S "abc") := four_abc _ (by decide +kernel)
theorem aAbc : Abc (S "a") := four_abc _ (by decide +kernel)
theorem rwG : Rw (S "ab") (S "") (S "ab") := ⟨abAbc, gx_ (by decide +kernel)⟩
theorem rwB : Rw (S "abc") (S "b") (S "abc") := ⟨abcAbc, gx_ (by decide +kernel)⟩
theorem rwT : Rw (S "ab") (S "ab") (S "abab") := ⟨abAbc, gx_ (by decide +kernel)⟩
theorem rwU : Rw (S "ab") (S "b") (S "ab") := ⟨abAbc, gx_ (by decide +kernel)⟩
theorem rwC : Rw (S "abc") (S "") (S "abc") := ⟨abcAbc, gx_ (by decide +kernel)⟩
theorem rwA : Rw (S "a") (S "") (S "a") := ⟨aAbc, gx_ (by decide +kernel)⟩
theorem c1 : mcS (S "aab") = S "aabaa" := by decide +kernel
theorem c2 : mcS (S "") = S "" := by decide +kernel
theorem c3 : beg (lw (S "") (S "ab")) 12 = cs (S "abaababaabaa") := by
  rw [← beg_at (n := 5) (by decide +kernel)]
  decide +kernel
theorem c4 : guideF (S "") (S "ab") 5 = S "ababa" := by decide +kernel
theorem c5 : beg (lw (S "b") (S "abc")) 9 = cs (S "babbabcba") := by
  rw [← beg_at (n := 4) (by decide +kernel)]
  decide +kernel
theorem e1 : (decide (S "ab" = S "ab") && decide (guideF (S "") (S "ab") 60 = guideF (S "ab") (S "abab") 60)) = true := by decide +kernel
theorem e2 : (decide (S "ab" = S "ab") && decide (guideF (S "") (S "ab") 60 = guideF (S "b") (S "ab") 60)) = false := by decide +kernel
theorem e3 : (decide (S "ab" = S "abc") && decide (guideF (S "") (S "ab") 60 = guideF (S "") (S "abc") 60)) = false := by decide +kernel
theorem lw_a (i : Nat) : lw (S "") (S "a") i = 97 := by
  have h0 : (S "").length = 0 := by decide +kernel
  have h1 : (S "a").length = 1 := by decide +kernel
  have h2 : cs (S "a") = [97] := by decide +kernel
  unfold lw
  rw [h0, h1, h2, if_neg (by omega), Nat.mod_one]
  rfl
theorem T_a : ∀ n, T (lw (S "") (S "a")) n = List.replicate n 97
  | 0 => rfl
  | n + 1 => by
    have p : Pal (List.replicate (n + 1) 97) := List.reverse_replicate ..
    show mc (T _ n ++ [lw _ _ n]) = _
    rw [T_a n, lw_a, ← List.replicate_succ', mc_fix p]
theorem beg_a : beg (lw (S "") (S "a")) 4000 = cs (Txt.mul (S "a") ((4000 : Nat) : Int)) := by
  have h2 : cs (S "a") = [97] := by decide +kernel
  rw [mul_G _ _ (by decide +kernel) (by decide), h2]
  unfold beg
  rw [T_a, List.take_replicate, Nat.min_self, List.flatten_replicate_singleton]
def toldW : List Str := [S "aabaa", S "", S "abaababaabaa", S "ababa", S "babbabcba"]
theorem told_ok : ∀ k ∈ toldW, PyData.strOk k = true := by decide +kernel
def numsD : PyData := .list [.int 20, .int 60]
theorem nums_ok : SeqAt.shaped numsD = true := by decide +kernel
theorem nums_eq : PyData.eqv numsD numsD = true := by decide +kernel
theorem len_a : (S "a").length = 1 ∧ (S "ab").length = 2 := by decide +kernel
section
variable {P : Program} {w : World} {K : Frag} {mg : Str → Option Value} {base : Heap} {f c C : Addr} {fd : FuncData} {T : List (Addr × Str)}
theorem scLaw : FnScope ["script", "at", "jug", "gold", "told"] ["script"] (defScope sLaw) := ⟨rfl, rfl, rfl, by decide +kernel, rfl, by decide +kernel, by decide +kernel⟩
theorem ok_law (F : FnP K "law" sLaw f fd) (Cd : CodeAt K f c) (M : Free mg) (mR : mg "range" = none) (mX : mg "max" = none) (mN : mg "min" = none) (R : RowR P w K mg base C) (gW : ∃ t, mg "MAX_GUIDE" = some (.int 20 t)) (gV : ∃ t, mg "MAX_STANDING" = some (.int 60 t))
    (DJ : Def P w K mg base CX0 1 "_law_jug" ["script", "at"] (spJug K)) (DR : Def P w K mg base CX0 9 "_law_right" ["jug"] spRight) (DMC : Def P w K mg base CX0 5 "mirror_close" ["letters", "text"] (spMirrorClose K)) :
    FnG P w K mg base CX0 10 f fd ["script"] (spLaw T K) := by
  obtain ⟨tk1, gW⟩ := gW
  obtain ⟨tk2, gV⟩ := gV
  have B := R.B
  have gRow := R.gR
  obtain ⟨fI, dI, MK, FI, bI⟩ := R.make
  obtain ⟨fST, dST, MST, FST, bST⟩ := R.st
  obtain ⟨fGU, dGU, MGU, FGU, bGU⟩ := R.gu
  obtain ⟨fE, dE, OE, FE, bE⟩ := R.eq
  obtain ⟨ne1, ne2⟩ := R.ne
  obtain ⟨fJ, dJ, FJ, gJ, kJ, bJ⟩ := DJ.ex
  obtain ⟨fR, dR, FR, gR, kR, bR⟩ := DR.ex
  obtain ⟨fMC, dMC, FMC, gMC, kMC, bMC⟩ := DMC.ex
  refine okG F Cd scLaw (fun vs H Q E h => ?_) (fun A outer s H vs Q E hg hr h => ?_)
  · obtain ⟨a, ns, rfl, _⟩ := h
    rfl
  · obtain ⟨a, ns, rfl, sq, few, hT, q⟩ := h
    have hs : sizeLine = 16777216 := sizeLine_eq
    refine ⟨_, PSs.nox (pss_cons (ps_for PassesOwn.never rfl (pi_range1 (by rfl) mR (pa_cons (pe_callB (call_max2 rfl) (by rfl) mX (by decide +kernel) (pa_cons pe_int (pa_cons (pe_callB (call_min2 rfl) (by rfl) mN (by decide +kernel) (pa_cons pe_int (pa_cons (pe_callB call_len_seq (by rfl) M.len PySem.boot_len (pa_cons (pv 0) pa_nil)) pa_nil))) pa_nil))) (pa_nil))) (pg_name (i := 1) scLaw.nd rfl (.inl rfl)) (pss_cons (ps_set (i := 2) scLaw.nd rfl (.inl rfl) (pe_call FJ (hr.mono (by decide)) (by rfl) gJ kJ bJ .nil pass0 (pa_cons (pv 0) (pa_cons (pv 1) (pa_nil)))))
      (pss_one (ps_if (PW.pt (pw_or (pt_not (pt_val (pe_call FR (hr.mono (by decide)) (by rfl) gR kR bR .nil pass0 (pa_cons (pv 2) (pa_nil))))) (pw_or1 (pt_not (pt_val (pe_call FR (hr.mono (by decide)) (by rfl) gR kR bR .nil pass0 (pa_cons (pv 2) (pa_nil)))))))) (pss_one (ps_ret pe_bl)) pss_nil))))
      (pss_cons (ps_set (i := 3) scLaw.nd rfl (.inl rfl) (pe_make MK FI (hr.mono (by decide)) (by rfl) gRow bI .nil pass0 (pa_cons (pe_str) (pa_cons (pe_str) (pa_cons (pe_str) (pa_nil))))))
      (pss_cons (ps_set (i := 4) scLaw.nd rfl (.inl rfl) ((pe_lst (pa_cons (pe_call FMC (hr.mono (by decide)) (by rfl) gMC kMC bMC .nil pass0 (pa_cons (pe_str) (pa_cons (pe_str) (pa_nil)))) (pa_cons (pe_call FMC (hr.mono (by decide)) (by rfl) gMC kMC bMC .nil pass0 (pa_cons (pe_str) (pa_cons (pe_str) (pa_nil)))) (pa_cons (pe_mG (pv 3) (pa_cons (pe_int) (pa_nil)) B.cls MST FST (hr.mono (by decide)) bST pass0) (pa_cons (pe_mG (pv 3) (pa_cons (pe_int) (pa_nil)) B.cls MGU FGU (hr.mono (by decide)) bGU pass0) (pa_nil))))))))
      (pss_cons (ps_expr (pe_bm PySem.F.plainAttrs_list PySem.F.slot_list_append PySem.F.type_list_append mt_append (pv 4) (pa_cons (pe_mX (pe_make MK FI (hr.mono (by decide)) (by rfl) gRow bI .nil pass0 (pa_cons (pe_str) (pa_cons (pe_str) (pa_cons (pe_str) (pa_nil))))) (pa_cons (pe_int) (pa_nil)) B.cls MST FST (hr.mono (by decide)) bST pass0) pa_nil)))
      (pss_cons (ps_if (PW.pt (pw_or (pt_cmpR (op_neD hr.units) (pv 4) ((pe_lst (pa_cons (pe_str) (pa_cons (pe_str) (pa_cons (pe_str) (pa_cons (pe_str) (pa_cons (pe_str) (pa_nil)))))))) (nomark _)) (pw_or1 (pt_cmpR (op_neD hr.units) ((pe_lst (pa_cons (pe_glob (v := .int 20) (by rfl) gW ⟨tk1, rfl⟩) (pa_cons (pe_glob (v := .int 60) (by rfl) gV ⟨tk2, rfl⟩) (pa_nil))))) ((pe_lst (pa_cons (pe_int) (pa_cons (pe_int) (pa_nil))))) (nomark _))))) (pss_one (ps_ret pe_bl)) pss_nil)
      (pss_cons (ps_if (PW.pt (pw_or (pt_cmpR (op_neO FE (hr.mono (by decide)) OE ne1 ne2 bE) (pv 3) (pe_make MK FI (hr.mono (by decide)) (by rfl) gRow bI .nil pass0 (pa_cons (pe_str) (pa_cons (pe_str) (pa_cons (pe_str) (pa_nil))))) (nomark _)) (pw_or1 (pt_cmpR (op_eqO FE (hr.mono (by decide)) OE bE) (pv 3) (pe_make MK FI (hr.mono (by decide)) (by rfl) gRow bI .nil pass0 (pa_cons (pe_str) (pa_cons (pe_str) (pa_cons (pe_str) (pa_nil))))) (nomark _))))) (pss_one (ps_ret pe_bl)) pss_nil)
      (pss_cons (ps_if (pt_cmpR (op_eqO FE (hr.mono (by decide)) OE bE) (pv 3) (pe_make MK FI (hr.mono (by decide)) (by rfl) gRow bI .nil pass0 (pa_cons (pe_str) (pa_cons (pe_str) (pa_cons (pe_str) (pa_nil))))) (nomark _)) (pss_one (ps_ret pe_bl)) pss_nil)
      (pss_one (ps_ret (pe_and (pe_cmpR op_eq (pe_mX (pe_make MK FI (hr.mono (by decide)) (by rfl) gRow bI .nil pass0 (pa_cons (pe_str) (pa_cons (pe_str) (pa_cons (pe_str) (pa_nil))))) (pa_cons (pe_int) (pa_nil)) B.cls MST FST (hr.mono (by decide)) bST pass0) (pe_op op_mulS pe_str pe_int) (nomark _)) (pe_one (pe_cmpR op_eq (pe_callB call_len (by rfl) M.len PySem.boot_len (pa_cons (pe_mG (pv 3) (pa_cons (pe_int) (pa_nil)) B.cls MST FST (hr.mono (by decide)) bST pass0) pa_nil)) pe_int (nomark _))))))))))))), ?_⟩
    refine ⟨_, rfl, a, _, rfl, .inl sq, _, _, rfl, _, _, rfl, _, rfl, by (repeat' split) <;> omega, by (repeat' split) <;> omega, ?_⟩
    refine for_range (fun i σ H2 => (∃ o1 o2 o3 o4, σ = [some (.ref a), o1, o2, o3, o4]) ∧ Ext H H2) ⟨⟨_, _, _, _, rfl⟩, Ext.refl _⟩ ?_ ?_
    · rintro i σ H2 hi ⟨⟨o1, o2, o3, o4, rfl⟩, k2⟩
      refine ⟨_, rfl, _, rfl, a, ns, i, by show [V.ref a, V.int (0 + (i : Int))] = _; rw [Int.zero_add], sqL_ext k2 sq, fun j H3 hj k3 jug3 => ?_⟩
      have back : ∀ Hx, Kj j H3 Hx → Ext H Hx := fun Hx gx b o e => gx.1 b o (ne_of_none (k2 b o e) hj) (k3 _ _ (k2 b o e))
      refine ⟨_, rfl, j, rfl, jug3, fun H4 g4 => ⟨_, rfl, iteF ?_⟩⟩
      exact ⟨_, rfl, j, rfl, g4.2, fun H5 g5 => ⟨_, rfl, iteF ⟨⟨_, _, _, _, rfl⟩, back _ (g4.trans g5)⟩⟩⟩
    · rintro σ H0 ⟨⟨o1, o2, o3, o4, rfl⟩, k0⟩
      clear k0 sq hT
      have aab : ∀ Hx, Asked K Hx (.str (S "ab")) := fun Hx => ask_in abAbc (fun _ m => m) (by decide +kernel)
      -- gold
      refine fun b d hb hd nd => ⟨b, d, S "ab", S "", S "ab", rfl, upd_same, rwG, fun H1 keep1 ra1 => ⟨rfl, ?_⟩⟩
      clear keep1 hb hd nd
      refine ⟨S "ab", S "aab", rfl, aab _, abAbc.good.2.2, ask_in abAbc (by decide +kernel) (by decide +kernel), text_in (by decide +kernel) (by decide +kernel), by decide +kernel, fun H2 k2 => ?_⟩
      replace ra1 := ra1.ext k2
      refine ⟨S "ab", S "", rfl, aab _, abAbc.good.2.2, ask_in abAbc (by decide +kernel) (by decide +kernel), text_in (by decide +kernel) (by decide +kernel), by decide +kernel, fun H3 k3 => ?_⟩
      replace ra1 := ra1.ext k3
      obtain ⟨dx, eb⟩ := id ra1
      refine ⟨_, rfl, b, dx, _, rfl, eb, rfl, b, S "ab", S "", S "ab", 12, rfl, ra1, rwG, by decide, fun z H4 k4 ez => ?_⟩
      rw [show z = S "abaababaabaa" from cs_inj (ez.trans c3), c1, c2]
      replace ra1 := ra1.ext k4
      replace eb := k4 _ _ eb
      refine ⟨_, rfl, b, dx, _, rfl, eb, rfl, b, S "ab", S "", S "ab", 5, rfl, ra1, rwG, by decide, fun H5 k5 => ?_⟩
      rw [c4]
      replace ra1 := ra1.ext k5
      refine ⟨by show 4 ≤ sizeLine; decide, fun l hl => ?_⟩
      have xl := (Ext.refl H5).new hl (o := .lst [.str (S "aabaa"), .str (S ""), .str (S "abaababaabaa"), .str (S "ababa")])
      have el : (upd H5 l (.lst [.str (S "aabaa"), .str (S ""), .str (S "abaababaabaa"), .str (S "ababa")])) l = some (.lst [.str (S "aabaa"), .str (S ""), .str (S "abaababaabaa"), .str (S "ababa")]) := upd_same
      generalize upd H5 l (.lst [.str (S "aabaa"), .str (S ""), .str (S "abaababaabaa"), .str (S "ababa")]) = H6 at xl el ⊢
      have nbl : b ≠ l := fun z => by
        obtain ⟨dy, e⟩ := ra1
        rw [z, hl] at e
        cases e
      replace ra1 := ra1.ext xl
      clear eb hl xl k2 k3 k4 k5 ez
      -- one text more
      refine ⟨_, rfl, .inl ⟨rfl, _, .inl (.inl el)⟩, ?_⟩
      refine fun b2 d2 hb2 hd2 nd2 => ⟨b2, d2, S "abc", S "b", S "abc", rfl, upd_same, rwB, fun H7 keep7 ra7 => ⟨rfl, ?_⟩⟩
      have x7 := made_ext hb2 hd2 keep7
      obtain ⟨dx2, eb2⟩ := id ra7
      refine ⟨b2, dx2, _, rfl, eb2, rfl, b2, S "abc", S "b", S "abc", 9, rfl, ra7, rwB, by decide, fun z H8 k8 ez => ?_⟩
      rw [show z = S "babbabcba" from cs_inj (ez.trans c5)]
      refine ⟨l, _, _, rfl, rfl, k8 _ _ (x7 _ _ el), by show 4 < sizeLine; decide, ?_⟩
      have ra9 : RowAt (upd H8 l (.lst ([V.str (S "aabaa"), .str (S ""), .str (S "abaababaabaa"), .str (S "ababa")] ++ [.str (S "babbabcba")]))) b C (S "ab") (S "") (S "ab") := by
        obtain ⟨dy, e⟩ := (ra1.ext x7).ext k8
        exact ⟨dy, by rw [upd_ne nbl]; exact e⟩
      have el9 : (upd H8 l (.lst ([V.str (S "aabaa"), .str (S ""), .str (S "abaababaabaa"), .str (S "ababa")] ++ [.str (S "babbabcba")]))) l = some (.lst (toldW.map V.str)) := upd_same
      generalize upd H8 l (.lst ([V.str (S "aabaa"), .str (S ""), .str (S "abaababaabaa"), .str (S "ababa")] ++ [.str (S "babbabcba")])) = H9 at ra9 el9 ⊢
      clear ra1 el x7 k8 ra7 eb2 hb2 hd2 keep7 nd2 ez
      -- what is told
      refine ⟨_, rfl, by show 5 ≤ sizeLine; decide, fun l2 hl2 => ?_⟩
      have x10 := (Ext.refl H9).new hl2 (o := .lst (toldW.map V.str))
      have el10 : (upd H9 l2 (.lst (toldW.map V.str))) l2 = some (.lst (toldW.map V.str)) := upd_same
      have sh := txt_shaped told_ok
      refine ⟨_, _, .lst (SqL.of (x10 _ _ el9)) (dpa_txt toldW), .lst (SqL.of el10) (dpa_txt toldW), sh, sh, _, rfl, ?_⟩
      rw [eqvL_self]
      refine iteF ?_
      have ra := ra9.ext x10
      clear ra9 el9 x10 hl2 el10
      refine ⟨by show 2 ≤ sizeLine; decide, fun l3 hl3 => ⟨by show 2 ≤ sizeLine; decide, fun l4 hl4 => ?_⟩⟩
      have z3 := (Ext.refl _).new hl3 (o := .lst [.int 20, .int 60])
      have z4 := (Ext.refl _).new hl4 (o := .lst [.int 20, .int 60])
      refine ⟨numsD, numsD, .lst (SqL.of (z4 _ _ upd_same)) (.cons (.int _) (.cons (.int _) .nil)), .lst (SqL.of upd_same) (.cons (.int _) (.cons (.int _) .nil)), nums_ok, nums_ok, _, rfl, ?_⟩
      rw [nums_eq]
      refine iteF ?_
      replace ra := (ra.ext z3).ext z4
      clear z3 z4 hl3 hl4
      refine ⟨_, rfl, fun b3 d3 hb3 hd3 nd3 => ⟨b3, d3, S "ab", S "ab", S "abab", rfl, upd_same, rwT, fun N3 keep3 ra3 => ⟨rfl, ?_⟩⟩⟩
      have y3 := made_ext hb3 hd3 keep3
      replace ra := ra.ext y3
      obtain ⟨dx3, eb3⟩ := id ra
      refine ⟨b, dx3, _, .ref C, rfl, eb3, ra3.ty (K := K) B, nf_self, b, S "ab", S "", S "ab", .ref b3, rfl, ra, rwG.gx.gd, .inr ⟨b3, S "ab", S "ab", S "abab", rfl, ra3, rwT.gx.gd, _, rfl, ?_⟩⟩
      rw [e1]
      refine ⟨_, rfl, iteF ?_⟩
      clear y3 hb3 hd3 keep3 nd3 eb3
      refine ⟨_, rfl, fun b4 d4 hb4 hd4 nd4 => ⟨b4, d4, S "ab", S "b", S "ab", rfl, upd_same, rwU, fun N4 keep4 ra4 => ⟨rfl, ?_⟩⟩⟩
      have y4 := made_ext hb4 hd4 keep4
      replace ra := ra.ext y4
      obtain ⟨dx4, eb4⟩ := id ra
      refine ⟨b, dx4, _, .ref C, rfl, eb4, ra4.ty (K := K) B, nf_self, b, S "ab", S "", S "ab", .ref b4, rfl, ra, rwG.gx.gd, .inr ⟨b4, S "ab", S "b", S "ab", rfl, ra4, rwU.gx.gd, _, rfl, ?_⟩⟩
      rw [e2]
      refine ⟨_, rfl, iteF ?_⟩
      clear y4 hb4 hd4 keep4 nd4 eb4
      refine ⟨_, rfl, fun b5 d5 hb5 hd5 nd5 => ⟨b5, d5, S "abc", S "", S "abc", rfl, upd_same, rwC, fun N5 keep5 ra5 => ⟨rfl, ?_⟩⟩⟩
      have y5 := made_ext hb5 hd5 keep5
      replace ra := ra.ext y5
      obtain ⟨dx5, eb5⟩ := id ra
      refine ⟨b, dx5, _, .ref C, rfl, eb5, ra5.ty (K := K) B, nf_self, b, S "ab", S "", S "ab", .ref b5, rfl, ra, rwG.gx.gd, .inr ⟨b5, S "abc", S "", S "abc", rfl, ra5, rwC.gx.gd, _, rfl, ?_⟩⟩
      rw [e3]
      refine ⟨_, rfl, iteF ?_⟩
      clear y5 hb5 hd5 keep5 nd5 eb5
      refine fun b6 d6 hb6 hd6 nd6 => ⟨b6, d6, S "a", S "", S "a", rfl, upd_same, rwA, fun N6 keep6 ra6 => ⟨rfl, ?_⟩⟩
      replace ra := ra.ext (made_ext hb6 hd6 keep6)
      obtain ⟨dx6, eb6⟩ := id ra6
      refine ⟨b6, dx6, _, rfl, eb6, rfl, b6, S "a", S "", S "a", 4000, rfl, ra6, rwA, by decide, fun z N7 k7 ez => ?_⟩
      rw [show z = Txt.mul (S "a") ((4000 : Nat) : Int) from cs_inj (ez.trans beg_a)]
      replace ra := ra.ext k7
      obtain ⟨dx7, eb7⟩ := id ra
      refine ⟨S "a", 4000, rfl, rfl, by rw [len_a.1]; decide, by rw [len_a.1]; decide, by decide, rfl, _, rfl, ?_⟩
      rw [decide_eq_true rfl]
      refine iteT ⟨_, rfl, b, dx7, _, rfl, eb7, rfl, b, S "ab", S "", S "ab", 4000, rfl, ra, rwG, by decide, fun z8 N8 k8 ez8 => ?_⟩
      have lz : z8.length = 4000 := by rw [← cs_len, ez8, beg_len]
      refine ⟨_, z8.length, rfl, ⟨by omega, rfl⟩, rfl, ?_⟩
      rw [lz]
      exact q N8
end
end B73

/-! the head's facts, those of getters and classmethods too -/
namespace HP
open PySem PySem.Spec PyProof.Rows L2
open PySem.W (Frag)
/-- a def that stands at an address which is found by K -/
structure GetD where
  addr : Frag → Addr
  name : Str
  qual : Str
  params : Arguments
  body : List Stmt
  scope : Scope
def bare : Value → Bool
  | .none => true
  | _ => false
def fnA (K : Frag) (a : Addr) : He.FnW := match K.lookup a with
  | some ⟨_, _, .func q, _⟩ => some (q.name, q.qualname, q.params, q.body, q.scope, q.globals, q.closure, q.builtins)
  | _ => none
def GetD.val (d : GetD) : He.FnW := some (d.name, d.qual, d.params, FuncBody.stmts d.body, d.scope, mainGlobals, [], builtinsNs)
def GetD.ok (K : Frag) (d : GetD) : Bool := PySem.W.keepIn K (.ref (d.addr K)) && (match K.lookup (d.addr K) with
  | some ⟨_, _, .func q, _⟩ => PySem.W.codeIn K q.code d.qual && bare q.defaults
  | _ => false)
theorem GetD.funD {K : Frag} {d : GetD} (e : fnA K (d.addr K) = d.val) (c : d.ok K = true) : ∃ fd, FunD K d.name d.qual d.params d.body d.scope [] [] (d.addr K) fd := by
  obtain ⟨kp, c2⟩ := He.ba c
  unfold fnA at e
  cases q : K.lookup (d.addr K) with
  | none =>
    rw [q] at e
    cases e
  | some o =>
    obtain ⟨oc, od, dt, osl⟩ := o
    rw [q] at c2 e
    cases dt with
    | func fd =>
      obtain ⟨a1, a2, a3, a4, a5, a6, a7, a8, a9, a10, a11, a12, a13, a14, a15⟩ := fd
      have e2 : (some (a1, a2, a3, a4, a5, a6, a7, a15) : He.FnW) = some (d.name, d.qual, d.params, FuncBody.stmts d.body, d.scope, mainGlobals, [], builtinsNs) := e
      simp only [Option.some.injEq, Prod.mk.injEq] at e2
      obtain ⟨g1, g2, g3, g4, g5, g6, g7, g8⟩ := e2
      subst g1 g2 g3 g4 g5 g6 g7 g8
      obtain ⟨k1, k2⟩ := He.ba (show (PySem.W.codeIn K a13 d.qual && bare a8) = true from c2)
      have k3 : a8 = .none := by
        cases a8 with
        | none => rfl
        | _ => cases k2
      exact ⟨_, ⟨oc, od, a8, a9, a10, a11, a12, a13, a14, osl, rfl, q, k1, .inl ⟨rfl, k3⟩, .inl rfl⟩, kp⟩
    | _ => cases c2
/-- what is told of K -/
structure SaysP (fa : List He.Fa) (fn : List He.DefD) (gs : List GetD) (ex : Frag → Bool) (w : World) (K : Frag) : Prop where
  t : He.SaysT fa fn [] w K
  gets : gs.map (fun g => fnA K (g.addr K)) = gs.map GetD.val
  fine : (gs.all fun g => g.ok K) = true
  more : ex K = true
abbrev AlP : Type := He.AlT × List He.FnW × Bool
def obsP (n : Nat) (fa : List He.Fa) (fn : List He.DefD) (gs : List GetD) (ex : Frag → Bool) (g : Addr → Option Obj) : AlP :=
  (He.obsT fa fn [] (He.frG g (He5.asA g n)), gs.map (fun d => fnA (He.frG g (He5.asA g n)) (d.addr (He.frG g (He5.asA g n)))), (gs.all fun d => d.ok (He.frG g (He5.asA g n))) && ex (He.frG g (He5.asA g n)))
def valP (fn : List He.DefD) (gs : List GetD) (w : World) : AlP := (He.valT fn [] w, gs.map GetD.val, true)
theorem saysP_of {n : Nat} {fa : List He.Fa} {fn : List He.DefD} {gs : List GetD} {ex : Frag → Bool} {w : World} {h : Heap} (e : obsP n fa fn gs ex h.get? = valP fn gs w) : SaysP fa fn gs ex w (He.frG h.get? (He5.asA h.get? n)) := by
  have e1 := congrArg (fun z : AlP => z.1) e
  have e2 := congrArg (fun z : AlP => z.2.1) e
  have e3 := congrArg (fun z : AlP => z.2.2) e
  obtain ⟨h1, h2⟩ := He.ba e3
  exact ⟨e1, e2, h1, h2⟩
def hookP (n : Nat) (fa : List He.Fa) (fn : List He.DefD) (gs : List GetD) (ex : Frag → Bool) : PySem.W.Hook where
  α := AlP
  obs := fun s => obsP n fa fn gs ex s.heap.get?
  val := fun w => valP fn gs w
  says := fun w h => ∃ K : Frag, K.In h ∧ SaysP fa fn gs ex w K
  of := fun _ _ e => ⟨_, He.frG_in, saysP_of e⟩
  keeps := fun _ _ _ ⟨K, hK, c⟩ k => ⟨K, PySem.W.Frag.In.keeps hK k, c⟩
theorem obsP_eq {n : Nat} {fa : List He.Fa} {fn : List He.DefD} {gs : List GetD} {ex : Frag → Bool} {g : Addr → Option Obj} {s : Shared} (h : ∀ a, g a = s.heap.get? a) : obsP n fa fn gs ex g = (hookP n fa fn gs ex).obs s := by
  have e : g = s.heap.get? := funext h
  rw [e] <;> rfl
theorem SaysP.get {fa : List He.Fa} {fn : List He.DefD} {gs : List GetD} {ex : Frag → Bool} {w : World} {K : Frag} (c : SaysP fa fn gs ex w K) (i : Nat) {d : GetD} (h : gs[i]? = some d := by rfl) : ∃ fd, FunD K d.name d.qual d.params d.body d.scope [] [] (d.addr K) fd := by
  have e : (gs.map fun g => fnA K (g.addr K))[i]? = (gs.map GetD.val)[i]? := by rw [c.gets]
  rw [List.getElem?_map, List.getElem?_map, h] at e
  exact GetD.funD (Option.some.inj e) (List.all_eq_true.mp c.fine d (List.mem_of_getElem? h))
/-! ### a property, a classmethod -/
def propB (K : Frag) (C : Addr) (f : Str) : Bool := He.eqO (PySem.W.findIn K (.ref C) f) (some (some (.ref (He.ma K C f)))) && (He.eqO (PySem.W.specialIn K (.ref (He.ma K C f)) "__get__") (some (some (.builtin "property.__get__"))) &&
  (decide (PySem.W.takesIn K (.ref (He.ma K C f)) = some true) && (match PySem.W.recIn K (He.ma K C f) "property" with
    | some (.ref _ :: _) => true
    | _ => false)))
theorem rec_at {K : Frag} {C : Addr} {T : String} {f : Str} (h : (match PySem.W.recIn K (He.ma K C f) T with
    | some (.ref _ :: _) => true
    | _ => false) = true) : ∃ rest, PySem.W.recIn K (He.ma K C f) T = some (.ref (He5.wf K C T f) :: rest) := by
  unfold He5.wf
  split at h
  · rename_i g r e
    exact ⟨r, by rw [e]⟩
  · cases h
theorem propB_ok {K : Frag} {C : Addr} {f : Str} (h : propB K C f = true) : PropOf K C f (He.ma K C f) (He5.wf K C "property" f) := by
  obtain ⟨h1, h⟩ := He.ba h
  obtain ⟨h2, h⟩ := He.ba h
  obtain ⟨h3, h4⟩ := He.ba h
  exact ⟨He.eqO_ok h1, He.eqO_ok h2, of_decide_eq_true h3, rec_at h4⟩
def clsmB (K : Frag) (C : Addr) (m : Str) : Bool := He5.wrapB K C "classmethod" "classmethod.__get__" m && (PySem.W.fnIn K (He5.wf K C "classmethod" m) && (PySem.W.readsIn K C (.type "type") && He.eqO (PySem.W.specialIn K (.ref C) "__getattribute__") (some (some (.builtin "type.__getattribute__")))))
theorem clsmB_ok {K : Frag} {C : Addr} {m : Str} (h : clsmB K C m = true) : ClX.CMet K C (.type "type") m (He.ma K C m) (He5.wf K C "classmethod" m) ∧ ClX.CRead K C (.type "type") := by
  obtain ⟨h1, h⟩ := He.ba h
  obtain ⟨h2, h⟩ := He.ba h
  obtain ⟨h3, h4⟩ := He.ba h
  obtain ⟨a, b⟩ := He5.wrapB_ok h1
  exact ⟨⟨a, b, h2⟩, ⟨h3, He.eqO_ok h4⟩⟩
end HP

/-! the end of a law whose def is guarded, where the defs' tables of nested code are told of -/
namespace XE
open PySem PySem.Spec PyProof.Rows L2 LamX
open PySem.W (Frag)
/-- the tables, and at most the script -/
structure OnlyT (tabs : List Addr) (a : Addr) (H : Hp) : Prop where
  tab : ∀ b ∈ tabs, H b = some (.tbl #[])
  own : ∀ b, b ∉ tabs → H b = none ∨ (b = a ∧ ∃ o xs, H b = some (.frz o (.lst xs)))
def hpT (tabs : List Addr) (more : Hp) : Hp := fun b => if b ∈ tabs then some (.tbl #[]) else more b
theorem hpT_in {tabs : List Addr} {more : Hp} {b : Addr} (h : b ∈ tabs) : hpT tabs more b = some (.tbl #[]) := if_pos h
theorem hpT_out {tabs : List Addr} {more : Hp} {b : Addr} (h : b ∉ tabs) : hpT tabs more b = more b := if_neg h
theorem law_guardedT {P : Program} {w : World} {K : Frag} {mg mb : Str → Option Value} {CX : CXT} {k : Nat} {fa a : Addr} {cs : List (Addr × Addr)} {fd : FuncData} {x : Str} {sp : Sp} {s₁ : Shared} {vs : List Value} {ns : List Int}
    (KX : K.In s₁.heap) (hns : s₁.heap.Ns mainGlobals mg) (hb : s₁.heap.Ns builtinsNs mb) (hbb : ∀ x : Str, x ≠ "__name__" → mb x = bootBuiltins x) (hlim : s₁.heap.NoLimit) (hg : s₁.gens = #[])
    (hT : ∀ p ∈ cs, s₁.heap.get? p.2 = some { cls := .none, data := .fields #[] }) (nT : ∀ p ∈ cs, K.lookup p.2 = none) (hd : ∀ p ∈ cs, PySem.W.codeHdIn K p.1 p.2 = true)
    (hbm : ∃ (bm : Addr) (ob : Obj), mg "__builtins__" = some (.ref bm) ∧ bm ≠ builtinsNs ∧ s₁.heap.get? bm = some ob ∧ ob.cls = .type "module" ∧ ob.dict = some builtinsNs ∧ ob.data = .plain)
    (ha : s₁.heap.get? a = some { cls := .type "list", data := .seq vs.toArray }) (hi : IntsAre vs ns) (hl : ns.length ≤ sizeLine) (hr : Room k callerA)
    (F : ∀ base : Heap, K.In base → base.Ns mainGlobals mg → (∀ p ∈ cs, TabB base mg p.1 p.2) → FnG P w K mg base CX k fa fd [x] sp) (hbind : ∀ (s : Shared) (u : Value), BindsTo s fd ⟨[u], []⟩ [(x, u)])
    (hsp : ∀ H : Hp, (∀ p ∈ cs, H p.2 = some (.tbl #[])) → SqL K H a (ns.map V.int) → sp [.ref a] H (fun v _ => v = .bl true) fun _ _ _ => False)
    (hCX : ∀ H e s', CX [] H s₁ (fun _ _ _ => False) e s' → False) :
    codeAny (model P w) callerA (.call (.ref fa) ⟨[.ref a], []⟩) (fun r s' => r = .ok (.ret (.bool true)) ∧ OldK s₁.heap s'.heap ∧ s'.os = s₁.os ∧ AllBare s'.gens) s₁ := by
  have values := vals_ints hi
  have howmany := hi.length
  have tabAt : ∀ b ∈ cs.map (·.2), s₁.heap.get? b = some { cls := .none, data := .fields #[] } := fun b hb => by
    obtain ⟨p, hp, rfl⟩ := List.mem_map.mp hb
    exact hT p hp
  have tabK : ∀ b ∈ cs.map (·.2), K.lookup b = none := fun b hb => by
    obtain ⟨p, hp, rfl⟩ := List.mem_map.mp hb
    exact nT p hp
  have inT : ∀ p ∈ cs, p.2 ∈ cs.map (·.2) := fun p hp => List.mem_map_of_mem hp
  have notT : a ∉ cs.map (·.2) := fun z => by
    have y := congrArg Obj.data (Option.some.inj (ha.symm.trans (tabAt a z)))
    exact Data.noConfusion y
  have main : ∀ H : Hp, OnlyT (cs.map (·.2)) a H → SqL K H a (ns.map V.int) → HOk P w H s₁.heap → (H a ≠ none → K.lookup a = none) →
      codeAny (model P w) callerA (.call (.ref fa) ⟨[.ref a], []⟩) (fun r s' => r = .ok (.ret (.bool true)) ∧ OldK s₁.heap s'.heap ∧ s'.os = s₁.os ∧ AllBare s'.gens) s₁ := by
    intro H hO hS hok hK
    have below : ∀ {b : Addr} {o : Obj}, s₁.heap.get? b = some o → H b = none → (hidT s₁.heap H).get? b = some o := fun e n => hidT_get e n
    have free : ∀ {b : Addr} {o : Obj}, s₁.heap.get? b = some o → (∀ vs n, o.data ≠ .seq vs n) → o.data ≠ .fields #[] → H b = none := by
      intro b o e n1 n2
      rcases Classical.em (b ∈ cs.map (·.2)) with i | i
      · obtain rfl := Option.some.inj (e.symm.trans (tabAt b i))
        exact absurd rfl n2
      · rcases hO.own b i with z | ⟨rfl, _⟩
        · exact z
        · obtain rfl := Option.some.inj (e.symm.trans ha)
          exact absurd rfl (n1 _ _)
    have spaces : ∀ {b : Addr} {m : Str → Option Value}, s₁.heap.Ns b m → (hidT s₁.heap H).Ns b m := fun {b m} ⟨o, es, ep, e, d, r⟩ => ⟨o, es, ep, below e (free e (fun vs n z => by rw [d] at z; cases z) (fun z => by rw [d] at z; cases z)), d, r⟩
    have written : K.In (hidT s₁.heap H) := fun b o e => below (KX b o e) (by
      rcases Classical.em (b ∈ cs.map (·.2)) with i | i
      · rw [tabK b i] at e
        cases e
      · rcases hO.own b i with z | ⟨rfl, o', xs, z⟩
        · exact z
        · rw [hK (by rw [z]; simp)] at e
          cases e)
    have ground : Mod K mg (hidT s₁.heap H) := ⟨written, spaces hns, ⟨mb, spaces hb, hbb⟩, hlim.elim fun mc z => ⟨mc, spaces z.1, z.2⟩⟩
    have tables : ∀ p ∈ cs, TabB (hidT s₁.heap H) mg p.1 p.2 := fun p hp => by
      have nsD := hns
      obtain ⟨o, es, ep, e, d, _⟩ := nsD
      refine NdefX.tabB_of_K written (hd p hp) ?_ fun z => ?_
      · obtain ⟨bm, ob, b1, b2, b3, b4, b5, b6⟩ := hbm
        refine ⟨bm, ob, b1, b2, fun z => ?_, fun z => ?_, below b3 (free b3 (fun vs n z => by rw [b6] at z; cases z) fun z => by rw [b6] at z; cases z), b4, b5, b6⟩
        · rw [z] at b3
          obtain rfl := Option.some.inj (e.symm.trans b3)
          rw [d] at b6
          cases b6
        · rw [z] at b3
          obtain rfl := Option.some.inj ((hT p hp).symm.trans b3)
          cases b6
      · rw [z] at e
        obtain rfl := Option.some.inj ((hT p hp).symm.trans e)
        cases d
    have entry : Env0 P w K mg (hidT s₁.heap H) callerA [] s₁ H := ⟨rfl, ground, fun b o e => of_hidT e, Nat.le_of_eq (hidT_size _ _), trivial, fun b z => absurd (show b ∈ ([] : List Addr) from z) (by simp), hok, .of_eq hg⟩
    refine codeAny_mono ((F _ written (spaces hns) tables).run callerA [] s₁ H ⟨[.ref a], []⟩ [.ref a] [.ref a] _ _ rfl hr entry (hbind s₁ (.ref a)) (.cons rfl .nil) (hsp H (fun p hp => hO.tab _ (inT p hp)) hS)) fun r s' out => ?_
    cases r with
    | error e => exact (hCX H e s' out).elim
    | ok fl =>
      cases fl with
      | next => exact False.elim out
      | brk => exact False.elim out
      | cont => exact False.elim out
      | ret u =>
        obtain ⟨v, H', os, bare, un, hok', rv, rfl⟩ := out
        obtain rfl : u = Value.bool true := rv
        have stays : ∀ b o, b ∉ cs.map (·.2) → s₁.heap.get? b = some o → s'.heap.get? b = some o := fun b o i e => by
          rcases hO.own b i with z | ⟨_, ob, xs, z⟩
          · exact un.keep b o e z (fun y => absurd (show b ∈ ([] : List Addr) from y) (by simp)) (by simp)
          · obtain ⟨e1, _⟩ := hok b _ z
            obtain ⟨e2, _⟩ := hok' b _ (un.frzs b ob _ z)
            obtain rfl := Option.some.inj (e1.symm.trans e)
            exact e2
        have grows : ∀ b ∈ cs.map (·.2), ∃ more : Array Value, s'.heap.get? b = some { cls := .none, data := .fields more } := fun b i => by
          obtain ⟨more, z⟩ := un.tbls b #[] (hO.tab b i)
          exact ⟨_, hok' b _ z⟩
        refine ⟨rfl, ⟨fun b o e => ?_, fun b o e => ?_⟩, os, bare⟩
        · rcases Classical.em (b ∈ cs.map (·.2)) with i | i
          · obtain ⟨more, hm⟩ := grows b i
            obtain rfl := Option.some.inj ((tabAt b i).symm.trans e)
            obtain ⟨p, hp, rfl⟩ := List.mem_map.mp i
            exact .inr (.inl ⟨((PySem.W.codeHd_of_K KX (hd p hp)).tab (hT p hp)).isCodeTable, rfl, #[], more, rfl, by rw [Array.empty_append]; exact hm⟩)
          · exact .inl (stays b o i e)
        · rcases Classical.em (b ∈ cs.map (·.2)) with i | i
          · obtain ⟨more, hm⟩ := grows b i
            exact ⟨_, hm⟩
          · exact ⟨o, stays b o i e⟩
  rcases Option.eq_none_or_eq_some (K.lookup a) with freeK | ⟨o, own⟩
  · refine main (hpT (cs.map (·.2)) fun b => if b = a then some (.frz { cls := .type "list", data := .seq vs.toArray } (.lst (ns.map V.int))) else none) ⟨fun b i => hpT_in i, fun b i => ?_⟩ (.inl (.inr ⟨{ cls := .type "list", data := .seq vs.toArray }, (hpT_out notT).trans (if_pos rfl)⟩)) (fun b u z => ?_) fun _ => freeK
    · rcases Classical.em (b = a) with e | e
      · exact .inr ⟨e, _, _, (hpT_out i).trans (if_pos e)⟩
      · exact .inl ((hpT_out i).trans (if_neg e))
    · rcases Classical.em (b ∈ cs.map (·.2)) with i | i
      · obtain rfl := Option.some.inj ((hpT_in i).symm.trans z)
        exact tabAt b i
      · have z2 := (hpT_out i).symm.trans z
        rcases Classical.em (b = a) with e | e
        · subst e
          obtain rfl := Option.some.inj ((if_pos rfl).symm.trans z2)
          exact ⟨ha, by rw [List.length_map]; exact hl, vs, _, values, ha⟩
        · have y := (if_neg e).symm.trans z2
          cases y
  · obtain rfl := Option.some.inj ((KX a o own).symm.trans ha)
    refine main (hpT (cs.map (·.2)) fun _ => none) ⟨fun b i => hpT_in i, fun b i => .inl (hpT_out i)⟩ (.inr ⟨_, vs.toArray, _, own, rfl, rfl, rfl, by rw [List.size_toArray, howmany]; exact hl, by simpa using values⟩) (fun b u z => ?_) fun z => absurd (hpT_out notT) z
    rcases Classical.em (b ∈ cs.map (·.2)) with i | i
    · obtain rfl := Option.some.inj ((hpT_in i).symm.trans z)
      exact tabAt b i
    · have y := (hpT_out i).symm.trans z
      cases y
theorem walk_guardedT {l : PySem.W.OpenLaw} {n k : Nat} {q : Program} {loose : List Str} {XP : (Str → Option Value) → Heap → Prop} {YP : World → Heap → Prop} {d : DefRec} {CX : CXT} {x : Str}
    (hn : l.most = some n) (hn2 : n ≤ sizeLine) (hdf : d.params.defaults = []) (hr : Room k callerA)
    (F : ∀ (w : World) (mg : Str → Option Value) (fa : Addr) (h : Heap), YP w h → h.Ns mainGlobals mg → mg d.name = some (.ref fa) →
      ∃ (K : Frag) (fd : FuncData) (cs : List (Addr × Addr)) (sp : Sp), K.In h ∧ (∀ p ∈ cs, h.get? p.2 = some { cls := .none, data := .fields #[] }) ∧ (∀ p ∈ cs, K.lookup p.2 = none) ∧ (∀ p ∈ cs, PySem.W.codeHdIn K p.1 p.2 = true) ∧ (∀ (s : Shared) (u : Value), BindsTo s fd ⟨[u], []⟩ [(x, u)]) ∧
        (∀ (H : Hp) (a : Addr) (ns : List Int), ns.length ≤ n → (∀ p ∈ cs, H p.2 = some (.tbl #[])) → SqL K H a (ns.map V.int) → sp [.ref a] H (fun v _ => v = .bl true) fun _ _ _ => False) ∧
        ∀ base : Heap, K.In base → base.Ns mainGlobals mg → (∀ p ∈ cs, TabB base mg p.1 p.2) → FnG l.prog w K mg base CX k fa fd [x] sp)
    (hCX : ∀ (H : Hp) (s : Shared) (e : Value) (s' : Shared), CX [] H s (fun _ _ _ => False) e s' → False) :
    PySem.W.WalkO q loose XP YP l.row.toRowW d [] (fun f vs => PySem.call f vs) := by
  refine Att.attach_callB hn hdf fun w s₀ s₁ mg mb fa o pm cd doc a vs ns G Y _ _ _ hmg hobj hints hlen _ hg => ?_
  obtain ⟨K, fd, cs, sp, KX, hT, nT, hd, hb, hsp, hF⟩ := F w mg fa _ Y G.T.g hmg
  exact law_guardedT KX G.T.g G.T.b G.T.builtins G.T.nolimit hg hT nT hd G.T.bmain hobj hints (Nat.le_trans hlen hn2) hr hF hb (fun H h1 h2 => hsp H a ns hlen h1 h2) fun H e s' => hCX H s₁ e s'
end XE

/-! the head's facts: getters, and defs that make lambdas -/
namespace HP
open PySem PySem.Spec PyProof.Rows L2
open PySem.W (Frag)
structure SaysPX (fa : List He.Fa) (fn : List He.DefD) (gs : List GetD) (tf : List He.Defn) (ex : Frag → Bool) (w : World) (h : Heap) (K : Frag) : Prop where
  x : He.SaysX fa fn [] tf (fun K => (gs.all fun g => g.ok K) && ex K) w h K
  gets : gs.map (fun g => fnA K (g.addr K)) = gs.map GetD.val
abbrev AlPX : Type := He.AlX × List He.FnW
def obsPX (n : Nat) (fa : List He.Fa) (fn : List He.DefD) (gs : List GetD) (tf : List He.Defn) (ex : Frag → Bool) (g : Addr → Option Obj) : AlPX :=
  (He.obsX n fa fn [] tf (fun K => (gs.all fun g => g.ok K) && ex K) g, gs.map (fun d => fnA (He.frT g (He.asD g n)) (d.addr (He.frT g (He.asD g n)))))
def valPX (fn : List He.DefD) (gs : List GetD) (w : World) : AlPX := (He.valX fn [] w, gs.map GetD.val)
theorem saysPX_of {n : Nat} {fa : List He.Fa} {fn : List He.DefD} {gs : List GetD} {tf : List He.Defn} {ex : Frag → Bool} {w : World} {h : Heap} (e : obsPX n fa fn gs tf ex h.get? = valPX fn gs w) : SaysPX fa fn gs tf ex w h (He.frT h.get? (He.asD h.get? n)) := by
  have e1 := congrArg (fun z : AlPX => z.1) e
  have e2 := congrArg (fun z : AlPX => z.2) e
  exact ⟨He.saysX_of e1, e2⟩
def hookPX (n : Nat) (fa : List He.Fa) (fn : List He.DefD) (gs : List GetD) (tf : List He.Defn) (ex : Frag → Bool) : PySem.W.Hook where
  α := AlPX
  obs := fun s => obsPX n fa fn gs tf ex s.heap.get?
  val := fun w => valPX fn gs w
  says := fun w h => ∃ K : Frag, K.In h ∧ SaysPX fa fn gs tf ex w h K
  of := fun _ _ e => ⟨_, He.frT_in, saysPX_of e⟩
  keeps := fun _ _ _ ⟨K, hK, c⟩ k => ⟨K, PySem.W.Frag.In.keeps hK k, ⟨⟨c.x.t, c.x.more, c.x.hd, c.x.out, fun p hp => k _ _ (c.x.empty p hp)⟩, c.gets⟩⟩
theorem obsPX_eq {n : Nat} {fa : List He.Fa} {fn : List He.DefD} {gs : List GetD} {tf : List He.Defn} {ex : Frag → Bool} {g : Addr → Option Obj} {s : Shared} (h : ∀ a, g a = s.heap.get? a) : obsPX n fa fn gs tf ex g = (hookPX n fa fn gs tf ex).obs s := by
  have e : g = s.heap.get? := funext h
  rw [e] <;> rfl
theorem SaysPX.get {fa : List He.Fa} {fn : List He.DefD} {gs : List GetD} {tf : List He.Defn} {ex : Frag → Bool} {w : World} {h : Heap} {K : Frag} (c : SaysPX fa fn gs tf ex w h K) (i : Nat) {d : GetD} (h : gs[i]? = some d := by rfl) : ∃ fd, FunD K d.name d.qual d.params d.body d.scope [] [] (d.addr K) fd := by
  have e : (gs.map fun g => fnA K (g.addr K))[i]? = (gs.map GetD.val)[i]? := by rw [c.gets]
  rw [List.getElem?_map, List.getElem?_map, h] at e
  exact GetD.funD (Option.some.inj e) (List.all_eq_true.mp (He.ba c.x.more).1 d (List.mem_of_getElem? h))
theorem SaysPX.ex {fa : List He.Fa} {fn : List He.DefD} {gs : List GetD} {tf : List He.Defn} {ex : Frag → Bool} {w : World} {h : Heap} {K : Frag} (c : SaysPX fa fn gs tf ex w h K) : ex K = true := (He.ba c.x.more).2
theorem fnG {P : Program} {w : World} {K : Frag} {mg : Str → Option Value} {base : Heap} {CX : CXT} {k : Nat} {f : Addr} {fd : FuncData} {ps : List Str} {sp : Sp} (F : FnOk P w K mg base CX k f fd ps sp) : XE.FnG P w K mg base CX k f fd ps sp :=
  ⟨F.len, fun A outer s H args us vs Q E _ hr e0 hb r hsp => F.run A outer s H args us vs Q E hr e0 hb r hsp⟩
end HP

/-! the head's facts: classes of errors with an own __init__; books; tables -/
namespace HP
open PySem PySem.Spec PyProof.Rows L2 XE
open PySem.W (Frag)
def fieldB (K : Frag) (C : Addr) (f : Str) : Bool := He.eqO (PySem.W.takerIn K C f) (some none) && He.eqO (PySem.W.findIn K (.ref C) f) (some none)
def ownChk (bm : List Value) (nw : String) (fs : List Str) (K : Frag) (C : Addr) : Bool := PySem.W.excInitIn K C bm nw && (PySem.W.excOver K C bm && (He.eqO (PySem.W.findIn K (.ref C) "__setattr__") (some (some (.builtin "object.__setattr__"))) && (PySem.W.hasDictIn K C &&
  (He.eqO (PySem.W.findIn K (.ref C) "__init__") (some (some (.ref (He.ma K C "__init__")))) && (PySem.W.isFn K (.ref (He.ma K C "__init__")) && (decide (PySem.W.subIn K (.ref C) (.type "BaseException") = some true) && (decide (PySem.W.typeIn K (.ref C) = some (.type "type")) && (xfB K C &&
  (PySem.W.keepIn K (.ref C) && fs.all fun f => fieldB K C f)))))))))
structure OwnE (fs : List Str) (K : Frag) (C : Addr) : Prop where
  init : InitC K C (He.ma K C "__init__")
  sub : PySem.W.subIn K (.ref C) (.type "BaseException") = some true
  ty : PySem.W.typeIn K (.ref C) = some (.type "type")
  xf : XfC K C
  tk : ∀ f ∈ fs, PySem.W.takerIn K C f = some none
  fd : ∀ f ∈ fs, PySem.W.findIn K (.ref C) f = some none
theorem ownChk_ok {B : String} {newId initId : String} {bm : List Value} {fs : List Str} {K : Frag} {C : Addr} (fb : ExcBaseFacts B newId initId bm) (sf : StoreFacts B bm "object.__setattr__" "object") (h : ownChk bm newId fs K C = true) : OwnE fs K C := by
  obtain ⟨h1, h⟩ := He.ba h
  obtain ⟨h2, h⟩ := He.ba h
  obtain ⟨h3, h⟩ := He.ba h
  obtain ⟨h4, h⟩ := He.ba h
  obtain ⟨h5, h⟩ := He.ba h
  obtain ⟨h6, h⟩ := He.ba h
  obtain ⟨h7, h⟩ := He.ba h
  obtain ⟨h8, h⟩ := He.ba h
  obtain ⟨h9, h⟩ := He.ba h
  obtain ⟨h10, h11⟩ := He.ba h
  have fl := fun f (m : f ∈ fs) => He.ba (List.all_eq_true.mp h11 f m)
  exact ⟨⟨⟨_, _, _, _, fb, sf, h1, h2⟩, He.eqO_ok h3, h4, He.eqO_ok h5, h6, h10⟩, of_decide_eq_true h7, of_decide_eq_true h8, xfB_ok h9, fun f m => He.eqO_ok (fl f m).1, fun f m => He.eqO_ok (fl f m).2⟩
/-! ### the tables of the defs that make lambdas -/
def lamOf (p : He.Defn) : Str := match p.2 with
  | none => p.1 ++ ".<locals>." ++ "<lambda>"
  | some m => p.1 ++ "." ++ m ++ ".<locals>." ++ "<lambda>"
def tabsOf (tf : List He.Defn) (K : Frag) : List (Addr × Str) := tf.map fun p => ((He.cT K p).2, lamOf p)
def tabsB (tf : List He.Defn) (K : Frag) : Bool := decide ((tf.map fun p => (He.cT K p).2).Nodup)
theorem tab_in {tf : List He.Defn} {K : Frag} {q : He.Defn} (h : q ∈ tf) : ((He.cT K q).2, lamOf q) ∈ tabsOf tf K := List.mem_map.mpr ⟨q, h, rfl⟩
theorem nodup_map_inj {α β : Type} {f : α → β} : ∀ {l : List α}, (l.map f).Nodup → ∀ a ∈ l, ∀ b ∈ l, f a = f b → a = b
  | [], _, a, m, _, _, _ => by cases m
  | x :: l, h, a, ma, b, mb, e => by
    rw [List.map_cons, List.nodup_cons] at h
    rcases List.mem_cons.mp ma with ea | ma'
    · rcases List.mem_cons.mp mb with eb | mb'
      · rw [ea, eb]
      · exact absurd (List.mem_map.mpr ⟨b, mb', by rw [← e, ea]⟩) h.1
    · rcases List.mem_cons.mp mb with eb | mb'
      · exact absurd (List.mem_map.mpr ⟨a, ma', by rw [e, eb]⟩) h.1
      · exact nodup_map_inj h.2 a ma' b mb' e
theorem tab_one {tf : List He.Defn} {K : Frag} (h : tabsB tf K = true) {q : He.Defn} (hq : q ∈ tf) : ∀ p ∈ tabsOf tf K, p.1 = (He.cT K q).2 → p.2 = lamOf q := by
  intro p hp e
  obtain ⟨r, hr, rfl⟩ := List.mem_map.mp hp
  have n := of_decide_eq_true h
  rw [nodup_map_inj n r hr q hq e]
/-! ### the hook that tells of getters, classmethods and tables at once -/
abbrev frS (g : Addr → Option Obj) (n : Nat) : Frag := He.frT g (He5.asA g n)
def obsPA (n : Nat) (fa : List He.Fa) (fn : List He.DefD) (gs : List GetD) (tf : List He.Defn) (ex : Frag → Bool) (g : Addr → Option Obj) : AlPX :=
  ((He.obsT fa fn [] (frS g n), ((gs.all fun d => d.ok (frS g n)) && ex (frS g n)) && He.tabsB g tf (frS g n)), gs.map fun d => fnA (frS g n) (d.addr (frS g n)))
theorem saysPA_of {n : Nat} {fa : List He.Fa} {fn : List He.DefD} {gs : List GetD} {tf : List He.Defn} {ex : Frag → Bool} {w : World} {h : Heap} (e : obsPA n fa fn gs tf ex h.get? = valPX fn gs w) : SaysPX fa fn gs tf ex w h (frS h.get? n) := by
  have e1 := congrArg (fun z : AlPX => z.1.1) e
  have e2 := congrArg (fun z : AlPX => z.1.2) e
  have e3 := congrArg (fun z : AlPX => z.2) e
  obtain ⟨m, tb⟩ := He.ba (show (((gs.all fun d => d.ok (frS h.get? n)) && ex (frS h.get? n)) && He.tabsB h.get? tf (frS h.get? n)) = true from e2)
  have one : ∀ q ∈ tf, PySem.W.codeHdIn (frS h.get? n) (He.cT (frS h.get? n) q).1 (He.cT (frS h.get? n) q).2 = true ∧ ∃ u, h.get? (He.cT (frS h.get? n) q).2 = some u ∧ He.emptyTab u = true := by
    intro q hq
    obtain ⟨a, b⟩ := He.ba (List.all_eq_true.mp tb q hq)
    cases there : h.get? (He.cT (frS h.get? n) q).2 with
    | none => rw [there] at b; cases b
    | some u => rw [there] at b; exact ⟨a, u, rfl, b⟩
  refine ⟨⟨e1, m, fun q hq => (one q hq).1, fun q hq => ?_, fun q hq => ?_⟩, e3⟩
  · obtain ⟨_, u, there, em⟩ := one q hq
    exact He.frT_none there em
  · obtain ⟨_, u, there, em⟩ := one q hq
    rw [there, He.emptyTab_eq em]
def hookPA (n : Nat) (fa : List He.Fa) (fn : List He.DefD) (gs : List GetD) (tf : List He.Defn) (ex : Frag → Bool) : PySem.W.Hook where
  α := AlPX
  obs := fun s => obsPA n fa fn gs tf ex s.heap.get?
  val := fun w => valPX fn gs w
  says := fun w h => ∃ K : Frag, K.In h ∧ SaysPX fa fn gs tf ex w h K
  of := fun _ _ e => ⟨_, He.frT_in, saysPA_of e⟩
  keeps := fun _ _ _ ⟨K, hK, c⟩ k => ⟨K, PySem.W.Frag.In.keeps hK k, ⟨⟨c.x.t, c.x.more, c.x.hd, c.x.out, fun p hp => k _ _ (c.x.empty p hp)⟩, c.gets⟩⟩
theorem obsPA_eq {n : Nat} {fa : List He.Fa} {fn : List He.DefD} {gs : List GetD} {tf : List He.Defn} {ex : Frag → Bool} {g : Addr → Option Obj} {s : Shared} (h : ∀ a, g a = s.heap.get? a) : obsPA n fa fn gs tf ex g = (hookPA n fa fn gs tf ex).obs s := by
  have e : g = s.heap.get? := funext h
  rw [e] <;> rfl
end HP

/-! the head's facts -/
namespace B73
open PySem PySem.Spec PyProof.Rows L2 XE
open PySem.W (Frag)
def dG (x : Str) (st : Stmt) : He.DefD := ⟨(x, none), x, x, defArgs st, defBody st, defScope st, [], []⟩
def dN (x y : Str) (st : Stmt) : He.DefD := ⟨(x, none), y, y, defArgs st, defBody st, defScope st, [], []⟩
def dM (c x : Str) (st : Stmt) : He.DefD := ⟨(c, some x), x, c ++ "." ++ x, defArgs st, defBody st, defScope st, [], []⟩
def gM (c : Str) (t : String) (x : Str) (st : Stmt) : HP.GetD := ⟨fun K => He5.wf K (He.ga K c) t x, x, c ++ "." ++ x, defArgs st, defBody st, defScope st⟩
def fn : List He.DefD := [dG "is_integer" sIsInteger, dG "is_letters" sIsLetters, dG "is_text" sIsText, dG "_is_spelled" sIsSpelled, dG "check_letters" sCheckLetters, dG "check_text" sCheckText, dG "check_number" sCheckNumber, dG "guide_of" sGuideOf, dG "mirror_of" sMirrorOf, dG "closed" sClosed, dG "mirror_close" sMirrorClose, dG "_law_jug" sJug, dG "_law_bit" sBit, dG "_law_pick" sPick, dG "_law_dealt" sDealt, dG "_law_signs" sSigns, dG "_law_line" sLine, dG "_law_guide" sGuide, dG "_law_guide_sign" sSign, dG "_law_mirror_close" sLawClose, dG "_law_begin_of" sBegin, dG "_law_close_right" sCloseRight, dG "_law_other_telling" sTelling, dG "_law_is_told" sIsTold, dG "_law_first_unlike" sUnlike, dG "_law_pair_right" sPair, dG "_law_right" sRight, dG "law" sLaw, dM "MirrorRow" "__init__" sRowInit, dM "MirrorRow" "guide" sRowGuide, dM "MirrorRow" "start" sRowStart, dM "MirrorRow" "__eq__" sRowEq, dM "MirrorRow" "__str__" sRowStr, dM "InvalidNumber" "__init__" sInitN]
def gs : List HP.GetD := [gM "MirrorRow" "property" "letters" sRowLetters, gM "MirrorRow" "property" "head" sRowHead, gM "MirrorRow" "property" "again" sRowAgain]
def fa : List He.Fa := [.glo "is_integer", .glo "is_letters", .glo "is_text", .glo "_is_spelled", .glo "check_letters", .glo "check_text", .glo "check_number", .glo "guide_of", .glo "mirror_of", .glo "closed", .glo "mirror_close", .glo "_law_jug", .glo "_law_bit", .glo "_law_pick", .glo "_law_dealt", .glo "_law_signs", .glo "_law_line", .glo "_law_guide", .glo "_law_guide_sign", .glo "_law_mirror_close", .glo "_law_begin_of", .glo "_law_close_right", .glo "_law_other_telling", .glo "_law_is_told", .glo "_law_first_unlike", .glo "_law_pair_right", .glo "_law_right", .glo "law", .glo "InvalidLetters", .glo "InvalidText", .glo "InvalidOperation", .glo "InvalidNumber", .glo "MirrorRow", .int "_TOO_LONG" ((10 ^ 50) ^ 4), .int "MAX_LETTERS" 3, .int "MAX_WORD" 400, .int "MAX_TEXT" 4000, .int "MAX_GUIDE" 20, .int "MAX_STANDING" 60, .free "isinstance", .free "int", .free "bool", .free "str", .free "tuple", .free "abs", .free "len", .free "sorted", .free "set", .free "all", .free "range", .free "max", .free "min", .free "list", .cls "MirrorRow", .mkr "MirrorRow", .noat "MirrorRow" "_letters", .noat "MirrorRow" "_head", .noat "MirrorRow" "_again", .meth "MirrorRow" "__init__", .meth "MirrorRow" "guide", .meth "MirrorRow" "start", .meth "MirrorRow" "__eq__", .meth "MirrorRow" "__str__", .exc "InvalidLetters", .exc "InvalidText", .exc "InvalidOperation"]
def tf : List He.Defn := []
def allN : List String := ["NoneType", "int", "bool", "str", "tuple", "list", "dict"]
def clsChk (K : Frag) (C : Addr) : Bool := He.eqO (PySem.W.findIn K (.ref C) "__class__") (some (some (.builtin "object.__class__"))) && (He.eqO (PySem.W.specialIn K (.builtin "object.__class__") "__get__") (some (some (.builtin "getset_descriptor.__get__"))) &&
  (decide (PySem.W.takesIn K (.builtin "object.__class__") = some true) && (decide (PySem.W.mroIn K C (.type "object") = some true) && (decide (PySem.W.kitOne K (.ref C) (.ref C) = some true) && (decide (PySem.W.kitOne K (.ref C) (.type "str") = some false) &&
  (allN.all fun T => decide (PySem.W.kitOne K (.type T) (.ref C) = some false) && PySem.W.notFirst K C (.type T)))))))
def neChk (K : Frag) (C : Addr) : Bool := He.eqO (PySem.W.findIn K (.ref C) "__ne__") (some (some (.builtin "object.__ne__"))) && decide (PySem.W.subIn K (.ref C) (.type "object") = some true)
def ex (K : Frag) : Bool := (HP.ownChk [.type "IndexError", .type "LookupError", .type "Exception", .type "BaseException", .type "object"] "IndexError.__new__" ["value"] K (He.ga K "InvalidNumber")) && ((clsChk K (He.ga K "MirrorRow")) && ((HP.propB K (He.ga K "MirrorRow") "letters") && ((HP.propB K (He.ga K "MirrorRow") "head") && ((HP.propB K (He.ga K "MirrorRow") "again") && ((neChk K (He.ga K "MirrorRow")))))))
abbrev R : PySem.W.OpenRow := PySem.W.OpenLaw.row PySem.Challenge.rw_twowaycuts_k73_whole_mirror_rows_and_the
abbrev hk : PySem.W.Hook := HP.hookPA 7 fa fn gs tf ex
def ob (s : PySem.W.SharedT) : HP.AlPX := HP.obsPA 7 fa fn gs tf ex (HandSHeadRun.getT s)
theorem ob_eq (s : PySem.W.SharedT) : ob s = hk.obs s.abs := HP.obsPA_eq (HandSHeadRun.getT_eq s)
def loose : List Str := (["InvalidLetters", "InvalidText", "InvalidOperation", "InvalidNumber", "MirrorRow", "BookError", "stretches", "_TOO_LONG", "MAX_LETTERS", "MAX_WORD", "MAX_TEXT", "MAX_GUIDE"] : List Str) ++ (["MAX_STANDING", "is_integer", "is_letters", "is_text", "_is_spelled", "check_letters", "check_text", "check_number", "guide_of", "mirror_of", "closed", "mirror_close"] : List Str) ++ (["_law_jug", "_law_bit", "_law_pick", "_law_dealt", "_law_signs", "_law_line", "_law_guide", "_law_guide_sign", "_law_mirror_close", "_law_begin_of", "_law_close_right", "_law_other_telling"] : List Str) ++ (["_law_is_told", "_law_first_unlike", "_law_pair_right", "_law_right", "law"] : List Str)
set_option maxHeartbeats 0 in
theorem run (w : World) : HandSHeadRun.RunEq R (PySem.W.view R.prog [45]) hk ob 12000 loose w := by
  intro os
  kernel_rfl
end B73

namespace B73
open PySem PySem.Spec PyProof.Rows L2 XB LamX XE
open PySem.W (Frag)
theorem clsChk_ok {K : Frag} {C : Addr} (c : Cls K C) (nl : NoAttr K C "_letters") (nw : NoAttr K C "_head") (nk : NoAttr K C "_again") (h : clsChk K C = true) : RowK K C := by
  obtain ⟨h1, h⟩ := He.ba h
  obtain ⟨h2, h⟩ := He.ba h
  obtain ⟨h3, h⟩ := He.ba h
  obtain ⟨h4, h⟩ := He.ba h
  obtain ⟨h5, h⟩ := He.ba h
  obtain ⟨h6, h7⟩ := He.ba h
  refine ⟨c, nl, nw, nk, He.eqO_ok h1, He.eqO_ok h2, of_decide_eq_true h3, of_decide_eq_true h4, of_decide_eq_true h5, of_decide_eq_true h6, fun T hT => ?_⟩
  obtain ⟨a, b⟩ := He.ba (List.all_eq_true.mp h7 T hT)
  exact ⟨of_decide_eq_true a, b⟩
theorem plain_ok {K : Frag} {mg : Str → Option Value} {x : Str} (at_ : mg x = some (.ref (He.ga K x))) (h : (He.Fa.exc x).ok K = true) : Plain K mg x (He.ga K x) := by
  have h : (PySem.W.excIn K (He.ga K x) He.veBase "ValueError.__new__" && (PySem.W.keepIn K (.ref (He.ga K x)) && (decide (PySem.W.subIn K (.ref (He.ga K x)) (.type "BaseException") = some true) && decide (PySem.W.typeIn K (.ref (He.ga K x)) = some (.type "type"))))) = true := h
  obtain ⟨h1, h⟩ := He.ba h
  obtain ⟨h2, h⟩ := He.ba h
  obtain ⟨h3, h4⟩ := He.ba h
  exact ⟨at_, h2, h1, of_decide_eq_true h3, of_decide_eq_true h4⟩
theorem codeAt {K : Frag} {x qual : Str} {params : Arguments} {body : List Stmt} {scope : Scope} {dvs : List V} {kws : List (Str × V)} {p : He.Defn} {fd : FuncData} (F : FunD K x qual params body scope dvs kws (He.fAd K p) fd) : CodeAt K (He.fAd K p) (He.cT K p).1 := by
  obtain ⟨oc, od, dV, kV, doc, pm, an, cdv, ct, osl, rfl, lk, hcd, _, _⟩ := F.ex
  obtain ⟨c, rfl⟩ := He.codeIn_ref hcd
  intro oc' od' fd' osl' lk'
  have e : He.codeOf K p = c := He.codeOf_eq lk rfl
  rw [lk] at lk'
  cases lk'
  show (Value.ref c) = .ref (He.codeOf K p)
  rw [e]
set_option maxHeartbeats 0 in
theorem all_facts {P : Program} {w : World} {K : Frag} {h : Heap} {mg : Str → Option Value} {f : Addr} (X : K.In h) (G : h.Ns mainGlobals mg) (hfa : mg ("law" : Str) = some (.ref f)) (c : HP.SaysPX fa fn gs tf ex w h K) :
    ∃ fd : FuncData, (∀ (s : Shared) (v : Value), BindsTo s fd ⟨[v], []⟩ [("script", v)]) ∧ ∀ base : Heap, K.In base → base.Ns mainGlobals mg → (∀ p ∈ tf.map (He.cT K), TabB base mg p.1 p.2) → FnG P w K mg base CX0 10 f fd ["script"] (spLaw (HP.tabsOf tf K) K) := by
  have cd := c.x.t.d
  obtain ⟨dIsInteger, FIsInteger⟩ := cd.def_ 0 (d := dG "is_integer" sIsInteger) rfl
  have bIsInteger : Binds K dIsInteger ["value"] [] := FunD.bindsN FIsInteger fun _ _ _ _ _ _ us hl => match us, hl with | [_], _ => rfl
  obtain ⟨dIsLetters, FIsLetters⟩ := cd.def_ 1 (d := dG "is_letters" sIsLetters) rfl
  have bIsLetters : Binds K dIsLetters ["value"] [] := FunD.bindsN FIsLetters fun _ _ _ _ _ _ us hl => match us, hl with | [_], _ => rfl
  obtain ⟨dIsText, FIsText⟩ := cd.def_ 2 (d := dG "is_text" sIsText) rfl
  have bIsText : Binds K dIsText ["letters", "value"] [] := FunD.bindsN FIsText fun _ _ _ _ _ _ us hl => match us, hl with | [_, _], _ => rfl
  obtain ⟨dIsSpelled, FIsSpelled⟩ := cd.def_ 3 (d := dG "_is_spelled" sIsSpelled) rfl
  have bIsSpelled : Binds K dIsSpelled ["letters", "value"] [] := FunD.bindsN FIsSpelled fun _ _ _ _ _ _ us hl => match us, hl with | [_, _], _ => rfl
  obtain ⟨dCheckLetters, FCheckLetters⟩ := cd.def_ 4 (d := dG "check_letters" sCheckLetters) rfl
  have bCheckLetters : Binds K dCheckLetters ["letters"] [] := FunD.bindsN FCheckLetters fun _ _ _ _ _ _ us hl => match us, hl with | [_], _ => rfl
  obtain ⟨dCheckText, FCheckText⟩ := cd.def_ 5 (d := dG "check_text" sCheckText) rfl
  have bCheckText : Binds K dCheckText ["letters", "text"] [] := FunD.bindsN FCheckText fun _ _ _ _ _ _ us hl => match us, hl with | [_, _], _ => rfl
  obtain ⟨dCheckNumber, FCheckNumber⟩ := cd.def_ 6 (d := dG "check_number" sCheckNumber) rfl
  have bCheckNumber : Binds K dCheckNumber ["value", "low", "high"] [] := FunD.bindsN FCheckNumber fun _ _ _ _ _ _ us hl => match us, hl with | [_, _, _], _ => rfl
  obtain ⟨dGuideOf, FGuideOf⟩ := cd.def_ 7 (d := dG "guide_of" sGuideOf) rfl
  have bGuideOf : Binds K dGuideOf ["head", "again", "size"] [] := FunD.bindsN FGuideOf fun _ _ _ _ _ _ us hl => match us, hl with | [_, _, _], _ => rfl
  obtain ⟨dMirrorOf, FMirrorOf⟩ := cd.def_ 8 (d := dG "mirror_of" sMirrorOf) rfl
  have bMirrorOf : Binds K dMirrorOf ["head", "again", "size", "part"] [] := FunD.bindsN FMirrorOf fun _ _ _ _ _ _ us hl => match us, hl with | [_, _, _, _], _ => rfl
  obtain ⟨dClosed, FClosed⟩ := cd.def_ 9 (d := dG "closed" sClosed) rfl
  have bClosed : Binds K dClosed ["text", "ahead", "letter"] [] := FunD.bindsN FClosed fun _ _ _ _ _ _ us hl => match us, hl with | [_, _, _], _ => rfl
  obtain ⟨dMirrorClose, FMirrorClose⟩ := cd.def_ 10 (d := dG "mirror_close" sMirrorClose) rfl
  have bMirrorClose : Binds K dMirrorClose ["letters", "text"] [] := FunD.bindsN FMirrorClose fun _ _ _ _ _ _ us hl => match us, hl with | [_, _], _ => rfl
  obtain ⟨dJug, FJug⟩ := cd.def_ 11 (d := dG "_law_jug" sJug) rfl
  have bJug : Binds K dJug ["script", "at"] [] := FunD.bindsN FJug fun _ _ _ _ _ _ us hl => match us, hl with | [_, _], _ => rfl
  obtain ⟨dBit, FBit⟩ := cd.def_ 12 (d := dG "_law_bit" sBit) rfl
  have bBit : Binds K dBit ["jug", "much"] [] := FunD.bindsN FBit fun _ _ _ _ _ _ us hl => match us, hl with | [_, _], _ => rfl
  obtain ⟨dPick, FPick⟩ := cd.def_ 13 (d := dG "_law_pick" sPick) rfl
  have bPick : Binds K dPick ["jug", "items"] [] := FunD.bindsN FPick fun _ _ _ _ _ _ us hl => match us, hl with | [_, _], _ => rfl
  obtain ⟨dDealt, FDealt⟩ := cd.def_ 14 (d := dG "_law_dealt" sDealt) rfl
  have bDealt : Binds K dDealt ["jug", "items"] [] := FunD.bindsN FDealt fun _ _ _ _ _ _ us hl => match us, hl with | [_, _], _ => rfl
  obtain ⟨dSigns, FSigns⟩ := cd.def_ 15 (d := dG "_law_signs" sSigns) rfl
  have bSigns : Binds K dSigns ["jug"] [] := FunD.bindsN FSigns fun _ _ _ _ _ _ us hl => match us, hl with | [_], _ => rfl
  obtain ⟨dLine, FLine⟩ := cd.def_ 16 (d := dG "_law_line" sLine) rfl
  have bLine : Binds K dLine ["jug", "signs", "most"] [] := FunD.bindsN FLine fun _ _ _ _ _ _ us hl => match us, hl with | [_, _, _], _ => rfl
  obtain ⟨dGuide, FGuide⟩ := cd.def_ 17 (d := dG "_law_guide" sGuide) rfl
  have bGuide : Binds K dGuide ["jug", "signs"] [] := FunD.bindsN FGuide fun _ _ _ _ _ _ us hl => match us, hl with | [_, _], _ => rfl
  obtain ⟨dSign, FSign⟩ := cd.def_ 18 (d := dG "_law_guide_sign" sSign) rfl
  have bSign : Binds K dSign ["guide", "at"] [] := FunD.bindsN FSign fun _ _ _ _ _ _ us hl => match us, hl with | [_, _], _ => rfl
  obtain ⟨dLawClose, FLawClose⟩ := cd.def_ 19 (d := dG "_law_mirror_close" sLawClose) rfl
  have bLawClose : Binds K dLawClose ["line"] [] := FunD.bindsN FLawClose fun _ _ _ _ _ _ us hl => match us, hl with | [_], _ => rfl
  obtain ⟨dBegin, FBegin⟩ := cd.def_ 20 (d := dG "_law_begin_of" sBegin) rfl
  have bBegin : Binds K dBegin ["guide", "size_of_it"] [] := FunD.bindsN FBegin fun _ _ _ _ _ _ us hl => match us, hl with | [_, _], _ => rfl
  obtain ⟨dCloseRight, FCloseRight⟩ := cd.def_ 21 (d := dG "_law_close_right" sCloseRight) rfl
  have bCloseRight : Binds K dCloseRight ["jug", "signs"] [] := FunD.bindsN FCloseRight fun _ _ _ _ _ _ us hl => match us, hl with | [_, _], _ => rfl
  obtain ⟨dTelling, FTelling⟩ := cd.def_ 22 (d := dG "_law_other_telling" sTelling) rfl
  have bTelling : Binds K dTelling ["jug", "guide"] [] := FunD.bindsN FTelling fun _ _ _ _ _ _ us hl => match us, hl with | [_, _], _ => rfl
  obtain ⟨dIsTold, FIsTold⟩ := cd.def_ 23 (d := dG "_law_is_told" sIsTold) rfl
  have bIsTold : Binds K dIsTold ["row", "signs", "guide"] [] := FunD.bindsN FIsTold fun _ _ _ _ _ _ us hl => match us, hl with | [_, _, _], _ => rfl
  obtain ⟨dUnlike, FUnlike⟩ := cd.def_ 24 (d := dG "_law_first_unlike" sUnlike) rfl
  have bUnlike : Binds K dUnlike ["one", "two"] [] := FunD.bindsN FUnlike fun _ _ _ _ _ _ us hl => match us, hl with | [_, _], _ => rfl
  obtain ⟨dPair, FPair⟩ := cd.def_ 25 (d := dG "_law_pair_right" sPair) rfl
  have bPair : Binds K dPair ["signs", "one", "two"] [] := FunD.bindsN FPair fun _ _ _ _ _ _ us hl => match us, hl with | [_, _, _], _ => rfl
  obtain ⟨dRight, FRight⟩ := cd.def_ 26 (d := dG "_law_right" sRight) rfl
  have bRight : Binds K dRight ["jug"] [] := FunD.bindsN FRight fun _ _ _ _ _ _ us hl => match us, hl with | [_], _ => rfl
  obtain ⟨dLaw, FLaw⟩ := cd.def_ 27 (d := dG "law" sLaw) rfl
  have bLaw : Binds K dLaw ["script"] [] := FunD.bindsN FLaw fun _ _ _ _ _ _ us hl => match us, hl with | [_], _ => rfl
  obtain ⟨dRowInit, FRowInit⟩ := cd.def_ 28 (d := dM "MirrorRow" "__init__" sRowInit) rfl
  have bRowInit : Binds K dRowInit ["self", "letters", "head", "again"] [] := FunD.bindsN FRowInit fun _ _ _ _ _ _ us hl => match us, hl with | [_, _, _, _], _ => rfl
  obtain ⟨dRowGuide, FRowGuide⟩ := cd.def_ 29 (d := dM "MirrorRow" "guide" sRowGuide) rfl
  have bRowGuide : Binds K dRowGuide ["self", "size"] [] := FunD.bindsN FRowGuide fun _ _ _ _ _ _ us hl => match us, hl with | [_, _], _ => rfl
  obtain ⟨dRowStart, FRowStart⟩ := cd.def_ 30 (d := dM "MirrorRow" "start" sRowStart) rfl
  have bRowStart : Binds K dRowStart ["self", "size"] [] := FunD.bindsN FRowStart fun _ _ _ _ _ _ us hl => match us, hl with | [_, _], _ => rfl
  obtain ⟨dRowEq, FRowEq⟩ := cd.def_ 31 (d := dM "MirrorRow" "__eq__" sRowEq) rfl
  have bRowEq : Binds K dRowEq ["self", "other"] [] := FunD.bindsN FRowEq fun _ _ _ _ _ _ us hl => match us, hl with | [_, _], _ => rfl
  obtain ⟨dRowStr, FRowStr⟩ := cd.def_ 32 (d := dM "MirrorRow" "__str__" sRowStr) rfl
  have bRowStr : Binds K dRowStr ["self"] [] := FunD.bindsN FRowStr fun _ _ _ _ _ _ us hl => match us, hl with | [_], _ => rfl
  obtain ⟨dInitN, FInitN⟩ := cd.def_ 33 (d := dM "InvalidNumber" "__init__" sInitN) rfl
  have bInitN : Binds K dInitN ["self", "value"] [] := FunD.bindsN FInitN fun _ _ _ _ _ _ us hl => match us, hl with | [_, _], _ => rfl
  obtain ⟨dRowLetters, FRowLetters⟩ := c.get 0 (d := gM "MirrorRow" "property" "letters" sRowLetters) rfl
  have bRowLetters : Binds K dRowLetters ["self"] [] := FunD.bindsN FRowLetters fun _ _ _ _ _ _ us hl => match us, hl with | [_], _ => rfl
  obtain ⟨dRowHead, FRowHead⟩ := c.get 1 (d := gM "MirrorRow" "property" "head" sRowHead) rfl
  have bRowHead : Binds K dRowHead ["self"] [] := FunD.bindsN FRowHead fun _ _ _ _ _ _ us hl => match us, hl with | [_], _ => rfl
  obtain ⟨dRowAgain, FRowAgain⟩ := c.get 2 (d := gM "MirrorRow" "property" "again" sRowAgain) rfl
  have bRowAgain : Binds K dRowAgain ["self"] [] := FunD.bindsN FRowAgain fun _ _ _ _ _ _ us hl => match us, hl with | [_], _ => rfl
  have gIsInteger := He.glo_ok X G (cd.fact 0 (f := .glo "is_integer") rfl)
  have gIsLetters := He.glo_ok X G (cd.fact 1 (f := .glo "is_letters") rfl)
  have gIsText := He.glo_ok X G (cd.fact 2 (f := .glo "is_text") rfl)
  have gIsSpelled := He.glo_ok X G (cd.fact 3 (f := .glo "_is_spelled") rfl)
  have gCheckLetters := He.glo_ok X G (cd.fact 4 (f := .glo "check_letters") rfl)
  have gCheckText := He.glo_ok X G (cd.fact 5 (f := .glo "check_text") rfl)
  have gCheckNumber := He.glo_ok X G (cd.fact 6 (f := .glo "check_number") rfl)
  have gGuideOf := He.glo_ok X G (cd.fact 7 (f := .glo "guide_of") rfl)
  have gMirrorOf := He.glo_ok X G (cd.fact 8 (f := .glo "mirror_of") rfl)
  have gClosed := He.glo_ok X G (cd.fact 9 (f := .glo "closed") rfl)
  have gMirrorClose := He.glo_ok X G (cd.fact 10 (f := .glo "mirror_close") rfl)
  have gJug := He.glo_ok X G (cd.fact 11 (f := .glo "_law_jug") rfl)
  have gBit := He.glo_ok X G (cd.fact 12 (f := .glo "_law_bit") rfl)
  have gPick := He.glo_ok X G (cd.fact 13 (f := .glo "_law_pick") rfl)
  have gDealt := He.glo_ok X G (cd.fact 14 (f := .glo "_law_dealt") rfl)
  have gSigns := He.glo_ok X G (cd.fact 15 (f := .glo "_law_signs") rfl)
  have gLine := He.glo_ok X G (cd.fact 16 (f := .glo "_law_line") rfl)
  have gGuide := He.glo_ok X G (cd.fact 17 (f := .glo "_law_guide") rfl)
  have gSign := He.glo_ok X G (cd.fact 18 (f := .glo "_law_guide_sign") rfl)
  have gLawClose := He.glo_ok X G (cd.fact 19 (f := .glo "_law_mirror_close") rfl)
  have gBegin := He.glo_ok X G (cd.fact 20 (f := .glo "_law_begin_of") rfl)
  have gCloseRight := He.glo_ok X G (cd.fact 21 (f := .glo "_law_close_right") rfl)
  have gTelling := He.glo_ok X G (cd.fact 22 (f := .glo "_law_other_telling") rfl)
  have gIsTold := He.glo_ok X G (cd.fact 23 (f := .glo "_law_is_told") rfl)
  have gUnlike := He.glo_ok X G (cd.fact 24 (f := .glo "_law_first_unlike") rfl)
  have gPair := He.glo_ok X G (cd.fact 25 (f := .glo "_law_pair_right") rfl)
  have gRight := He.glo_ok X G (cd.fact 26 (f := .glo "_law_right") rfl)
  have gLaw := He.glo_ok X G (cd.fact 27 (f := .glo "law") rfl)
  have gcInvalidLetters := He.glo_ok X G (cd.fact 28 (f := .glo "InvalidLetters") rfl)
  have gcInvalidText := He.glo_ok X G (cd.fact 29 (f := .glo "InvalidText") rfl)
  have gcInvalidOperation := He.glo_ok X G (cd.fact 30 (f := .glo "InvalidOperation") rfl)
  have gcInvalidNumber := He.glo_ok X G (cd.fact 31 (f := .glo "InvalidNumber") rfl)
  have gcMirrorRow := He.glo_ok X G (cd.fact 32 (f := .glo "MirrorRow") rfl)
  have i__TOO_LONG := He.int_ok X G (cd.fact 33 (f := .int "_TOO_LONG" ((10 ^ 50) ^ 4)) rfl)
  have i_MAX_LETTERS := He.int_ok X G (cd.fact 34 (f := .int "MAX_LETTERS" 3) rfl)
  have i_MAX_WORD := He.int_ok X G (cd.fact 35 (f := .int "MAX_WORD" 400) rfl)
  have i_MAX_TEXT := He.int_ok X G (cd.fact 36 (f := .int "MAX_TEXT" 4000) rfl)
  have i_MAX_GUIDE := He.int_ok X G (cd.fact 37 (f := .int "MAX_GUIDE" 20) rfl)
  have i_MAX_STANDING := He.int_ok X G (cd.fact 38 (f := .int "MAX_STANDING" 60) rfl)
  have m_isinstance := He.free_ok X G (cd.fact 39 (f := .free "isinstance") rfl)
  have m_int := He.free_ok X G (cd.fact 40 (f := .free "int") rfl)
  have m_bool := He.free_ok X G (cd.fact 41 (f := .free "bool") rfl)
  have m_str := He.free_ok X G (cd.fact 42 (f := .free "str") rfl)
  have m_tuple := He.free_ok X G (cd.fact 43 (f := .free "tuple") rfl)
  have m_abs := He.free_ok X G (cd.fact 44 (f := .free "abs") rfl)
  have m_len := He.free_ok X G (cd.fact 45 (f := .free "len") rfl)
  have m_sorted := He.free_ok X G (cd.fact 46 (f := .free "sorted") rfl)
  have m_set := He.free_ok X G (cd.fact 47 (f := .free "set") rfl)
  have m_all := He.free_ok X G (cd.fact 48 (f := .free "all") rfl)
  have m_range := He.free_ok X G (cd.fact 49 (f := .free "range") rfl)
  have m_max := He.free_ok X G (cd.fact 50 (f := .free "max") rfl)
  have m_min := He.free_ok X G (cd.fact 51 (f := .free "min") rfl)
  have m_list := He.free_ok X G (cd.fact 52 (f := .free "list") rfl)
  have cMirrorRow := He.cls_ok (cd.fact 53 (f := .cls "MirrorRow") rfl)
  have mkMirrorRow := He.mkr_ok (cd.fact 54 (f := .mkr "MirrorRow") rfl)
  have nMirrorRow_letters := He.noat_ok (cd.fact 55 (f := .noat "MirrorRow" "_letters") rfl)
  have nMirrorRow_head := He.noat_ok (cd.fact 56 (f := .noat "MirrorRow" "_head") rfl)
  have nMirrorRow_again := He.noat_ok (cd.fact 57 (f := .noat "MirrorRow" "_again") rfl)
  have wRowInit := He.meth_ok (cd.fact 58 (f := .meth "MirrorRow" "__init__") rfl)
  have wRowGuide := He.meth_ok (cd.fact 59 (f := .meth "MirrorRow" "guide") rfl)
  have wRowStart := He.meth_ok (cd.fact 60 (f := .meth "MirrorRow" "start") rfl)
  have wRowEq := He.meth_ok (cd.fact 61 (f := .meth "MirrorRow" "__eq__") rfl)
  have wRowStr := He.meth_ok (cd.fact 62 (f := .meth "MirrorRow" "__str__") rfl)
  have pInvalidLetters := plain_ok gcInvalidLetters (cd.fact 63 (f := .exc "InvalidLetters") rfl)
  have pInvalidText := plain_ok gcInvalidText (cd.fact 64 (f := .exc "InvalidText") rfl)
  have pInvalidOperation := plain_ok gcInvalidOperation (cd.fact 65 (f := .exc "InvalidOperation") rfl)
  obtain ⟨q0, r0⟩ := He.ba (c.ex)
  have k_ownInvalidNumber := HP.ownChk_ok (fs := ["value"]) PySem.F.excBase_IndexError PySem.F.store_IndexError q0
  obtain ⟨q1, r1⟩ := He.ba r0
  have k_BB := clsChk_ok cMirrorRow nMirrorRow_letters nMirrorRow_head nMirrorRow_again q1
  obtain ⟨q2, r2⟩ := He.ba r1
  have k_letters := HP.propB_ok q2
  obtain ⟨q3, r3⟩ := He.ba r2
  have k_head := HP.propB_ok q3
  obtain ⟨q4, r4⟩ := He.ba r3
  have k_again := HP.propB_ok q4
  have k_ne := r4
  have ef := hfa.symm.trans gLaw
  cases ef
  refine ⟨dLaw, fun s v => FunD.bindsA (ps := ["script"]) FLaw (fun _ _ _ _ _ _ us hl => match us, hl with | [_], _ => rfl) s [v] rfl, fun base _ _ TB => ?_⟩
  have M : Free mg := ⟨m_isinstance, m_int, m_bool, m_str, m_tuple, m_abs, m_len, m_sorted, m_set⟩
  have Z : Sizes mg := ⟨i__TOO_LONG, i_MAX_LETTERS, i_MAX_WORD⟩
  have B : RowK K (He.ga K "MirrorRow") := k_BB
  have kInitN := ok_initN (P := P) (w := w) (mg := mg) (base := base) (C := (He.ga K "InvalidNumber")) FInitN
  have NN : NumK P w K mg base (He.ga K "InvalidNumber") := ⟨gcInvalidNumber, k_ownInvalidNumber.sub, k_ownInvalidNumber.ty, k_ownInvalidNumber.tk _ (by simp), k_ownInvalidNumber.fd _ (by simp), k_ownInvalidNumber.xf, _, dInitN, k_ownInvalidNumber.init, kInitN, bInitN⟩
  have RL : Plain K mg "InvalidLetters" (He.ga K "InvalidLetters") := pInvalidLetters
  have RT : Plain K mg "InvalidText" (He.ga K "InvalidText") := pInvalidText
  have RO : Plain K mg "InvalidOperation" (He.ga K "InvalidOperation") := pInvalidOperation
  have kBit := ok_bit (P := P) (w := w) (mg := mg) (base := base) FBit m_int
  have kJug := ok_jug (P := P) (w := w) (mg := mg) (base := base) FJug m_int m_len m_abs m_max
  have kIsInteger := ok_is_integer (P := P) (w := w) (mg := mg) (base := base) FIsInteger Z M
  have kIsLetters := ok_is_letters (P := P) (w := w) (mg := mg) (base := base) FIsLetters Z M
  have kIsSpelled := ok_is_spelled (P := P) (w := w) (mg := mg) (base := base) FIsSpelled M
  have kCheckLettersX := ok_check_lettersX FCheckLetters RL kIsLetters gIsLetters FIsLetters.kp bIsLetters
  have kCheckNumberX := ok_check_numberX FCheckNumber NN kIsInteger gIsInteger FIsInteger.kp bIsInteger
  have kIsTextX := ok_is_textX FIsText M i_MAX_TEXT kCheckLettersX gCheckLetters FCheckLetters.kp bCheckLetters kIsSpelled gIsSpelled FIsSpelled.kp bIsSpelled
  have kCheckTextX := ok_check_textX FCheckText RT kIsTextX gIsText FIsText.kp bIsText
  have kGuideOf := ok_guide_of (P := P) (w := w) (mg := mg) (base := base) FGuideOf M m_max
  have kClosed := ok_closed (P := P) (w := w) (mg := mg) (base := base) FClosed
  have kMirrorOf := ok_mirror_of FMirrorOf M kClosed gClosed FClosed.kp bClosed
  have kRowInitX := ok_row_init FRowInit B M m_all i_MAX_GUIDE RO kCheckLettersX gCheckLetters FCheckLetters.kp bCheckLetters kCheckTextX gCheckText FCheckText.kp bCheckText
  have kRowInit := rinit_calm kRowInitX
  have kRowGuideX := ok_guideX FRowGuide B i_MAX_WORD kCheckNumberX gCheckNumber FCheckNumber.kp bCheckNumber kGuideOf gGuideOf FGuideOf.kp bGuideOf
  have kRowGuide := tellG_calm kRowGuideX
  have kRowStartX := ok_startX FRowStart B i_MAX_TEXT kCheckNumberX gCheckNumber FCheckNumber.kp bCheckNumber kMirrorOf gMirrorOf FMirrorOf.kp bMirrorOf
  have kRowStart := start_calm kRowStartX
  have kRowLetters := ok_row_letters (P := P) (w := w) (mg := mg) (base := base) FRowLetters B
  have kRowHead := ok_row_head (P := P) (w := w) (mg := mg) (base := base) FRowHead B
  have kRowAgain := ok_row_again (P := P) (w := w) (mg := mg) (base := base) FRowAgain B
  have kRowEq := ok_row_eq FRowEq B M gcMirrorRow i_MAX_GUIDE ⟨⟨_, _, kGuideOf, gGuideOf, FGuideOf.kp, bGuideOf⟩⟩
  have kRowStr := ok_row_str (P := P) (w := w) (mg := mg) (base := base) FRowStr B
  have kMirrorClose := ok_mirror_close FMirrorClose M ⟨⟨_, _, kCheckLettersX, gCheckLetters, FCheckLetters.kp, bCheckLetters⟩⟩ ⟨⟨_, _, kCheckTextX, gCheckText, FCheckText.kp, bCheckText⟩⟩
  have kPick := ok_pickS FPick kBit gBit FBit.kp bBit M
  have kDealt := ok_dealt FDealt kBit gBit FBit.kp bBit m_len m_range m_list
  have kSigns := ok_signs FSigns kPick gPick FPick.kp bPick
  have kLine := ok_line FLine M m_range kBit gBit FBit.kp bBit kPick gPick FPick.kp bPick
  have kGuide := ok_guide FGuide M m_range m_list ⟨⟨_, _, kBit, gBit, FBit.kp, bBit⟩⟩ ⟨⟨_, _, kPick, gPick, FPick.kp, bPick⟩⟩ ⟨⟨_, _, kDealt, gDealt, FDealt.kp, bDealt⟩⟩
  have kSign := ok_law_sign (P := P) (w := w) (mg := mg) (base := base) FSign M
  have kLawClose := ok_law_close (P := P) (w := w) (mg := mg) (base := base) FLawClose
  have kBegin := ok_begin FBegin M ⟨⟨_, _, kLawClose, gLawClose, FLawClose.kp, bLawClose⟩⟩ ⟨⟨_, _, kSign, gSign, FSign.kp, bSign⟩⟩
  have kCloseRight := ok_close_right FCloseRight M m_range ⟨⟨_, _, kLine, gLine, FLine.kp, bLine⟩⟩ ⟨⟨_, _, kMirrorClose, gMirrorClose, FMirrorClose.kp, bMirrorClose⟩⟩ ⟨⟨_, _, kLawClose, gLawClose, FLawClose.kp, bLawClose⟩⟩
  have kTelling := ok_telling FTelling m_range ⟨⟨_, _, kBit, gBit, FBit.kp, bBit⟩⟩
  have kUnlike := ok_unlike FUnlike m_range ⟨⟨_, _, kSign, gSign, FSign.kp, bSign⟩⟩
  have RR : RowR P w K mg base (He.ga K "MirrorRow") := ⟨B, gcMirrorRow, ⟨_, _, mkMirrorRow, kRowInit, bRowInit⟩, ⟨_, _, _, k_letters, kRowLetters, bRowLetters⟩, ⟨_, _, _, k_head, kRowHead, bRowHead⟩, ⟨_, _, _, k_again, kRowAgain, bRowAgain⟩, ⟨_, _, wRowStart, kRowStart, bRowStart⟩, ⟨_, _, wRowGuide, kRowGuide, bRowGuide⟩, ⟨_, _, ⟨wRowEq.at_, wRowEq.fn⟩, kRowEq, bRowEq⟩, ⟨He.eqO_ok (He.ba k_ne).1, of_decide_eq_true (He.ba k_ne).2⟩, ⟨_, _, ⟨wRowStr.at_, wRowStr.fn⟩, kRowStr, bRowStr⟩⟩
  have kIsTold := ok_is_told FIsTold M m_range RR ⟨⟨_, _, kSign, gSign, FSign.kp, bSign⟩⟩ ⟨⟨_, _, kBegin, gBegin, FBegin.kp, bBegin⟩⟩
  have kPair := ok_pair FPair M m_range m_min RR ⟨⟨_, _, kSign, gSign, FSign.kp, bSign⟩⟩ ⟨⟨_, _, kUnlike, gUnlike, FUnlike.kp, bUnlike⟩⟩ ⟨⟨_, _, kLawClose, gLawClose, FLawClose.kp, bLawClose⟩⟩
  have kRight := ok_right FRight M RR ⟨⟨_, _, kSigns, gSigns, FSigns.kp, bSigns⟩⟩ ⟨⟨_, _, kGuide, gGuide, FGuide.kp, bGuide⟩⟩ ⟨⟨_, _, kIsTold, gIsTold, FIsTold.kp, bIsTold⟩⟩ ⟨⟨_, _, kPair, gPair, FPair.kp, bPair⟩⟩ ⟨⟨_, _, kTelling, gTelling, FTelling.kp, bTelling⟩⟩ ⟨⟨_, _, kPick, gPick, FPick.kp, bPick⟩⟩ ⟨⟨_, _, kCloseRight, gCloseRight, FCloseRight.kp, bCloseRight⟩⟩
  exact ok_law FLaw (codeAt FLaw) M m_range m_max m_min RR i_MAX_GUIDE i_MAX_STANDING ⟨⟨_, _, kJug, gJug, FJug.kp, bJug⟩⟩ ⟨⟨_, _, kRight, gRight, FRight.kp, bRight⟩⟩ ⟨⟨_, _, kMirrorClose, gMirrorClose, FMirrorClose.kp, bMirrorClose⟩⟩
end B73
open PySem PySem.W PySem.Calls PyProof.Rows
set_option maxRecDepth 100000 in
set_option maxHeartbeats 0 in
theorem PySem.Challenge.cw_twowaycuts_k73_whole_mirror_rows_and_the_holds : PySem.Challenge.rw_twowaycuts_k73_whole_mirror_rows_and_the.Holds := by
  w_on; o_law
  refine HandSHeadRun.head_any (r := OpenLaw.row PySem.Challenge.rw_twowaycuts_k73_whole_mirror_rows_and_the) (q := view (OpenLaw.row PySem.Challenge.rw_twowaycuts_k73_whole_mirror_rows_and_the).prog [45]) (H := B73.hk) (ob := B73.ob) (M := 12000) (loose := B73.loose) (d := HandSHeadRun.topDef (OpenLaw.row PySem.Challenge.rw_twowaycuts_k73_whole_mirror_rows_and_the).prog 45) (kwd := []) B73.ob_eq
    (by kernel_rfl) (fun s => by kernel_rfl) B73.run (by kernel_rfl) (by kernel_rfl) (by kernel_rfl) (by rfl) (by first | assumption | decide +kernel) (by decide +kernel) ⟨rfl, rfl, rfl, rfl, rfl, by decide +kernel⟩ ?hw ?hc
  case hw => w_witness2
  case hc =>
    refine XE.walk_guardedT (l := PySem.Challenge.rw_twowaycuts_k73_whole_mirror_rows_and_the) (n := 63) (k := 10) (x := "script") (CX := L2.CX0) rfl (by decide) (by kernel_rfl) ⟨rfl, by decide, by decide⟩ ?F (fun _ _ _ _ z => z)
    intro w mg fa h Y G hmg0
    obtain ⟨K, KX, c⟩ := Y
    have hmg : mg ("law" : PySem.Str) = some (.ref fa) := by
      have e : (HandSHeadRun.topDef (OpenLaw.row PySem.Challenge.rw_twowaycuts_k73_whole_mirror_rows_and_the).prog 45).name = ("law" : PySem.Str) := by kernel_rfl
      rw [← e]
      exact hmg0
    obtain ⟨fd, hb, hF⟩ := B73.all_facts (P := (PySem.Challenge.rw_twowaycuts_k73_whole_mirror_rows_and_the).prog) (w := w) KX G hmg c
    refine ⟨K, fd, B73.tf.map (He.cT K), B73.spLaw (HP.tabsOf B73.tf K) K, KX, fun p hp => ?_, fun p hp => ?_, fun p hp => ?_, hb, fun H a ns hl hT hS => ⟨a, ns, rfl, hS, hl, fun p hp => ?_, fun _ => rfl⟩, hF⟩
    · obtain ⟨r, hr, rfl⟩ := List.mem_map.mp hp
      exact c.x.empty r hr
    · obtain ⟨r, hr, rfl⟩ := List.mem_map.mp hp
      exact c.x.out r hr
    · obtain ⟨r, hr, rfl⟩ := List.mem_map.mp hp
      exact c.x.hd r hr
    · obtain ⟨r, hr, rfl⟩ := List.mem_map.mp hp
      exact LamX.TabS.nil (hT _ (List.mem_map_of_mem hr))
