import PyProof.Rows.All
import Wide.All
import OpenK.AllK
import Wide.FinOn
import KE.SortData
import KE.SortKeyHeap
import PyProof.StrWalks
import HandS.Base
import HandS.Call
import HandS.List
import HandS.Dict
import HandS.Iter
import HandS.More
import HandS.Set
import HandS.SetFor
import HandS.TupSets
import HandS.SetTxt0
import HandS.SortKw
import KE.KSortKey
import HandS.IsInst
import HandS.StrMore
import HandS.Text
import HandS.ExcOwn
import HandS.Lambda
import HandS.Style
import HandS.TupMul
import KE.KStateDown
import HandS.ForMost
import HandS.ForExc
import HandS.Words
import HandS.WordsExc
import HandS.Defaults
import HandS.TryMany
import HandS.ExcIs
import HandS.ExcValue
import HandS.ExcInit
import HandS.RaiseMore
import HandS.DictTup
import HandS.Wide
import HandS.Conv
import HandS.Head0
import HandS.Head1
import HandS.Head2
import HandS.HeadEnd
import HandS.HeadHook1
import HandS.HeadHook2
import HandS.HeadHook3
import HandS.HeadHook4
import PyProof.TupleOfSeq
import PyProof.SliceStr2
import HandS.Property
import HandS.ClsMeth
import HandS.CallLocal
import KE.KCallOwn
import PyProof.InstEq
import HandS.Walk
import HandS.FStr
import HandS.DictComp
import HandS.TupAny
import HandS.Steps
import HandS.HeadNt
import PySem.Challenge.RW_twowaycuts_k03_books_told
set_option Elab.async false
set_option linter.all false
set_option maxRecDepth 100000
set_option maxHeartbeats 4000000
/-! Sets of any kind of key: made of an iterable, sorted. What a kind must bring is a SetKit. -/
namespace XSt
open PySem PySem.Spec PyProof.Rows L2

/-- the newly made, empty one -/
def bare (w : World) : Obj := { cls := .type "set", dict := none, data := .set #[] 0 (.fresh 0 0 (!w.params.followText "set-order")) }
/-- the second heap has all that the first one has -/
def Sub (h h' : Heap) : Prop := ∀ b o, h.get? b = some o → h'.get? b = some o

theorem Sub.refl (h : Heap) : Sub h h := fun _ _ e => e
theorem Sub.trans {a b c : Heap} (x : Sub a b) (y : Sub b c) : Sub a c := fun q o e => y q o (x q o e)
theorem Sub.push (h : Heap) (o : Obj) : Sub h (h.push o) := fun _ _ e => Heap.get?_push_of_some _ e
theorem beyond {h : Heap} {b : Addr} (k : h.objs.size ≤ b) : h.get? b = none := by
  cases q : h.get? b with
  | none => rfl
  | some o => exact absurd (Heap.lt_size q) (Nat.not_lt.mpr k)

/-- items, each of them shown by a value -/
inductive Show {ι : Type} (Rel : ι → Value → Prop) : List ι → List Value → Prop
  | nil : Show Rel [] []
  | cons {x v xs vs} : Rel x v → Show Rel xs vs → Show Rel (x :: xs) (v :: vs)

structure SetKit (P : Program) (w : World) (ι κ : Type) where
  key : ι → κ
  Is : Heap → Addr → List ι → Prop
  Elt : Heap → ι → Prop
  Rel : ι → Value → Prop
  room : Around → Prop
  most : Nat
  small : most ≤ scanBound
  move : ∀ {h h' : Heap} {S : Addr} {L : List ι}, Is h S L → (∀ o, h.get? S = some o → h'.get? S = some o) → Is h' S L
  new : ∀ {h : Heap} {S : Addr}, h.get? S = some (bare w) → Is h S []
  step : ∀ {A : Around} {E : Value → Shared → Prop} {s : Shared} {h0 : Heap} {S : Addr} {L : List ι} {x : ι} {v : Value} {Q : Bool → Shared → Prop}, room A → Is s.heap S L →
    Sub h0 s.heap → h0.get? S = none → (∀ y ∈ L, Elt h0 y) → Elt h0 x → Rel x v → L.length + 1 < most →
    (∀ b h' tk L', Heap.SameBut S s.heap h' → s.toks ≤ tk → Is h' S L' → (key x ∈ L.map key → L' = L) → (key x ∉ L.map key → L'.Perm (x :: L)) → Q b { s with heap := h', toks := tk }) →
    wpAny (model P w) A (setAdd S v) Q E s
  open_ : ∀ {h : Heap} {S : Addr} {L : List ι}, Is h S L → ∃ es ep t, SetAt h S es ep t ∧ t.fits es.size = true ∧ es.size < scanBound ∧ Ris t.place.toList ∧ (w.params.followText "set-order" = true ∨ t.led = true) ∧
    Show Rel L (es.toList.map (·.2))

/-- L: what the first i of xs leave, one for each key -/
structure Part {ι κ : Type} (key : ι → κ) (xs : List ι) (i : Nat) (L : List ι) : Prop where
  from_ : ∀ y ∈ L, y ∈ xs.take i
  has : ∀ y ∈ xs.take i, key y ∈ L.map key
  once : (L.map key).Nodup
  few : L.length ≤ i

theorem take_more {α : Type} {l : List α} {i : Nat} {x : α} (e : l[i]? = some x) : l.take (i + 1) = l.take i ++ [x] := by
  rw [List.take_add_one, e]
  rfl
theorem Part.zero {ι κ : Type} (key : ι → κ) (xs : List ι) : Part key xs 0 [] :=
  { from_ := fun _ z => (by cases z), has := fun y z => (by rw [List.take_zero] at z; cases z), once := List.nodup_nil, few := Nat.le_refl _ }
theorem Part.next {ι κ : Type} {key : ι → κ} {xs L L' : List ι} {i : Nat} {x : ι} (p : Part key xs i L) (e : xs[i]? = some x)
    (c1 : key x ∈ L.map key → L' = L) (c2 : key x ∉ L.map key → L'.Perm (x :: L)) : Part key xs (i + 1) L' := by
  by_cases c : key x ∈ L.map key
  · rw [c1 c]
    refine ⟨fun y hy => ?_, fun y hy => ?_, p.once, Nat.le_succ_of_le p.few⟩
    · rw [take_more e, List.mem_append]
      exact Or.inl (p.from_ y hy)
    · rw [take_more e, List.mem_append, List.mem_singleton] at hy
      rcases hy with hy | rfl
      · exact p.has y hy
      · exact c
  · have q := c2 c
    refine ⟨fun y hy => ?_, fun y hy => ?_, ?_, ?_⟩
    · rw [take_more e, List.mem_append, List.mem_singleton]
      rcases List.mem_cons.mp (q.mem_iff.mp hy) with r | r
      · exact Or.inr r
      · exact Or.inl (p.from_ y r)
    · rw [(q.map key).mem_iff, List.map_cons, List.mem_cons]
      rw [take_more e, List.mem_append, List.mem_singleton] at hy
      rcases hy with hy | rfl
      · exact Or.inr (p.has y hy)
      · exact Or.inl rfl
    · refine (q.map key).nodup_iff.mpr ?_
      rw [List.map_cons]
      exact List.nodup_cons.mpr ⟨c, p.once⟩
    · have := q.length_eq
      have := p.few
      simp only [List.length_cons] at *
      omega

section
variable {P : Program} {w : World} {ι κ : Type} {A : Around} {E : Value → Shared → Prop} {s : Shared}

/-- the loop that takes one thing after the other into the set -/
theorem grow (Kt : SetKit P w ι κ) {I : Addr} {fp wr : List Addr} {G : Array GenState → Array GenState → Prop} {n : Nat} {Pv : Nat → Value → Prop} {St : Nat → Shared → Prop} {R : Result → Shared → Prop}
    (W : WalksS P w A.in1 I fp wr G n Pv St) {S : Addr} (hSf : S ∉ fp) {xs : List ι} (hn : n = xs.length) (lim : xs.length < Kt.most) {h0 : Heap}
    (hval : ∀ i v, Pv i v → ∃ x, xs[i]? = some x ∧ Kt.Rel x v) (elt : ∀ x ∈ xs, Kt.Elt h0 x) (hS0 : h0.get? S = none) (hw0 : ∀ b ∈ wr, h0.get? b = none) (rm : Kt.room A.in1) :
    ∀ (m i : Nat) (s : Shared), i + m = n → St i s → Sub h0 s.heap → (∃ L, Kt.Is s.heap S L ∧ Part Kt.key xs i L) →
      (∀ s' L, Moved (S :: wr) G s s' → Kt.Is s'.heap S L → Part Kt.key xs n L → Sub h0 s'.heap → R (.ok (.ret .none)) s') →
      codeAny (model P w) A (.builtin "set.update.loop" ⟨[.ref S, .ref I], []⟩) R s := by
  have wide : ∀ b ∈ wr, b ∈ S :: wr := fun b hb => List.mem_cons_of_mem _ hb
  have out : ∀ {p q : Shared}, Moved wr G p q → Sub h0 p.heap → Sub h0 q.heap := fun mv k b o e => mv.heap b o (fun z => by rw [hw0 b z] at e; cases e) (k b o e)
  have own : ∀ {p q : Shared}, Moved wr G p q → ∀ o, p.heap.get? S = some o → q.heap.get? S = some o := fun mv o e => mv.heap S o (fun z => hSf (W.sub _ z)) e
  intro m
  induction m with
  | zero =>
    intro i s him st k ⟨L, is, pt⟩ fin
    obtain rfl : i = n := by omega
    refine codeAny_builtin F.entry_set_update_loop ?_
    rw [Around.under_plainId F.plain_set_update_loop _]
    show wpAny _ A.in1 (pyNext (.ref I) >>= _) _ _ s
    exact wpAny_bind (W.done s _ _ st fun q mv => wpAny_pure (fin q L (mv.mono wide) (Kt.move is (own mv)) pt (out mv k)))
  | succ m ih =>
    intro i s him st k ⟨L, is, pt⟩ fin
    refine codeAny_builtin F.entry_set_update_loop ?_
    rw [Around.under_plainId F.plain_set_update_loop _]
    show wpAny _ A.in1 (pyNext (.ref I) >>= _) _ _ s
    refine wpAny_bind (W.item i s _ _ (by omega) st fun v q pv st' mv => ?_)
    obtain ⟨x, hx, rel⟩ := hval i v pv
    have k' := out mv k
    show wpAny _ A.in1 (holding [v] (setAdd S v) >>= _) _ _ q
    refine wpAny_bind (wpAny_holding (Kt.step rm (Kt.move is (own mv)) k' hS0 (fun y hy => elt y (List.mem_of_mem_take (pt.from_ y hy))) (elt x (List.mem_of_getElem? hx)) rel ?_ fun b h' tk L' sb tks is' c1 c2 => ?_))
    · have := pt.few
      omega
    · have k2 : Sub h0 h' := fun b o e => (sb.2 b (fun z => by rw [z, hS0] at e; cases e)).trans (k' b o e)
      refine wpAny_pure ⟨plainId_quiet F.plain_set_update_loop _, ih (i + 1) _ (by omega) (W.frame _ q _ _ st' tks fun b hb o e => ?_) k2 ⟨L', is', pt.next hx c1 c2⟩ fun r L2 mv2 is2 pt2 k3 => ?_⟩
      · exact (sb.2 b (fun z => hSf (z ▸ hb))).trans e
      · refine fin r L2 (Moved.trans W.gtrans ((mv.mono wide).then_heap tks fun b o hb e => ?_) mv2) is2 pt2 k3
        exact (sb.2 b (fun z => hb (by rw [z]; exact List.mem_cons_self ..))).trans e

/-- what iter(v) gives, once a new object lies behind the heap -/
def Iterable (P : Program) (w : World) (v : Value) (s : Shared) (n : Nat) (Pv : Nat → Value → Prop) : Prop :=
  ∀ (A' : Around) (E' : Value → Shared → Prop) (o : Obj) (Q : Value → Shared → Prop),
    (∀ (o' : Obj) (fp : List Addr) (St : Nat → Heap → Prop), (∀ A'' : Around, A''.handled = none → Walks P w A'' (s.heap.objs.size + 1) fp [s.heap.objs.size + 1] n Pv St) →
      s.heap.objs.size ∉ fp → St 0 ((s.heap.push o).push o') → Q (.ref (s.heap.objs.size + 1)) { s with heap := (s.heap.push o).push o' }) →
    wpAny (model P w) A' (pyIter v) Q E' { s with heap := s.heap.push o }
end
end XSt

/-! set(x), x of any kind that iterates; sorted(set) -/
namespace XSt
open PySem PySem.Spec PyProof.Rows L2

section
variable {P : Program} {w : World} {ι κ : Type} {A : Around} {E : Value → Shared → Prop} {s : Shared}

set_option maxHeartbeats 3200000 in
theorem set_of (Kt : SetKit P w ι κ) {T : String} {v : Value} {xs : List ι} {n : Nat} {Pv : Nat → Value → Prop} {Q : Value → Shared → Prop} (quiet : A.handled = none)
    (ty : ∀ s' : Shared, Sub s.heap s'.heap → s'.TypeIs v T) (nd : (Value.type T == Value.type "dict") = false) (ns : isSubtype (.type T) (.type "set") = pure false) (nf : isSubtype (.type T) (.type "frozenset") = pure false)
    (it : Iterable P w v s n Pv) (hn : n = xs.length) (lim : xs.length < Kt.most) (hval : ∀ i v, Pv i v → ∃ x, xs[i]? = some x ∧ Kt.Rel x v) (elt : ∀ x ∈ xs, Kt.Elt s.heap x)
    (rm : Kt.room A.in1.in1.in1)
    (fin : ∀ (h' : Heap) (tk : Nat) (L : List ι), Kt.Is h' s.heap.objs.size L → Part Kt.key xs n L → Sub s.heap h' → Q (.ref s.heap.objs.size) { s with heap := h', toks := tk }) :
    wpAny (model P w) A (call (.type "set") [v]) Q E s := by
  obtain ⟨c, tl, hmro⟩ := F.called_set.mro
  have a1 := F.called_set.made
  have a2 := F.called_set.sub
  refine wpAny_call (codeAny_of_tree ?_)
  show wpAny _ _ (callAny (.type "set") _) _ _ _
  refine wpAny_pure ⟨Code.quiet_builtin _ (by decide +kernel), codeAny_builtin F.entry_type_call ?_⟩
  rw [Around.under_plain (weight_type_call_type "set" [v] []) rfl]
  have a3 := F.called_set.notType
  have a4 := F.called_set.canCreate
  have a5 := F.typeCall_set_1 v
  repeat (any_goals (first | assumption | wp_step))
  refine codeAny_mono (code_set_led1 v (E := E) (Q₁ := fun x q => x = .ref s.heap.objs.size ∧ q = { s with heap := s.heap.push (bare w) }) ⟨rfl, rfl⟩) fun r q hr => ?_
  match r, hr with
  | .error e, hr => exact hr
  | .ok (.ret x), hr =>
    obtain ⟨rfl, rfl⟩ := hr
    have at_ : (s.heap.push (bare w)).get? s.heap.objs.size = some (bare w) := Heap.get?_push_size _ rfl
    have tS : Shared.TypeIs { s with heap := s.heap.push (bare w) } (.ref s.heap.objs.size) "set" := ⟨_, at_, rfl⟩
    have a6 := F.called_set.init.lookup
    have a7 := F.called_set.init.bind (.ref s.heap.objs.size)
    repeat (any_goals (first | assumption | wp_step))
    refine codeAny_mono (codeAny_call_builtin (R := wants (fun r q => r = .none ∧ ∃ h' tk L, q = { s with heap := h', toks := tk } ∧ Kt.Is h' s.heap.objs.size L ∧ Part Kt.key xs n L ∧ Sub s.heap h') E)
      F.called_set.init.plain F.entry_set_init (check_set_init_1 tS ?_)) fun r q hr => ?_
    · have tv : Shared.TypeIs { s with heap := s.heap.push (bare w) } v T := ty _ (Sub.push _ _)
      unfold Builtin.«set.__init__» noKeywords Builtin.Frozenset.updateFrom
      generalize hPI : pyIter = PI
      wp_walk
      subst hPI
      refine it A.in1.in1 _ (bare w) _ fun o' fp St wk nfp st0 => ?_
      refine wpAny_bind (wpAny_runValue ?_)
      have hid3 : A.in1.in1.in1.handled = none := by simp [quiet]
      have zz : ((s.heap.push (bare w)).push o').get? s.heap.objs.size = some (bare w) := Heap.get?_push_of_some _ at_
      refine grow Kt (A := A.in1.in1) (wk _ hid3).toS nfp hn lim hval elt (beyond (Nat.le_refl _)) (fun b hb => ?_) rm n 0 _ (Nat.zero_add _) st0
        ((Sub.push _ _).trans (Sub.push _ _)) ⟨[], Kt.new zz, Part.zero _ _⟩ fun q L mv is pt sb => ?_
      · rw [List.mem_singleton.mp hb]
        exact beyond (Nat.le_succ _)
      · obtain ⟨h', g2, d', tk', os'⟩ := q
        obtain rfl : g2 = s.gens := mv.gens
        obtain rfl : d' = s.drawn := mv.drawn
        obtain rfl : os' = s.os := mv.os
        show wpAny _ _ _ _ _ _
        refine wpAny_pure ?_
        show wpAny _ _ (ret Value.none) _ _ _
        exact wpAny_pure ⟨rfl, h', tk', L, rfl, is, pt, sb⟩
    · match r, hr with
      | .error e, hr => exact hr
      | .ok (.ret x), hr =>
        obtain ⟨rfl, h', tk, L, rfl, q1, q2, q3⟩ := hr
        repeat (any_goals (first | assumption | wp_step))
        exact fin _ _ _ q1 q2 q3

theorem iterable_str (x : Str) (t : Tok) : Iterable P w (.str x t) s x.cps.size (SignAt x) := by
  intro A' E' o Q h
  refine wpAny_pyIter_str fun o' St wk st0 => ?_
  have z : (s.heap.push o).objs.size = s.heap.objs.size + 1 := size_push' _ _
  rw [z]
  refine h o' [s.heap.objs.size + 1] St (fun A'' q => ?_) (fun m => absurd (List.mem_singleton.mp m) (Nat.ne_of_lt (Nat.lt_succ_self _))) st0
  have r := wk A'' q
  rw [z] at r
  exact r

theorem iterable_list {l : Addr} {items : Array Value} (hl : s.heap.IsList l items) : Iterable P w (.ref l) s items.size (fun i v => items[i]? = some v) := by
  intro A' E' o Q h
  have z : (s.heap.push o).objs.size = s.heap.objs.size + 1 := size_push' _ _
  have low : l < s.heap.objs.size := by
    obtain ⟨q, hq, _⟩ := hl
    exact Heap.lt_size hq
  refine wpAny_pyIter_list (hl.push o) ?_
  show Q (.ref (s.heap.push o).objs.size) _
  rw [z]
  refine h { cls := .type "list_iterator", data := .fields #[.ref l, .int 0 0] } [s.heap.objs.size + 1, l] _ (fun A'' q => Walks.list q (s.heap.objs.size + 1) l (Nat.ne_of_lt (Nat.lt_succ_of_lt low)) items) (fun m => ?_) ⟨⟨{ cls := .type "list_iterator", data := .fields #[.ref l, .int 0 0] }, ?_, rfl, rfl⟩, (hl.push o).push _⟩
  · rcases List.mem_cons.mp m with m | m
    · exact absurd m (Nat.ne_of_lt (Nat.lt_succ_self _))
    · exact absurd (List.mem_singleton.mp m).symm (Nat.ne_of_lt low)
  · rw [← z]
    exact Heap.get?_push_size _ rfl

theorem iterable_tuple {l : Addr} {items : Array Value} (hl : s.heap.IsTuple l items) : Iterable P w (.ref l) s items.size (fun i v => items[i]? = some v) := by
  intro A' E' o Q h
  have z : (s.heap.push o).objs.size = s.heap.objs.size + 1 := size_push' _ _
  have low : l < s.heap.objs.size := by
    obtain ⟨q, hq, _⟩ := hl
    exact Heap.lt_size hq
  refine wpAny_pyIter_tuple (hl.push o) ?_
  show Q (.ref (s.heap.push o).objs.size) _
  rw [z]
  refine h { cls := .type "tuple_iterator", data := .fields #[.ref l, .int 0 0] } [s.heap.objs.size + 1, l] _ (fun A'' q => Walks.tuple q (s.heap.objs.size + 1) l (Nat.ne_of_lt (Nat.lt_succ_of_lt low)) items) (fun m => ?_) ⟨⟨{ cls := .type "tuple_iterator", data := .fields #[.ref l, .int 0 0] }, ?_, rfl, rfl⟩, (hl.push o).push _⟩
  · rcases List.mem_cons.mp m with m | m
    · exact absurd m (Nat.ne_of_lt (Nat.lt_succ_self _))
    · exact absurd (List.mem_singleton.mp m).symm (Nat.ne_of_lt low)
  · rw [← z]
    exact Heap.get?_push_size _ rfl

theorem set_of_str (Kt : SetKit P w ι κ) {x : Str} {t : Tok} {xs : List ι} {Q : Value → Shared → Prop} (quiet : A.handled = none) (hn : x.cps.size = xs.length) (lim : xs.length < Kt.most)
    (hval : ∀ i v, SignAt x i v → ∃ y, xs[i]? = some y ∧ Kt.Rel y v) (elt : ∀ y ∈ xs, Kt.Elt s.heap y) (rm : Kt.room A.in1.in1.in1)
    (fin : ∀ (h' : Heap) (tk : Nat) (L : List ι), Kt.Is h' s.heap.objs.size L → Part Kt.key xs xs.length L → Sub s.heap h' → Q (.ref s.heap.objs.size) { s with heap := h', toks := tk }) :
    wpAny (model P w) A (call (.type "set") [.str x t]) Q E s :=
  set_of Kt (T := "str") quiet (fun _ _ => rfl) (by decide) F.sub_str_set F.sub_str_frozenset (iterable_str x t) hn lim hval elt rm (by rw [hn]; exact fin)

theorem show_at {Rel : ι → Value → Prop} : ∀ {xs : List ι} {vs : List Value}, Show Rel xs vs → ∀ (i : Nat) (v : Value), vs[i]? = some v → ∃ x, xs[i]? = some x ∧ Rel x v
  | _, _, .nil, i, v, e => by simp at e
  | x :: xs, v0 :: vs, .cons r t, 0, v, e => ⟨x, rfl, by simp at e; rw [← e]; exact r⟩
  | x :: xs, v0 :: vs, .cons r t, i + 1, v, e => show_at t i v (by simpa using e)
theorem show_len {Rel : ι → Value → Prop} : ∀ {xs : List ι} {vs : List Value}, Show Rel xs vs → xs.length = vs.length
  | _, _, .nil => rfl
  | _ :: _, _ :: _, .cons _ t => congrArg (· + 1) (show_len t)

theorem set_of_list (Kt : SetKit P w ι κ) {l : Addr} {items : Array Value} {xs : List ι} {Q : Value → Shared → Prop} (quiet : A.handled = none) (hl : s.heap.IsList l items) (sh : Show Kt.Rel xs items.toList) (lim : xs.length < Kt.most)
    (elt : ∀ y ∈ xs, Kt.Elt s.heap y) (rm : Kt.room A.in1.in1.in1)
    (fin : ∀ (h' : Heap) (tk : Nat) (L : List ι), Kt.Is h' s.heap.objs.size L → Part Kt.key xs xs.length L → Sub s.heap h' → Q (.ref s.heap.objs.size) { s with heap := h', toks := tk }) :
    wpAny (model P w) A (call (.type "set") [.ref l]) Q E s := by
  have hn : items.size = xs.length := by rw [show_len sh, Array.length_toList]
  refine set_of Kt (T := "list") quiet (fun s' k => ?_) (by decide) F.sub_list_set F.sub_list_frozenset (iterable_list hl) hn lim (fun i v e => show_at sh i v (by rw [Array.getElem?_toList]; exact e)) elt rm (by rw [hn]; exact fin)
  obtain ⟨o, ho, hc, _⟩ := hl
  exact ⟨o, k _ _ ho, hc⟩
theorem set_of_tuple (Kt : SetKit P w ι κ) {l : Addr} {items : Array Value} {xs : List ι} {Q : Value → Shared → Prop} (quiet : A.handled = none) (hl : s.heap.IsTuple l items) (sh : Show Kt.Rel xs items.toList) (lim : xs.length < Kt.most)
    (elt : ∀ y ∈ xs, Kt.Elt s.heap y) (rm : Kt.room A.in1.in1.in1)
    (fin : ∀ (h' : Heap) (tk : Nat) (L : List ι), Kt.Is h' s.heap.objs.size L → Part Kt.key xs xs.length L → Sub s.heap h' → Q (.ref s.heap.objs.size) { s with heap := h', toks := tk }) :
    wpAny (model P w) A (call (.type "set") [.ref l]) Q E s := by
  have hn : items.size = xs.length := by rw [show_len sh, Array.length_toList]
  refine set_of Kt (T := "tuple") quiet (fun s' k => ?_) (by decide) F.sub_tuple_set F.sub_tuple_frozenset (iterable_tuple hl) hn lim (fun i v e => show_at sh i v (by rw [Array.getElem?_toList]; exact e)) elt rm (by rw [hn]; exact fin)
  obtain ⟨o, ho, hc, _⟩ := hl
  exact ⟨o, k _ _ ho, hc⟩
end
end XSt

/-! sorted(set) -/
namespace XSt
open PySem PySem.Spec PyProof.Rows L2 PySem.W

theorem show_perm {ι : Type} {Rel : ι → Value → Prop} {us vs : List Value} (p : us.Perm vs) : ∀ {xs : List ι}, Show Rel xs vs → ∃ ys, ys.Perm xs ∧ Show Rel ys us := by
  induction p with
  | nil => intro xs h; exact ⟨xs, List.Perm.refl _, h⟩
  | cons v p ih =>
    intro xs h
    cases h with
    | cons r t =>
      obtain ⟨ys, q, z⟩ := ih t
      exact ⟨_ :: ys, q.cons _, .cons r z⟩
  | swap v u l =>
    intro xs h
    cases h with
    | cons r t =>
      cases t with
      | cons r2 t2 => exact ⟨_, List.Perm.swap _ _ _, .cons r2 (.cons r t2)⟩
  | trans p q ih1 ih2 =>
    intro xs h
    obtain ⟨ys, a, b⟩ := ih2 h
    obtain ⟨zs, c, d⟩ := ih1 b
    exact ⟨zs, c.trans a, d⟩

theorem show_each {ι : Type} {Rel : ι → Value → Prop} {C : ι → Prop} : ∀ {xs : List ι} {vs : List Value}, Show Rel xs vs → (∀ x ∈ xs, C x) → EachIs (fun v x => Rel x v ∧ C x) vs xs
  | _, _, .nil, _ => .nil
  | _, _, .cons r t, k => .cons ⟨r, k _ (List.mem_cons_self ..)⟩ (show_each t fun x hx => k x (List.mem_cons_of_mem _ hx))
theorem each_show {ι : Type} {Rel : ι → Value → Prop} {C : ι → Prop} : ∀ {xs : List ι} {vs : List Value}, EachIs (fun v x => Rel x v ∧ C x) vs xs → Show Rel xs vs
  | _, _, .nil => .nil
  | _, _, .cons r t => .cons r.1 (each_show t)

section
variable {P : Program} {w : World} {ι κ : Type} {A : Around} {E : Value → Shared → Prop} {s : Shared}

theorem sorted_of (Kt : SetKit P w ι κ) {S : Addr} {L : List ι} (enc : ι → PyData) {Q : Value → Shared → Prop} (quiet : A.handled = none) (is : Kt.Is s.heap S L)
    (rd : ∀ h' : Heap, Sub s.heap h' → ∀ x ∈ L, ∀ v, Kt.Rel x v → ∃ as, Reads h' v (enc x) as ∧ ∀ b ∈ as, b < s.heap.objs.size) (al : ∀ x y, alike (enc x) (enc y) = true)
    (so : ∀ l : List ι, Sortable (l.map enc)) (dp : ∀ x ∈ L, A.units + 2 + (enc x).depth < cLine)
    (fin : ∀ s' p (out : Array Value) (c : Nat) (L1 : List ι), Sub s.heap s'.heap → s'.gens = s.gens → s'.os = s.os → s.heap.objs.size ≤ p → s'.heap.get? p = some (seqObj "list" out c) →
      L1.Perm L → Show Kt.Rel (L1.mergeSort (dataLe false enc)) out.toList → Q (.ref p) s') :
    wpAny (model P w) A (call (.builtin "sorted") [.ref S]) Q E s := by
  obtain ⟨es, ep, t, sat, fit, small, ris, led, sh⟩ := Kt.open_ is
  refine Calls.call_function_entry kind_sorted plain_sorted entry_sorted (args_sorted1 _) ?_
  unfold Builtin.«sorted»
  refine wpAny_bind (m := checkCount "sorted" 1 1 _) (wpAny_pure ?_)
  refine wpAny_bind (collect_set (A := A.in1) quiet sat fit small ris led fun q vs sb sz g1 o1 pm => ?_)
  obtain ⟨L1, pL, sh1⟩ := show_perm pm sh
  have len : vs.length = L1.length := (show_len sh1).symm
  have few : L1.length ≤ sizeLine := by
    rw [pL.length_eq, show_len sh, List.length_map, Array.length_toList]
    exact fits_of_scanBound small
  refine wpAny_bind (wpAny_newList ?_ (by rw [len]; exact few))
  have hl : (q.heap.push (seqObj "list" vs.toArray 0)).get? q.heap.objs.size = some (seqObj "list" vs.toArray 0) := Heap.get?_push_size _ rfl
  have all : Sub s.heap (q.heap.push (seqObj "list" vs.toArray 0)) := Sub.trans sb (Sub.push _ _)
  have ea : EachIs (fun v x => Kt.Rel x v ∧ x ∈ L) vs L1 := show_each sh1 fun x hx => pL.mem_iff.mp hx
  have er : EachIs (fun v x => ∃ as, Reads (q.heap.push (seqObj "list" vs.toArray 0)) v (enc x) as ∧ q.heap.objs.size ∉ as) vs L1 := ea.mono fun v x ⟨r, m⟩ => by
    obtain ⟨as, r1, r2⟩ := rd _ all x m v r
    exact ⟨as, r1, fun z => absurd (r2 _ z) (Nat.not_lt.mpr sz)⟩
  have deep : ∀ x, x ∈ L1 → A.in1.units + 1 + (enc x).depth < cLine := fun x hx => by
    have h1 := dp x (pL.mem_iff.mp hx)
    have h2 : A.in1.units ≤ A.units + 1 := by simp [Around.in1]
    omega
  refine wpAny_bind (wpAny_holding (list_sort_data (s := { q with heap := q.heap.push (seqObj "list" vs.toArray 0) }) (enc := enc) hl ea er (AllAlike.of al) (so L1) few deep fun out lo eo => ?_))
  · obtain ⟨c, hc⟩ := sortedHeap_at (vs := vs) (out := out.toArray) hl
    refine wpAny_pure ⟨_, rfl, fin _ q.heap.objs.size out.toArray c L1 (fun b o e => ?_) g1 o1 sz hc pL (by simpa using each_show eo)⟩
    have k1 := sb b o e
    have lt := Heap.lt_size k1
    show (sortedHeap (q.heap.push (seqObj "list" vs.toArray 0)) q.heap.objs.size vs out.toArray).get? b = some o
    rw [sortedHeap_old (Nat.ne_of_lt lt) (by rw [size_push']; exact Nat.lt_succ_of_lt lt)]
    exact Heap.get?_push_of_some _ k1
end
end XSt

/-! the kit of sets of texts -/
namespace XSt
open PySem PySem.Spec PyProof.Rows L2 PySem.W PySem.Froz

section
variable {P : Program} {w : World} {A : Around} {E : Value → Shared → Prop} {s : Shared}

def TxRel (k : Str) (v : Value) : Prop := ∃ u, v = .str k u

structure TxIs (P : Program) (w : World) (h : Heap) (S : Addr) (L : List Str) (D : SD) : Prop where
  ob : h.get? S = some (sObj "set" D)
  el : ElemsOf (strKind P w) D.1.toList
  sh : Show TxRel L (D.1.toList.map (·.2))
  fit : D.2.2.fits D.1.size = true
  ris : Ris D.2.2.place.toList
  led : w.params.followText "set-order" = true ∨ D.2.2.led = true
  lim : L.length < scanBound

theorem is_txt {k : Str} {v : Value} : (strKind P w).is k v = true ↔ TxRel k v := by
  constructor
  · intro q
    have q' : Value.isStrOf k v = true := q
    cases v <;> simp [Value.isStrOf] at q'
    exact ⟨_, by rw [q']⟩
  · rintro ⟨u, rfl⟩
    exact is_str k u

theorem show_mem {ι : Type} {Rel : ι → Value → Prop} : ∀ {xs : List ι} {vs : List Value}, Show Rel xs vs → (∀ x ∈ xs, ∃ v ∈ vs, Rel x v) ∧ ∀ v ∈ vs, ∃ x ∈ xs, Rel x v
  | _, _, .nil => ⟨fun _ z => (by cases z), fun _ z => (by cases z)⟩
  | x :: xs, v :: vs, .cons r t => by
    obtain ⟨a, b⟩ := show_mem t
    refine ⟨fun y hy => ?_, fun u hu => ?_⟩
    · rcases List.mem_cons.mp hy with rfl | hy
      · exact ⟨v, List.mem_cons_self .., r⟩
      · obtain ⟨u, hu, z⟩ := a y hy
        exact ⟨u, List.mem_cons_of_mem _ hu, z⟩
    · rcases List.mem_cons.mp hu with rfl | hu
      · exact ⟨x, List.mem_cons_self .., r⟩
      · obtain ⟨y, hy, z⟩ := b u hu
        exact ⟨y, List.mem_cons_of_mem _ hy, z⟩

theorem TxRel.one {a b : Str} {v : Value} (x : TxRel a v) (y : TxRel b v) : a = b := by
  obtain ⟨u, rfl⟩ := x
  obtain ⟨u', e⟩ := y
  injection e

theorem TxIs.size {h : Heap} {S : Addr} {L : List Str} {D : SD} (T : TxIs P w h S L D) : D.1.size = L.length := by
  rw [show_len T.sh, List.length_map, Array.length_toList]

theorem TxIs.ok {h : Heap} {S : Addr} {L : List Str} {D : SD} (T : TxIs P w h S L D) : TxOk P w D L where
  el := T.el
  mem := fun k => by
    obtain ⟨a, b⟩ := show_mem T.sh
    constructor
    · intro hk
      obtain ⟨v, hv, r⟩ := a k hk
      obtain ⟨e, he, rfl⟩ := List.mem_map.mp hv
      exact ⟨e, he, is_txt.mpr r⟩
    · rintro ⟨e, he, q⟩
      obtain ⟨y, hy, r⟩ := b e.2 (List.mem_map.mpr ⟨e, he, rfl⟩)
      rw [TxRel.one (is_txt.mp q) r]
      exact hy
  sz := T.size
  fit := T.fit

/-- what a new text does to the table beside its order -/
theorem addTx_laid {es : Array (Int × Value)} {ep : Nat} {t : SetTable} {h : Int} {v : Value} (r : Ris t.place.toList) :
    Ris (addTx h v (es, ep, t)).2.2.place.toList ∧ (addTx h v (es, ep, t)).2.2.led = t.led ∧ (addTx h v (es, ep, t)).1.toList.Perm (es.toList ++ [(h, v)]) := by
  have p1 := layNew_ris t es h v r
  have p2 := layNew_led t es h v
  have p3 := layNew_perm t es h v
  rw [Array.toList_push] at p3
  unfold addTx
  dsimp only
  generalize layNew t es h v = N at p1 p2 p3 ⊢
  have q1 : Ris (if N.2.1.plain = true then { N.2.1 with plain := false } else N.2.1).place.toList := by
    split
    · exact p1
    · exact p1
  have q2 : (if N.2.1.plain = true then { N.2.1 with plain := false } else N.2.1).led = t.led := by
    split
    · exact p2
    · exact p2
  generalize (if N.2.1.plain = true then { N.2.1 with plain := false } else N.2.1) = t2 at q1 q2 ⊢
  unfold tailTx
  split
  · exact ⟨relayAll_ris t2 N.1 _, (relayAll_led t2 N.1 _).trans q2, (relayAll_perm t2 N.1 _).trans p3⟩
  · exact ⟨q1, q2, p3⟩

theorem txt_there {S : Addr} {L : List Str} {D : SD} {k : Str} {u : Tok} {Q : Bool → Shared → Prop} (T : TxIs P w s.heap S L D) (hk : k ∈ L) (h : Q false s) :
    wpAny (model P w) A (setAddHashed S (.str k u) (hashStr w k)) Q E s := by
  have ok := T.ok
  obtain ⟨es, ep, t⟩ := D
  have dd : (sObj "set" (es, ep, t)).data = .set es ep t := rfl
  have few : es.size < scanBound := by
    have h1 := T.size
    have h2 := T.lim
    simp only at h1
    omega
  have iself : (strKind P w).is k (.str k u) = true := is_str k u
  unfold setAddHashed setAddHashedIn
  refine wpAny_holding (wpAny_bind (wpAny_setState_of T.ob dd T.fit ?_))
  dsimp only
  rw [byScan_of rfl few T.el]
  simp only [↓reduceIte]
  unfold setAddByScan
  refine wpAny_bind (wpAny_bind (wpAny_rule (wpAny_bind (wpAny_setScan_of (knd := strKind P w) (k := k) iself T.ob dd T.fit T.el ?_))))
  obtain ⟨e, he, q⟩ := (ok.mem k).mp hk
  cases found : List.findIdx? (fun e => (strKind P w).is k e.2) es.toList with
  | none =>
    have bad := List.findIdx?_eq_none_iff.mp found e he
    rw [q] at bad
    exact absurd bad (by decide)
  | some j =>
    dsimp only
    exact wpAny_pure (wpAny_pure h)

def txKit (P : Program) (w : World) : SetKit P w Str Str where
  key := fun k => k
  Is := fun h S L => ∃ D, TxIs P w h S L D
  Elt := fun _ _ => True
  Rel := TxRel
  room := fun _ => True
  most := scanBound
  small := Nat.le_refl _
  move := fun ⟨D, T⟩ k => ⟨D, { T with ob := k _ T.ob }⟩
  new := fun {h S} e => ⟨(#[], 0, .fresh 0 0 (!w.params.followText "set-order")), {
    ob := e
    el := fun e he => by simp at he
    sh := .nil
    fit := rfl
    ris := List.Pairwise.nil
    led := by
      show _ ∨ (!w.params.followText "set-order") = true
      cases w.params.followText "set-order"
      · exact Or.inr rfl
      · exact Or.inl rfl
    lim := by decide }⟩
  step := by
    rintro A E s h0 S L x v Q _ ⟨D, T⟩ _ _ _ _ ⟨u, rfl⟩ lim fin
    unfold setAdd
    refine wpAny_holding (wpAny_bind ((strKind P w).pyHash (k := x) (is_str _ _) ?_))
    by_cases c : x ∈ L
    · refine txt_there (s := { s with toks := s.toks + 1 }) T c ?_
      exact fin false s.heap (s.toks + 1) L (Heap.SameBut.refl _ _) (Nat.le_succ _) ⟨D, T⟩ (fun _ => rfl) fun z => absurd (by rw [List.map_id']; exact c) z
    · refine add_x (s := { s with toks := s.toks + 1 }) T.ob T.ok c lim ?_
      obtain ⟨es, ep, t⟩ := D
      obtain ⟨z1, z2, z3⟩ := addTx_laid (es := es) (ep := ep) (t := t) (h := hashStr w x) (v := .str x u) T.ris
      have z4 := add_ok (k := x) u T.ok
      have z5 : ((addTx (hashStr w x) (.str x u) (es, ep, t)).1.toList.map (·.2)).Perm (.str x u :: es.toList.map (·.2)) := by
        refine (z3.map (·.2)).trans ?_
        rw [List.map_append]
        exact List.perm_append_comm
      obtain ⟨L', pL, sh⟩ := show_perm z5 (.cons ⟨u, rfl⟩ T.sh)
      refine fin true _ (s.toks + 1) L' (Heap.SameBut.update ..) (Nat.le_succ _) ⟨_, ⟨get_upd _ T.ob rfl, z4.el, sh, z4.fit, z1, ?_, ?_⟩⟩ (fun z => absurd (by rw [List.map_id'] at z; exact z) c) fun _ => pL
      · rw [z2]
        exact T.led
      · rw [pL.length_eq]
        exact lim
  open_ := fun ⟨D, T⟩ => ⟨D.1, D.2.1, D.2.2, ⟨_, T.ob, rfl, rfl⟩, T.fit, by rw [T.size]; exact T.lim, T.ris, T.led, T.sh⟩
end
end XSt

/-! the kit of sets of tuples of whole numbers and texts: the questions and the search -/
namespace XSt
open PySem PySem.Spec PyProof.Rows L2 PySem.W

section
variable {P : Program} {w : World} {A : Around} {E : Value → Shared → Prop} {s : Shared}

abbrev Tup (P : Program) (w : World) (h : Heap) (k : List Key) (b : Addr) : Prop := IsTupleKey (mixKind P w) h k b
abbrev tHash (P : Program) (w : World) (k : List Key) : Int := tupleKeyHash (mixKind P w) k

theorem Tup.sub {h h' : Heap} {k : List Key} {b : Addr} (x : Tup P w h k b) (q : Sub h h') : Tup P w h' k b := by
  obtain ⟨o, its, n, e, r⟩ := x
  exact ⟨o, its, n, q b o e, r⟩

/-- a whole number or a text -/
def Plainly (v : Value) : Prop := (∃ i t, v = .int i t) ∨ ∃ x t, v = .str x t
theorem plainly_of {k : List Key} {vs : List Value} (x : ItemsAre (mixKind P w) k vs) : ∀ v ∈ vs, Plainly v := by
  induction x with
  | nil => intro v z; cases z
  | cons q _ ih =>
    intro v z
    rcases List.mem_cons.mp z with rfl | z
    · rcases keyIs_shape q with ⟨i, t, _, e⟩ | ⟨y, t, _, e⟩
      · exact Or.inl ⟨i, t, e⟩
      · exact Or.inr ⟨y, t, e⟩
    · exact ih v z
theorem Plainly.cls {v : Value} (x : Plainly v) (n : Nat) : ofAClassStatement n v = pure false := by
  rcases x with ⟨i, t, rfl⟩ | ⟨y, t, rfl⟩ <;> cases n <;> rfl
theorem Plainly.scan {v : Value} (x : Plainly v) : v.scannable = true := by
  rcases x with ⟨i, t, rfl⟩ | ⟨y, t, rfl⟩ <;> rfl

theorem no_class {k : List Key} {b : Addr} {Q : Bool → Shared → Prop} (x : Tup P w s.heap k b) (fin : Q false s) : wpAny (model P w) A (ofAClassStatement 8 (.ref b)) Q E s := by
  have ty := x.typeIs
  obtain ⟨o, its, n, at_, _, da, all⟩ := x
  unfold ofAClassStatement
  refine wpAny_bind (wpAny_typeOf ty ?_)
  dsimp only
  simp only [show (("tuple" : String) == "tuple") = true from by decide, if_true, Bool.not_true, Bool.false_eq_true, if_false]
  try refine wpAny_bind (wpAny_pure ?_)
  try simp only [Bool.not_true, Bool.false_eq_true, if_false]
  show wpAny _ _ (seqItems? (.ref b) >>= _) _ _ s
  refine wpAny_bind (wpAny_seqItems at_ da ?_)
  dsimp only
  refine wpAny_bind ?_
  show wpAny _ _ (forIn its _ _) _ _ s
  rw [← Array.forIn_toList]
  refine wpAny_forIn_list _ (fun left r q => (r.1 = none ∧ q = s) ∧ ∀ v ∈ left, Plainly v) _ ?_ ?_ _ _ ⟨⟨rfl, rfl⟩, plainly_of all⟩
  · rintro v left r q ⟨⟨e1, rfl⟩, good⟩
    rw [(good v (List.mem_cons_self ..)).cls]
    refine wpAny_bind (wpAny_pure ?_)
    simp only [Bool.false_eq_true, if_false]
    exact wpAny_pure ⟨⟨rfl, rfl⟩, fun u z => good u (List.mem_cons_of_mem _ z)⟩
  · rintro ⟨r1, r2⟩ q ⟨⟨e1, rfl⟩, _⟩
    obtain rfl : r1 = none := e1
    exact wpAny_pure fin

theorem by_value {k : List Key} {b : Addr} {Q : Bool → Shared → Prop} (x : Tup P w s.heap k b) (fin : ∀ c, Q c s) : wpAny (model P w) A (hashByValue 8 (.ref b)) Q E s := by
  have ty := x.typeIs
  obtain ⟨o, its, n, at_, _, da, all⟩ := x
  unfold hashByValue
  refine wpAny_bind (wpAny_specialOf ty F.slot_tuple_hash.lookup ?_)
  show wpAny _ _ (seqItems? (.ref b) >>= _) _ _ s
  refine wpAny_bind (wpAny_seqItems at_ da ?_)
  refine wpAny_bind ?_
  show wpAny _ _ (forIn its _ _) _ _ s
  rw [← Array.forIn_toList]
  refine wpAny_forIn_list _ (fun left r q => (r.1 = none ∧ q = s) ∧ ∀ v ∈ left, Plainly v) _ ?_ ?_ _ _ ⟨⟨rfl, rfl⟩, plainly_of all⟩
  · rintro v left r q ⟨⟨e1, rfl⟩, good⟩
    rw [hashByValue_scannable _ (good v (List.mem_cons_self ..)).scan]
    refine wpAny_bind (wpAny_pure ?_)
    cases plainKind v with
    | true =>
      simp only [Bool.not_true, Bool.false_eq_true, if_false]
      exact wpAny_pure ⟨⟨rfl, rfl⟩, fun u z => good u (List.mem_cons_of_mem _ z)⟩
    | false =>
      simp only [Bool.not_false, if_true]
      exact wpAny_pure (wpAny_pure (fin false))
  · rintro ⟨r1, r2⟩ q ⟨⟨e1, rfl⟩, _⟩
    obtain rfl : r1 = none := e1
    exact wpAny_pure (fin true)

theorem unseen {k : List Key} {b : Addr} {Q : Bool → Shared → Prop} (x : Tup P w s.heap k b) {ys : List Value} (all : ∀ y ∈ ys, ∃ k' c, y = Value.ref c ∧ Tup P w s.heap k' c) (fin : Q false s) :
    wpAny (model P w) A (searchCouldBeSeen (.ref b) ys) Q E s := by
  unfold searchCouldBeSeen
  refine wpAny_bind (wpAny_forIn_list _ (fun left r q => (r.1 = none ∧ q = s) ∧ ∀ y ∈ left, ∃ k' c, y = Value.ref c ∧ Tup P w s.heap k' c) _ ?_ ?_ _ _ ⟨⟨rfl, rfl⟩, all⟩)
  · rintro v left r q ⟨⟨e1, rfl⟩, good⟩
    obtain ⟨k', c, rfl, tc⟩ := good v (List.mem_cons_self ..)
    have tl := fun u (z : u ∈ left) => good u (List.mem_cons_of_mem _ z)
    dsimp only
    by_cases same : (b == c || (carriedByValue (.ref b) && carriedByValue (.ref c))) = true
    · exact wp_if_pos same (wpAny_pure ⟨⟨rfl, rfl⟩, tl⟩)
    · refine wp_if_neg same (wpAny_bind (wpAny_eqIsQuiet_tuple x ?_))
      simp only [Bool.not_true, Bool.false_eq_true, if_false]
      refine wpAny_bind (wpAny_eqIsQuiet_tuple tc ?_)
      simp only [Bool.not_true, Bool.false_eq_true, if_false]
      refine wpAny_bind (no_class x ?_)
      simp only [Bool.false_eq_true, if_false]
      refine wpAny_bind (no_class tc ?_)
      simp only [Bool.false_eq_true, if_false]
      exact wpAny_pure ⟨⟨rfl, rfl⟩, tl⟩
  · rintro ⟨r1, r2⟩ q ⟨⟨e1, rfl⟩, _⟩
    obtain rfl : r1 = none := e1
    exact wpAny_pure fin

/-! the set -/
variable {κ : Type} (f : κ → List Key)
def lined (P : Program) (w : World) (L : List (Addr × κ)) : List (Int × Value) := L.map fun p => (tHash P w (f p.2), Value.ref p.1)
def hashes (P : Program) (w : World) (L : List (Addr × κ)) : List Int := L.map fun p => tHash P w (f p.2)

structure TuIs (P : Program) (w : World) (h : Heap) (S : Addr) (L : List (Addr × κ)) (es : Array (Int × Value)) (ep : Nat) (t : SetTable) : Prop where
  ob : ∃ o, h.get? S = some o ∧ o.ExactSet ∧ o.data = .set es ep t
  line : es.toList = lined f P w L
  tab : TabOk t (hashes f P w L)
  led : w.params.followText "set-order" = true ∨ t.led = true
  room : L.length * 5 < t.mask * 3
  lim : L.length < 64

variable {f} {S : Addr} {L : List (Addr × κ)} {es : Array (Int × Value)} {ep : Nat} {t : SetTable} {h : Heap}
theorem TuIs.len (T : TuIs f P w h S L es ep t) : es.size = L.length := by
  have q := congrArg List.length T.line
  rw [Array.length_toList, lined, List.length_map] at q
  exact q
theorem TuIs.places (T : TuIs f P w h S L es ep t) : t.place.size = L.length := by
  have q := T.tab.sz
  rw [hashes, List.length_map] at q
  exact q
theorem fits_by {t : SetTable} {n : Nat} (a : t.place.size = n) (b : t.dummies = #[]) (c : n ≤ t.mask) : t.fits n = true := by
  unfold SetTable.fits SetTable.fill
  rw [b, Bool.and_eq_true, beq_iff_eq, decide_eq_true_eq]
  refine ⟨a, ?_⟩
  show t.place.size + 0 ≤ t.mask
  omega
theorem TuIs.fit (T : TuIs f P w h S L es ep t) : t.fits es.size = true := by
  rw [T.len]
  refine fits_by T.places T.tab.dm ?_
  have := T.room
  omega
theorem TuIs.entry (T : TuIs f P w h S L es ep t) {i : Nat} {p : Addr × κ} (e : L[i]? = some p) : es[i]? = some (tHash P w (f p.2), Value.ref p.1) := by
  rw [← Array.getElem?_toList, T.line, lined, List.getElem?_map, e]
  rfl
end
end XSt

/-! the search among tuples -/
namespace XSt
open PySem PySem.Spec PyProof.Rows L2 PySem.W

section
variable {P : Program} {w : World} {A : Around} {E : Value → Shared → Prop} {s : Shared} {κ : Type} {f : κ → List Key} {S : Addr} {L : List (Addr × κ)} {es : Array (Int × Value)} {ep : Nat} {t : SetTable} {h : Heap}

/-- the c-th place that a search of the hash g stands at -/
abbrev stand (m : Nat) (g : Int) (c : Nat) : SetTable.Probe := nth m (runAt m (SetTable.bits g % (m + 1)) (SetTable.bits g)) c
theorem stand_plain (m : Nat) (g : Int) : ∀ c, (stand m g c).dummy = none := by
  have all : ∀ (c : Nat) (p : SetTable.Probe), p.dummy = none → (nth m p c).dummy = none := by
    intro c
    induction c with
    | zero => exact fun _ e => e
    | succ c ih =>
      intro p e
      apply ih (adv m p)
      unfold adv
      split <;> exact e
  exact fun c => all c _ rfl
theorem stand_on (m : Nat) (g : Int) (c q : Nat) : nth m (stand m g c) q = stand m g (c + q) := (nth_add m c _ q).symm

theorem seek (T : TuIs f P w s.heap S L es ep t) (here : ∀ p ∈ L, Tup P w s.heap (f p.2) p.1) {x : Addr} {k : κ} (tx : Tup P w s.heap (f k) x) (hu : A.units < cLine) {g : Int} (hg : tHash P w (f k) = g) {K : Nat}
    (kf : K < 10 * SetTable.turns t.mask) (free : (stand t.mask g K).j ∉ t.place.toList) (full : ∀ c, c < K → (stand t.mask g c).j ∈ t.place.toList) {Q : SetFound → Shared → Prop}
    (found : (∃ p ∈ L, f p.2 = f k) → Q (.there none) s) (miss : (∀ p ∈ L, f p.2 ≠ f k) → Q (.free (stand t.mask g K).j false) s) :
    ∀ (fuel c : Nat) (st : Option SetTable.Probe), st.getD (t.probeStart g) = stand t.mask g c → c ≤ K → K < c + fuel →
      (∀ (i : Nat) p, L[i]? = some p → f p.2 = f k → ∃ d, c ≤ d ∧ d < K ∧ t.place.toList[i]? = some (stand t.mask g d).j) →
      wpAny (model P w) A (setSearchFrom S (.ref x) g true fuel st) Q E s := by
  intro fuel
  induction fuel with
  | zero =>
    intro c st _ a b
    exact absurd b (by omega)
  | succ fuel ih =>
    intro c st start ck room ahead
    obtain ⟨o, ho, ex, dat⟩ := T.ob
    rw [setSearchFrom_succ]
    refine wpAny_bind (wpAny_setState_of ho dat T.fit ?_)
    dsimp only
    have even : ¬ t.gaveWay = true := by
      unfold SetTable.gaveWay
      rw [mask_odd T.tab.mok]
      decide
    refine wp_if_neg even ?_
    try refine wpAny_bind (wpAny_pure ?_)
    have hashOf : ∀ (i : Nat) p, L[i]? = some p → (es[i]?.map (·.1)).getD 0 = tHash P w (f p.2) := fun i p e => by
      rw [T.entry e]
      rfl
    have told := go_spec t T.tab.ris T.tab.dm (fun i => (es[i]?.map (·.1)).getD 0) g (10 * SetTable.turns t.mask) (K - c) (stand t.mask g c) (stand_plain _ _ _) (by omega)
      (fun q z => by rw [stand_on]; exact full _ (by omega)) (by rw [stand_on, show c + (K - c) = K from by omega]; exact free)
    have begin_ : t.probe (fun i => (es[i]?.map (·.1)).getD 0) g (st.getD (t.probeStart g)) = SetTable.probe.go t (fun i => (es[i]?.map (·.1)).getD 0) g (10 * SetTable.turns t.mask) (stand t.mask g c) := by
      rw [start]
      rfl
    rw [begin_]
    simp only [stand_on] at told
    rw [show c + (K - c) = K from by omega] at told
    rcases told with ⟨q, i, qk, at_, same, before, ans⟩ | ⟨before, ans⟩
    · rw [ans]
      dsimp only
      have il : i < L.length := by
        have z := (List.getElem?_eq_some_iff.mp at_).1
        rw [Array.length_toList, T.places] at z
        exact z
      obtain ⟨p, hp⟩ : ∃ p, L[i]? = some p := ⟨_, List.getElem?_eq_getElem il⟩
      have mp : p ∈ L := List.mem_of_getElem? hp
      have rest : wpAny (model P w) A (searchRest S (.ref x) g true fuel es t (stand t.mask g (c + q)).j i (stand t.mask g (c + (q + 1)))) Q E s := by
        unfold searchRest
        rw [T.entry hp]
        dsimp only
        refine wpAny_bind (wpAny_holding (wpAny_eqBool_tuple hu (here p mp) tx ?_))
        refine wpAny_bind (wpAny_setState_of ho dat T.fit ?_)
        dsimp only
        by_cases eq : f p.2 = f k
        · exact wp_if_pos (by simp [eq]) (wpAny_pure (found ⟨p, mp, eq⟩))
        · refine wp_if_neg (by simp [eq]) ?_
          try refine wpAny_bind (wpAny_pure ?_)
          rw [sameMem]
          dsimp only
          have live : t.slot (stand t.mask g (c + q)).j = .live i := slot_live T.tab.ris at_
          simp only [if_true, live, T.entry hp]
          refine wpAny_bind (wpAny_isSame_ref_self (wpAny_bind (wpAny_pure ?_)))
          simp only [if_true]
          refine wp_if_neg (by simp [eq]) (ih (c + (q + 1)) _ rfl (by omega) (by omega) fun i' p' e' k' => ?_)
          obtain ⟨d, d1, d2, d3⟩ := ahead i' p' e' k'
          refine ⟨d, ?_, d2, d3⟩
          -- the place of an equal one lies further on: it is neither passed nor this one
          apply Decidable.byContradiction
          intro bad
          by_cases lt : d < c + q
          · refine before (d - c) i' (by omega) (by rw [show c + (d - c) = d from by omega]; exact d3) ?_
            rw [← hg, ← k']
            exact hashOf i' p' e'
          · obtain rfl : d = c + q := by omega
            have z := slot_live T.tab.ris d3
            rw [live] at z
            injection z with z
            rw [← z, hp] at e'
            injection e' with e'
            rw [e'] at eq
            exact eq k'
      by_cases led : t.led = true
      · refine wp_if_neg (by simp [led]) ?_
        try refine wpAny_bind (wpAny_pure ?_)
        exact rest
      · refine wp_if_pos (by simp [led]) (wpAny_bind (unseen tx (fun y hy => ?_) ?_))
        · obtain ⟨e, he, rfl⟩ := List.mem_map.mp hy
          have he' : e ∈ es.toList := (by simpa using he : e ∈ es ∧ e.1 = g).1 |> fun z => by simpa using z
          rw [T.line, lined] at he'
          obtain ⟨p', m', rfl⟩ := List.mem_map.mp he'
          exact ⟨_, p'.1, rfl, here p' m'⟩
        · refine wp_if_neg (by decide) ?_
          try refine wpAny_bind (wpAny_pure ?_)
          exact rest
    · rw [ans]
      dsimp only
      refine wpAny_pure (miss fun p m eq => ?_)
      obtain ⟨i, il, rfl⟩ := List.getElem_of_mem m
      have e : L[i]? = some L[i] := List.getElem?_eq_getElem il
      obtain ⟨d, d1, d2, d3⟩ := ahead i _ e eq
      refine before (d - c) i (by omega) (by rw [show c + (d - c) = d from by omega]; exact d3) ?_
      rw [← hg, ← eq]
      exact hashOf i _ e

theorem seek_all (T : TuIs f P w s.heap S L es ep t) (here : ∀ p ∈ L, Tup P w s.heap (f p.2) p.1) {x : Addr} {k : κ} (tx : Tup P w s.heap (f k) x) (hu : A.units < cLine) {Q : SetFound → Shared → Prop}
    (found : (∃ p ∈ L, f p.2 = f k) → Q (.there none) s)
    (miss : ∀ K, (∀ p ∈ L, f p.2 ≠ f k) → way t.mask (tHash P w (f k)) K ∉ t.place.toList → (∀ c, c < K → way t.mask (tHash P w (f k)) c ∈ t.place.toList) → Q (.free (way t.mask (tHash P w (f k)) K) false) s) :
    wpAny (model P w) A (setSearch S (.ref x) (tHash P w (f k)) true) Q E s := by
  have hl : (hashes f P w L).length = L.length := by rw [hashes, List.length_map]
  obtain ⟨K, k1, k2, k3⟩ := T.tab.first (by have := T.room; omega) (tHash P w (f k))
  have big : K < 100000 := by
    have z : 10 * SetTable.turns t.mask ≤ 2000 := by
      unfold SetTable.turns
      rcases T.tab.mok with e | e | e <;> omega
    omega
  unfold setSearch
  refine seek T here tx hu rfl k1 k2 k3 found (fun n => miss K n k2 k3) 100000 0 none rfl (Nat.zero_le _) (by omega) fun i p e eq => ?_
  have e2 : (hashes f P w L)[i]? = some (tHash P w (f k)) := by
    rw [hashes, List.getElem?_map, e, ← eq]
    rfl
  have il : i < t.place.toList.length := by
    rw [Array.length_toList, T.places]
    exact (List.getElem?_eq_some_iff.mp e).1
  have e3 := List.getElem?_eq_getElem il
  obtain ⟨d, d1, d2⟩ := T.tab.before k2 e2 e3
  exact ⟨d, Nat.zero_le _, d1, by rw [e3]; exact congrArg some d2.symm⟩
end
end XSt

/-! a tuple put into the set; the kit -/
namespace XSt
open PySem PySem.Spec PyProof.Rows L2 PySem.W

section
variable {P : Program} {w : World} {A : Around} {E : Value → Shared → Prop} {s : Shared} {κ : Type} {f : κ → List Key} {S : Addr} {L : List (Addr × κ)} {es : Array (Int × Value)} {ep : Nat} {t : SetTable} {h : Heap}

theorem shuffled (line : es.toList = lined f P w L) {order : Array Nat} (pm : order.toList.Perm (List.range L.length)) :
    ∃ L2, (order.filterMap (es[·]?)).toList = lined f P w L2 ∧ L2.Perm L ∧ hashes f P w L2 = order.toList.map fun i => (es.map (·.1)).getD i 0 := by
  have ent : ∀ i : Nat, es[i]? = (L[i]?).map fun p => (tHash P w (f p.2), Value.ref p.1) := fun i => by
    rw [← Array.getElem?_toList, line, lined, List.getElem?_map]
  refine ⟨order.toList.filterMap (fun i => L[i]?), ?_, ?_, ?_⟩
  · rw [Array.toList_filterMap, lined, List.map_filterMap]
    exact congrArg (fun z => List.filterMap z order.toList) (funext ent)
  · have z := pm.filterMap (fun i => L[i]?)
    rw [List.filterMap_getElem?_range_length] at z
    exact z
  · have all : ∀ l : List Nat, (∀ i ∈ l, i < L.length) → hashes f P w (l.filterMap fun i => L[i]?) = l.map fun i => (es.map (·.1)).getD i 0 := by
      intro l
      induction l with
      | nil => intro _; rfl
      | cons i l ih =>
        intro k
        have il := k i (List.mem_cons_self ..)
        have e := List.getElem?_eq_getElem il
        have e2 : (es.map (·.1)).getD i 0 = tHash P w (f (L[i]).2) := by
          rw [Array.getD_eq_getD_getElem?, Array.getElem?_map, ent i, e]
          rfl
        rw [List.filterMap_cons_some e, List.map_cons, ← ih fun j z => k j (List.mem_cons_of_mem _ z), e2]
        rfl
    exact all _ fun i z => List.mem_range.mp (pm.mem_iff.mp z)

theorem relaid_in {o : Obj} (ho : s.heap.get? S = some o) (ex : o.ExactSet) (dat : o.data = .set es ep t) (line : es.toList = lined f P w L) (pl : t.place.size = L.length) (dm : t.dummies = #[]) (ml : L.length ≤ t.mask)
    (led : w.params.followText "set-order" = true ∨ t.led = true) (lim : L.length < 64) {wanted M : Nat} (size : SetTable.sizeAbove wanted - 1 = M) (ok : MaskOk M) (size2 : SetTable.sizeAbove wanted ≤ 128) (room : L.length * 5 < M * 3)
    {Q : Unit → Shared → Prop} (fin : ∀ h' L' es' ep' t', Heap.SameBut S s.heap h' → TuIs f P w h' S L' es' ep' t' → L'.Perm L → Q () { s with heap := h' }) : wpAny (model P w) A (setRelay S wanted) Q E s := by
  have len : es.size = L.length := by
    have q := congrArg List.length line
    rw [Array.length_toList, lined, List.length_map] at q
    exact q
  have len2 : (es.map (·.1)).size = L.length := by rw [Array.size_map, len]
  have fit : t.fits es.size = true := by
    rw [len]
    exact fits_by pl dm ml
  obtain ⟨t', order, e, pm, tab, e1, e2, e3, e4⟩ := relaid_ok t (hs := es.map (·.1)) (wanted := wanted) size ok (by omega)
  rw [len2] at pm
  obtain ⟨L2, l1, l2, l3⟩ := shuffled (f := f) (P := P) (w := w) line pm
  rw [← l3] at tab
  have len3 : (order.filterMap (es[·]?)).size = L.length := by
    have q := congrArg List.length l1
    rw [Array.length_toList, lined, List.length_map, l2.length_eq] at q
    exact q
  have sl : (64 : Nat) ≤ sizeLine := by rw [sizeLine_eq]; decide
  rw [setRelay_eq]
  refine wpAny_bind (wpAny_setState_of ho dat fit ?_)
  dsimp only
  refine wp_if_neg (by rw [sizeLine_eq]; omega) ?_
  try refine wpAny_bind (wpAny_pure ?_)
  rw [e]
  dsimp only
  refine wpAny_bind (wp_if_neg (by rw [len3, len]; simp) ?_)
  try refine wpAny_bind (wpAny_pure ?_)
  refine wpAny_pure ?_
  dsimp only
  refine wpAny_storeSet_of ho dat (fin _ L2 _ (ep + 1) t' (Heap.SameBut.update ..) ⟨⟨_, store_at ho dat, ex, rfl⟩, l1, tab, by rw [e2]; exact led, ?_, by rw [l2.length_eq]; exact lim⟩ l2) (by omega)
  rw [l2.length_eq, e1]
  exact room

theorem put_in (T : TuIs f P w s.heap S L es ep t) (here : ∀ p ∈ L, Tup P w s.heap (f p.2) p.1) {x : Addr} {k : κ} (tx : Tup P w s.heap (f k) x) (hu : A.units < cLine) (lim : L.length + 1 < 64) {Q : Bool → Shared → Prop}
    (fin : ∀ b h' L' es' ep' t', Heap.SameBut S s.heap h' → TuIs f P w h' S L' es' ep' t' → ((∃ p ∈ L, f p.2 = f k) → L' = L) → ((∀ p ∈ L, f p.2 ≠ f k) → L'.Perm ((x, k) :: L)) → Q b { s with heap := h' }) :
    wpAny (model P w) A (setAddHashed S (.ref x) (tHash P w (f k))) Q E s := by
  obtain ⟨o, ho, ex, dat⟩ := T.ob
  have room := T.room
  have sl : (64 : Nat) ≤ sizeLine := by rw [sizeLine_eq]; decide
  unfold setAddHashed
  refine wpAny_holding ?_
  rw [show (100000 : Nat) = 99999 + 1 from rfl, setAddHashedIn_succ]
  refine wpAny_bind (wpAny_setState_of ho dat T.fit ?_)
  dsimp only
  refine wp_if_neg (by simp [byScan, Value.scannable]) ?_
  try refine wpAny_bind (wpAny_pure ?_)
  refine wpAny_bind (seek_all T here tx hu (fun old => ?_) fun K new k2 k3 => ?_)
  · dsimp only
    refine wpAny_pure (fin false s.heap L es ep t (Heap.SameBut.refl _ _) T (fun _ => rfl) fun z => ?_)
    obtain ⟨p, m, e⟩ := old
    exact absurd e (z p m)
  · dsimp only
    refine wpAny_bind (wpAny_setState_of ho dat T.fit ?_)
    dsimp only
    obtain ⟨b1, b2, b3, b4, b5, b6, b7, b8, b9⟩ := T.tab.put k2 k3
    generalize t.put (way t.mask (tHash P w (f k)) K) = pt at b1 b3 b4 b5 b6 b7 b8 b9 ⊢
    obtain ⟨t1, at_⟩ := pt
    dsimp only at b1 b3 b4 b5 b6 b7 b8 b9 ⊢
    rw [← b1] at b2 b3
    have grown : (SetTable.insertAt es at_ (tHash P w (f k), Value.ref x)).toList = lined f P w (L.take at_ ++ (x, k) :: L.drop at_) := by
      rw [SetTable.toList_insertAt, T.line]
      simp only [lined, List.map_append, List.map_cons, List.map_take, List.map_drop]
    have hs1 : hashes f P w (L.take at_ ++ (x, k) :: L.drop at_) = (hashes f P w L).take at_ ++ tHash P w (f k) :: (hashes f P w L).drop at_ := by
      simp only [hashes, List.map_append, List.map_cons, List.map_take, List.map_drop]
    have pm : (L.take at_ ++ (x, k) :: L.drop at_).Perm ((x, k) :: L) := by
      have z : (L.take at_ ++ (x, k) :: L.drop at_).Perm ((x, k) :: (L.take at_ ++ L.drop at_)) := List.perm_middle
      rw [List.take_append_drop] at z
      exact z
    rw [← hs1] at b3
    have hl : (hashes f P w L).length = L.length := by rw [hashes, List.length_map]
    rw [hl] at b9
    have inner : ∀ t2 : SetTable, t2.place = t1.place → t2.dummies = t1.dummies → t2.mask = t1.mask → t2.led = t1.led →
        wpAny (model P w) A (do
          storeSet S (SetTable.insertAt es at_ (tHash P w (f k), Value.ref x)) t2
          if !false && t2.tooFull then setRelay S (SetTable.grown (es.size + 1))
          return true) Q E s := fun t2 c1 c2 c3 c4 => by
      have tab2 : TabOk t2 (hashes f P w (L.take at_ ++ (x, k) :: L.drop at_)) := by
        obtain ⟨d1, d2, d3, d4, d5, d6⟩ := b3
        exact ⟨by rw [c1]; exact d1, by rw [c2]; exact d2, by rw [c1]; exact d3, by rw [c3]; exact d4, by rw [c1, c3]; exact d5, by rw [c1, c3]; exact d6⟩
      have fill2 : t2.fill = L.length + 1 := by
        rw [← b9]
        show t2.place.size + t2.dummies.size = t1.place.size + t1.dummies.size
        rw [c1, c2]
      have mask2 : t2.mask = t.mask := c3.trans b4
      generalize L.take at_ ++ (x, k) :: L.drop at_ = L1 at grown hs1 pm b3 tab2
      generalize SetTable.insertAt es at_ (tHash P w (f k), Value.ref x) = es1 at grown ⊢
      have n1 : L1.length = L.length + 1 := pm.length_eq
      have n2 : es1.size = L.length + 1 := by
        have q := congrArg List.length grown
        rw [Array.length_toList, lined, List.length_map, n1] at q
        exact q
      refine wpAny_bind (wpAny_storeSet_of ho dat ?_ (by omega))
      have led2 : w.params.followText "set-order" = true ∨ t2.led = true := by
        rw [c4, b5]
        exact T.led
      have sb : Heap.SameBut S s.heap (s.heap.update S (Obj.putSet es1 t2)) := Heap.SameBut.update ..
      have ho1 := store_at (es' := es1) (t' := t2) ho dat
      by_cases full : t2.tooFull = true
      · have f1 := full
        unfold SetTable.tooFull at f1
        rw [decide_eq_true_eq, fill2, mask2] at f1
        have two : (t.mask = 7 ∧ L.length = 4) ∨ (t.mask = 31 ∧ L.length = 18) := by
          rcases T.tab.mok with e | e | e
          · exact Or.inl ⟨e, by omega⟩
          · exact Or.inr ⟨e, by omega⟩
          · omega
        have pl2 : t2.place.size = L1.length := by
          have q := tab2.sz
          rw [hashes, List.length_map] at q
          exact q
        have go : ∀ M, SetTable.sizeAbove (SetTable.grown (es.size + 1)) - 1 = M → MaskOk M → SetTable.sizeAbove (SetTable.grown (es.size + 1)) ≤ 128 → L1.length * 5 < M * 3 →
            wpAny (model P w) A (setRelay S (SetTable.grown (es.size + 1))) (fun _ q => wpAny (model P w) A (pure true) Q E q) E { s with heap := s.heap.update S (Obj.putSet es1 t2) } := fun M m1 m2 m3 m4 => by
          refine relaid_in (s := { s with heap := s.heap.update S (Obj.putSet es1 t2) }) ho1 ex rfl grown pl2 tab2.dm (by rw [n1, mask2]; omega) led2 (by omega) m1 m2 m3 m4 fun h2 L2 es2 ep2 u2 sb2 T2 pm2 => ?_
          refine wpAny_pure (fin true h2 L2 es2 ep2 u2 (sb.trans sb2) T2 (fun z => ?_) fun _ => pm2.trans pm)
          obtain ⟨p, m, e⟩ := z
          exact absurd e (new p m)
        refine wp_if_pos (by simp [full]) (wpAny_bind ?_)
        rw [T.len] at go ⊢
        rcases two with ⟨_, e⟩ | ⟨_, e⟩
        · rw [e] at go ⊢
          exact go 31 (by rw [size_20]) (Or.inr (Or.inl rfl)) (by rw [size_20]; decide) (by omega)
        · rw [e] at go ⊢
          exact go 127 (by rw [size_76]) (Or.inr (Or.inr rfl)) (by rw [size_76]; decide) (by omega)
      · have f1 := full
        unfold SetTable.tooFull at f1
        rw [decide_eq_true_eq, fill2] at f1
        refine wp_if_neg (by simp [full]) ?_
        try refine wpAny_bind (wpAny_pure ?_)
        refine wpAny_pure (fin true _ L1 es1 (ep + 1) t2 sb ⟨⟨_, ho1, ex, rfl⟩, grown, tab2, led2, by omega, by omega⟩ (fun z => ?_) fun _ => pm)
        obtain ⟨p, m, e⟩ := z
        exact absurd e (new p m)
    have tail : ∀ c : Bool, wpAny (model P w) A (do
          storeSet S (SetTable.insertAt es at_ (tHash P w (f k), Value.ref x)) (if c = true then t1 else { t1 with plain := false })
          if !false && (if c = true then t1 else { t1 with plain := false }).tooFull then setRelay S (SetTable.grown (es.size + 1))
          return true) Q E s := fun c => by
      cases c with
      | true => exact inner t1 rfl rfl rfl rfl
      | false => exact inner { t1 with plain := false } rfl rfl rfl rfl
    by_cases pln : t1.plain = true
    · first
        | exact wp_if_pos pln (wpAny_bind (by_value tx tail))
        | exact wpAny_bind (wp_if_pos pln (by_value tx tail))
    · first
        | exact wp_if_neg pln (wpAny_bind (wpAny_pure (tail true)))
        | exact wpAny_bind (wp_if_neg pln (wpAny_pure (tail true)))
end
end XSt

/-! the kit of sets of tuples -/
namespace XSt
open PySem PySem.Spec PyProof.Rows L2 PySem.W

theorem show_map {ι : Type} {Rel : ι → Value → Prop} (g : ι → Value) (k : ∀ x, Rel x (g x)) : ∀ xs : List ι, Show Rel xs (xs.map g)
  | [] => .nil
  | x :: xs => .cons (k x) (show_map g k xs)

def tuKit (P : Program) (w : World) {κ : Type} (f : κ → List Key) (inj : ∀ a b, f a = f b → a = b) : SetKit P w (Addr × κ) κ where
  key := fun p => p.2
  Is := fun h S L => ∃ es ep t, TuIs f P w h S L es ep t
  Elt := fun h p => Tup P w h (f p.2) p.1
  Rel := fun p v => v = .ref p.1
  room := fun A => A.units < cLine
  most := 64
  small := by decide
  move := fun ⟨es, ep, t, T⟩ k => ⟨es, ep, t, { T with ob := let ⟨o, ho, r⟩ := T.ob; ⟨o, k o ho, r⟩ }⟩
  new := fun {h S} e => ⟨#[], 0, .fresh 0 0 (!w.params.followText "set-order"), {
    ob := ⟨_, e, ⟨rfl, rfl, rfl⟩, rfl⟩
    line := rfl
    tab := ⟨List.Pairwise.nil, rfl, rfl, Or.inl rfl, fun x hx => (by cases hx), fun i h j hi => (by simp [hashes] at hi)⟩
    led := by
      show _ ∨ (!w.params.followText "set-order") = true
      cases w.params.followText "set-order"
      · exact Or.inr rfl
      · exact Or.inl rfl
    room := by
      show 0 * 5 < 7 * 3
      decide
    lim := by
      show 0 < 64
      decide }⟩
  step := by
    rintro A E s h0 S L ⟨a, k⟩ v Q hu ⟨es, ep, t, T⟩ sub _ elts elt rfl lim fin
    have tx : Tup P w s.heap (f k) a := Tup.sub elt sub
    unfold setAdd
    refine wpAny_holding (wpAny_bind (wpAny_pyHash_tuple hu tx ?_))
    refine put_in (s := { s with toks := s.toks + ((f k).length + 1) }) T (fun p m => Tup.sub (elts p m) sub) tx hu lim fun b h' L' es' ep' t' sb T' c1 c2 => ?_
    refine fin b h' _ L' sb (Nat.le_add_right _ _) ⟨es', ep', t', T'⟩ (fun z => c1 ?_) fun z => c2 fun p m e => z ?_
    · obtain ⟨p, m, e⟩ := List.mem_map.mp z
      exact ⟨p, m, congrArg f e⟩
    · exact List.mem_map.mpr ⟨p, m, inj _ _ e⟩
  open_ := fun {h S L} ⟨es, ep, t, T⟩ => by
    obtain ⟨o, ho, ex, dat⟩ := T.ob
    refine ⟨es, ep, t, ⟨o, ho, ex.1, dat⟩, T.fit, ?_, T.tab.ris, T.led, ?_⟩
    · rw [T.len]
      exact Nat.lt_trans T.lim (by decide)
    · rw [T.line, lined, List.map_map]
      exact show_map (Rel := fun p v => v = Value.ref p.1) (fun p => Value.ref p.1) (fun _ => rfl) L
end XSt

/-! the orders; set(..) and sorted(..) of texts and of pairs, over the objects -/
namespace XSt
open PySem PySem.Spec PyProof.Rows L2 PySem.W

/-! lists without doubles -/
section
variable {α : Type} [DecidableEq α]
def once : List α → List α
  | [] => []
  | x :: l => if x ∈ l then once l else x :: once l
theorem mem_once {x : α} : ∀ {l : List α}, x ∈ once l ↔ x ∈ l
  | [] => Iff.rfl
  | y :: l => by
    unfold once
    split
    · rename_i c
      rw [mem_once, List.mem_cons]
      exact ⟨Or.inr, fun z => z.elim (fun e => e ▸ c) id⟩
    · rw [List.mem_cons, List.mem_cons, mem_once]
theorem nodup_once : ∀ l : List α, (once l).Nodup
  | [] => List.nodup_nil
  | y :: l => by
    unfold once
    split
    · exact nodup_once l
    · rename_i c
      exact List.nodup_cons.mpr ⟨fun z => c (mem_once.mp z), nodup_once l⟩
theorem once_len : ∀ l : List α, (once l).length ≤ l.length
  | [] => Nat.le_refl _
  | y :: l => by
    have := once_len l
    unfold once
    split <;> simp <;> omega
theorem perm_once {l m : List α} (nd : m.Nodup) (e : ∀ x, x ∈ m ↔ x ∈ l) : m.Perm (once l) :=
  (List.perm_ext_iff_of_nodup nd (nodup_once l)).mpr fun x => (e x).trans mem_once.symm
theorem once_same {l m : List α} (e : ∀ x, x ∈ m ↔ x ∈ l) : (once m).Perm (once l) := perm_once (nodup_once m) fun x => mem_once.trans (e x)
end

/-! one order for each -/
structure Ordly {α : Type} (le : α → α → Bool) : Prop where
  tr : ∀ a b c, le a b = true → le b c = true → le a c = true
  tot : ∀ a b, (le a b || le b a) = true
  anti : ∀ a b, le a b = true → le b a = true → a = b
theorem Ordly.one {α : Type} {le : α → α → Bool} (o : Ordly le) {l m : List α} (p : m.Perm l) (s : m.Pairwise (fun a b => le a b = true)) : m = l.mergeSort le :=
  List.Perm.eq_of_pairwise (fun a b _ _ x y => o.anti a b x y) s (List.pairwise_mergeSort o.tr o.tot l) (p.trans (List.mergeSort_perm l le).symm)
theorem Ordly.same {α : Type} {le : α → α → Bool} (o : Ordly le) {l m : List α} (p : m.Perm l) : m.mergeSort le = l.mergeSort le :=
  o.one ((List.mergeSort_perm m le).trans p) (List.pairwise_mergeSort o.tr o.tot m)

def sLe (a b : Str) : Bool := decide (a.cps.toList ≤ b.cps.toList)
theorem str_by {a b : Str} (e : a.cps.toList = b.cps.toList) : a = b := by
  obtain ⟨⟨a⟩⟩ := a
  obtain ⟨⟨b⟩⟩ := b
  have e' : a = b := e
  rw [e']
theorem sLe_ord : Ordly sLe where
  tr := fun a b c x y => decide_eq_true (List.le_trans (of_decide_eq_true x) (of_decide_eq_true y))
  tot := fun a b => by
    rcases List.le_total a.cps.toList b.cps.toList with z | z
    · exact Bool.or_eq_true_iff.mpr (Or.inl (decide_eq_true z))
    · exact Bool.or_eq_true_iff.mpr (Or.inr (decide_eq_true z))
  anti := fun a b x y => str_by (List.le_antisymm (of_decide_eq_true x) (of_decide_eq_true y))

def pLe (a b : Int × Str) : Bool := decide (a.1 < b.1) || (decide (a.1 = b.1) && sLe a.2 b.2)
theorem pLe_iff {a b : Int × Str} : pLe a b = true ↔ a.1 < b.1 ∨ (a.1 = b.1 ∧ sLe a.2 b.2 = true) := by
  unfold pLe
  rw [Bool.or_eq_true, Bool.and_eq_true, decide_eq_true_eq, decide_eq_true_eq]
theorem pLe_ord : Ordly pLe where
  tr := fun a b c x y => by
    rw [pLe_iff] at *
    rcases x with x | ⟨x, x'⟩ <;> rcases y with y | ⟨y, y'⟩
    · left; omega
    · left; omega
    · left; omega
    · exact Or.inr ⟨x.trans y, sLe_ord.tr _ _ _ x' y'⟩
  tot := fun a b => by
    rw [Bool.or_eq_true, pLe_iff, pLe_iff]
    rcases Int.lt_trichotomy a.1 b.1 with z | z | z
    · exact Or.inl (Or.inl z)
    · rcases Bool.or_eq_true_iff.mp (sLe_ord.tot a.2 b.2) with q | q
      · exact Or.inl (Or.inr ⟨z, q⟩)
      · exact Or.inr (Or.inr ⟨z.symm, q⟩)
    · exact Or.inr (Or.inl z)
  anti := fun a b x y => by
    rw [pLe_iff] at *
    obtain ⟨a1, a2⟩ := a
    obtain ⟨b1, b2⟩ := b
    rcases x with x | ⟨x, x'⟩ <;> rcases y with y | ⟨y, y'⟩ <;> simp only at *
    · omega
    · omega
    · omega
    · rw [x, sLe_ord.anti _ _ x' y']

theorem dataLe_tx : dataLe false (fun k : Str => PyData.str k) = sLe := by
  rw [dataLe_str]
  rfl
theorem dataLt_is (x x' : Int) (y y' : Str) : dataLt (.tuple [.int x, .str y]) (.tuple [.int x', .str y']) = decide (x < x' ∨ (x = x' ∧ y.cps.toList < y'.cps.toList)) := by
  rw [dataLt_pair (by simp [alike]) (by simp [alike]), dataLt_int, W.dataLt_str]
  simp only [PyData.eqv, beq_iff_eq]
  by_cases h1 : x = x' <;> by_cases h2 : y = y'
  · subst h1; subst h2; simp
  · simp [h1, h2]
  · simp [h1, h2]
  · simp [h1, h2]
theorem dataLe_pr : dataLe false (fun p : Addr × Int × Str => PyData.tuple [.int p.2.1, .str p.2.2]) = fun p q => pLe p.2 q.2 := by
  funext p q
  show (!dataLt (.tuple [.int q.2.1, .str q.2.2]) (.tuple [.int p.2.1, .str p.2.2])) = _
  rw [dataLt_is]
  unfold pLe sLe
  by_cases h1 : p.2.1 < q.2.1
  · have : ¬ q.2.1 < p.2.1 := by omega
    have : ¬ q.2.1 = p.2.1 := by omega
    simp [*]
  · by_cases h2 : p.2.1 = q.2.1
    · by_cases h3 : p.2.2.cps.toList ≤ q.2.2.cps.toList
      · simp [h1, h2, h3, List.not_lt.mpr h3]
      · have h4 : q.2.2.cps.toList < p.2.2.cps.toList := List.not_le.mp h3
        simp [h1, h2, h3, h4]
    · have : q.2.1 < p.2.1 := by omega
      simp [*]

/-! the objects -/
def SO {P : Program} {w : World} {ι κ : Type} (Kt : SetKit P w ι κ) (a : Addr) (L : List ι) : HO := .ext fun h => Kt.Is h a L
theorem so_new {P : Program} {w : World} {ι κ : Type} {Kt : SetKit P w ι κ} {H : Hp} {h : Heap} {a : Addr} {L : List ι} (is : Kt.Is h a L) : ObjOk P w H h a (SO Kt a L) := by
  obtain ⟨es, ep, t, ⟨o, ho, _⟩, _⟩ := Kt.open_ is
  exact ⟨is, ⟨o, ho⟩, fun h1 h2 p k => Kt.move p k⟩

def prKit (P : Program) (w : World) : SetKit P w (Addr × Int × Str) (Int × Str) :=
  tuKit P w (fun k => [Sum.inl k.1, Sum.inr k.2]) fun a b e => by
    injection e with e1 e2
    injection e1 with e1
    injection e2 with e2 _
    injection e2 with e2
    exact Prod.ext e1 e2

/-- the signs of a text, each a text -/
def signs (x : Str) : List Str := x.cps.toList.map fun c => ⟨#[c]⟩
/-- what is walked: the signs of a text, the items of a tuple or list -/
def Feeds (K : PySem.W.Frag) (H : Hp) (v : V) (xs : List Str) : Prop := (∃ x, v = .str x ∧ xs = signs x) ∨ ∃ l, v = .ref l ∧ (SqT K H l (xs.map V.str) ∨ SqL K H l (xs.map V.str))
theorem show_txt : ∀ {xs : List Str} {us : List Value}, Vals (xs.map V.str) us → Show TxRel xs us
  | [], _, .nil => .nil
  | _ :: _, _, .cons r t => .cons r (show_txt t)

section
variable {X : Cx}
def rSetS (K : PySem.W.Frag) (P : Program) (w : World) : List V → Hp → VK → Prop := fun vs H Q => ∃ v xs, vs = [v] ∧ Feeds K H v xs ∧ xs.length < scanBound ∧
  ∀ a L, H a = none → L.Perm (once xs) → Q (.ref a) (upd H a (SO (txKit P w) a L))
theorem part_perm {L xs : List Str} (p : Part (fun k : Str => k) xs xs.length L) : L.Perm (once xs) := by
  have nd := p.once
  rw [List.map_id'] at nd
  refine perm_once nd fun k => ⟨fun z => List.mem_of_mem_take (p.from_ k z), fun z => ?_⟩
  have q := p.has k (by rw [List.take_length]; exact z)
  rw [List.map_id'] at q
  exact q

theorem cr_setS (hc : X.calm = true) : CallR X (.type "set") (rSetS X.K X.prog X.w) := by
  intro pins s σ H vs us Q I r h
  obtain ⟨v, xs, rfl, fd, lim, q⟩ := h
  have hn : H s.heap.objs.size = none := I.hok.fresh (Nat.le_refl _)
  have fin : ∀ (h' : Heap) (tk : Nat) (L : List Str), (txKit X.prog X.w).Is h' s.heap.objs.size L → Part (txKit X.prog X.w).key xs xs.length L → Sub s.heap h' →
      EP X pins σ Q (.ref s.heap.objs.size) { s with heap := h', toks := tk } := fun h' tk L is pt k =>
    ⟨.ref s.heap.objs.size, upd H s.heap.objs.size (SO (txKit X.prog X.w) s.heap.objs.size L), I.laid (t' := tk) k (Nat.le_refl _) (so_new is), rfl, q _ L hn (part_perm pt)⟩
  cases r with
  | cons r0 rt =>
    cases rt
    rcases fd with ⟨x, rfl, rfl⟩ | ⟨l, rfl, sq⟩
    · obtain ⟨t, rfl⟩ := r0
      refine set_of_str (txKit X.prog X.w) (I.ok.hd hc) (by rw [signs, List.length_map, Array.length_toList]) lim (fun i v sg => ?_) (fun _ _ => trivial) trivial fin
      obtain ⟨c, u, e, rfl⟩ := sg
      refine ⟨⟨#[c]⟩, ?_, u, rfl⟩
      rw [signs, List.getElem?_map, Array.getElem?_toList, e]
      rfl
    · cases r0
      rcases sq with sq | sq
      · obtain ⟨its, rv, tp, _⟩ := I.tuple sq
        exact set_of_tuple (txKit X.prog X.w) (I.ok.hd hc) tp (show (Show TxRel xs its.toArray.toList) by simpa using show_txt rv) lim (fun _ _ => trivial) trivial fin
      · obtain ⟨its, rv, tp, _⟩ := I.list sq
        exact set_of_list (txKit X.prog X.w) (I.ok.hd hc) tp.isList (show (Show TxRel xs its.toArray.toList) by simpa using show_txt rv) lim (fun _ _ => trivial) trivial fin

/-! sorted(set) -/
theorem vals_txt : ∀ {xs : List Str} {us : List Value}, Show TxRel xs us → Vals (xs.map V.str) us
  | _, _, .nil => .nil
  | _, _, .cons r t => .cons r (vals_txt t)
theorem kept {pins : List (Addr × Obj)} {σ : L2.St} {H : Hp} {s s' : Shared} {p : Addr} {xs : List V} {out : Array Value} {c : Nat} (I : Inv X pins σ H s) (k : Sub s.heap s'.heap) (g : s'.gens = s.gens) (o : s'.os = s.os)
    (hp : s.heap.objs.size ≤ p) (at_ : s'.heap.get? p = some (seqObj "list" out c)) (rv : Vals xs out.toList) (few : xs.length ≤ sizeLine) : Inv X pins σ (upd H p (.lst xs)) s' := by
  have hn : H p = none := I.hok.fresh hp
  have J : Inv X pins σ (upd H p (.lst xs)) { s with heap := s'.heap, gens := s'.gens, drawn := s'.drawn, toks := s'.toks } :=
    I.call (ch := []) (Un.laid k hp hn) (I.hok.laid k hp ⟨few, out.toList, c, rv, at_⟩) (by rw [g]; exact I.bare) (fun _ z => nomatch z)
  obtain ⟨h1, h2, h3, h4, h5⟩ := s'
  obtain rfl : h5 = s.os := o
  exact J

def rSortedS (P : Program) (w : World) : List V → Hp → VK → Prop := fun vs H Q => ∃ a L, vs = [.ref a] ∧ H a = some (SO (txKit P w) a L) ∧ ∀ p, H p = none → Q (.ref p) (upd H p (.lst ((L.mergeSort sLe).map V.str)))
theorem cr_sortedS (hc : X.calm = true) (hu : X.A.units + 64 < cLine) : CallR X (.builtin "sorted") (rSortedS X.prog X.w) := by
  intro pins s σ H vs us Q I r h
  obtain ⟨a, L, rfl, ha, q⟩ := h
  have is : (txKit X.prog X.w).Is s.heap a L := (I.hok a _ ha).1
  have few : L.length < scanBound := let ⟨_, T⟩ := is; T.lim
  rw [Vals.ref1 r]
  refine sorted_of (txKit X.prog X.w) (fun k : Str => PyData.str k) (I.ok.hd hc) is (fun h' _ x _ v rel => ?_) (fun _ _ => by simp [alike]) (fun l => Sortable.others fun b => ⟨fun z => (by cases z), fun xs z => (by cases z)⟩) (fun x _ => ?_)
    fun s' p out c L1 k g o hp at_ pL sh => ?_
  · obtain ⟨u, rfl⟩ := rel
    exact ⟨[], .str x u, fun b z => (by cases z)⟩
  · simp only [PyData.depth]
    omega
  · rw [dataLe_tx, sLe_ord.same pL] at sh
    have few2 : ((L.mergeSort sLe).map V.str).length ≤ sizeLine := by
      rw [List.length_map, List.length_mergeSort]
      exact fits_of_scanBound few
    exact ⟨.ref p, _, kept I k g o hp at_ (vals_txt sh) few2, rfl, q p (I.hok.fresh hp)⟩

/-! pairs of a whole number and a text -/
def rSetP (K : PySem.W.Frag) (P : Program) (w : World) : List V → Hp → VK → Prop := fun vs H Q => ∃ (l : Addr) (ks : List (Addr × Int × Str)), vs = [.ref l] ∧ SqL K H l (ks.map fun p => V.ref p.1) ∧ (∀ p ∈ ks, SqT K H p.1 [.int p.2.1, .str p.2.2]) ∧ ks.length < 64 ∧
  ∀ a L, H a = none → (∀ p ∈ L, p ∈ ks) → (L.map (·.2)).Perm (once (ks.map (·.2))) → Q (.ref a) (upd H a (SO (prKit P w) a L))
theorem show_prs : ∀ {ks : List (Addr × Int × Str)} {us : List Value}, Vals (ks.map fun p => V.ref p.1) us → Show (fun (p : Addr × Int × Str) v => v = .ref p.1) ks us
  | [], _, .nil => .nil
  | _ :: _, _, .cons r t => .cons r (show_prs t)
theorem vals_prs : ∀ {ks : List (Addr × Int × Str)} {us : List Value}, Show (fun (p : Addr × Int × Str) v => v = .ref p.1) ks us → Vals (ks.map fun p => V.ref p.1) us
  | _, _, .nil => .nil
  | _, _, .cons r t => .cons r (vals_prs t)
theorem pair_at {pins : List (Addr × Obj)} {σ : L2.St} {H : Hp} {s : Shared} {b : Addr} {k : Int × Str} (I : Inv X pins σ H s) (h : SqT X.K H b [.int k.1, .str k.2]) : Tup X.prog X.w s.heap [Sum.inl k.1, Sum.inr k.2] b := by
  obtain ⟨its, r, ⟨o, ho, hc, n, hd⟩, _⟩ := I.tuple h
  refine ⟨o, its.toArray, n, ho, hc, hd, ?_⟩
  cases r with
  | cons r1 t =>
    cases t with
    | cons r2 t2 =>
      cases t2
      obtain ⟨u1, rfl⟩ := r1
      obtain ⟨u2, rfl⟩ := r2
      exact .cons (keyIs_int k.1 u1) (.cons (keyIs_str k.2 u2) .nil)
theorem cr_setP (hc : X.calm = true) (hu : X.A.units + 64 < cLine) : CallR X (.type "set") (rSetP X.K X.prog X.w) := by
  intro pins s σ H vs us Q I r h
  obtain ⟨l, ks, rfl, sq, el, lim, q⟩ := h
  have hn : H s.heap.objs.size = none := I.hok.fresh (Nat.le_refl _)
  rw [Vals.ref1 r]
  obtain ⟨its, rv, tp, _⟩ := I.list sq
  refine set_of_list (prKit X.prog X.w) (I.ok.hd hc) tp.isList (show (Show (fun (p : Addr × Int × Str) v => v = .ref p.1) ks its.toArray.toList) by simpa using show_prs rv) lim (fun p m => pair_at I (el p m)) ?_ fun h' tk L is pt k => ?_
  · show X.A.in1.in1.in1.units < cLine
    simp only [Around.in1]
    omega
  · refine ⟨.ref s.heap.objs.size, upd H s.heap.objs.size (SO (prKit X.prog X.w) s.heap.objs.size L), I.laid (t' := tk) k (Nat.le_refl _) (so_new is), rfl, q _ L hn (fun p m => List.mem_of_mem_take (pt.from_ p m)) (perm_once pt.once fun x => ⟨fun z => ?_, fun z => ?_⟩)⟩
    · obtain ⟨p, m, rfl⟩ := List.mem_map.mp z
      exact List.mem_map.mpr ⟨p, List.mem_of_mem_take (pt.from_ p m), rfl⟩
    · obtain ⟨p, m, rfl⟩ := List.mem_map.mp z
      exact pt.has p (by rw [List.take_length]; exact m)

def rSortedP (K : PySem.W.Frag) (P : Program) (w : World) : List V → Hp → VK → Prop := fun vs H Q => ∃ a L, vs = [.ref a] ∧ H a = some (SO (prKit P w) a L) ∧ (∀ p ∈ L, SqT K H p.1 [.int p.2.1, .str p.2.2]) ∧
  ∀ p (L' : List (Addr × Int × Str)), H p = none → L'.Perm L → L'.map (·.2) = (L.map (·.2)).mergeSort pLe → Q (.ref p) (upd H p (.lst (L'.map fun q => V.ref q.1)))
theorem cr_sortedP (hc : X.calm = true) (hu : X.A.units + 64 < cLine) : CallR X (.builtin "sorted") (rSortedP X.K X.prog X.w) := by
  intro pins s σ H vs us Q I r h
  obtain ⟨a, L, rfl, ha, el, q⟩ := h
  have is : (prKit X.prog X.w).Is s.heap a L := (I.hok a _ ha).1
  have few : L.length < 64 := let ⟨_, _, _, T⟩ := is; T.lim
  rw [Vals.ref1 r]
  refine sorted_of (prKit X.prog X.w) (fun p : Addr × Int × Str => PyData.tuple [.int p.2.1, .str p.2.2]) (I.ok.hd hc) is (fun h' k x m v rel => ?_) (fun _ _ => by simp [alike, alikeAll]) (fun l => Sortable.tuples fun b => ⟨_, _, rfl⟩) (fun x _ => ?_)
    fun s' p out c L1 k g o hp at_ pL sh => ?_
  · obtain rfl : v = .ref x.1 := rel
    obtain ⟨o, its, n, e1, e2, e3, all⟩ := Tup.sub (pair_at I (el x m)) k
    refine ⟨[], .tuple e1 e2 e3 ?_, fun b z => (by cases z)⟩
    generalize its.toList = l at all
    cases all with
    | cons k1 t =>
      cases t with
      | cons k2 t2 =>
        cases t2
        rcases keyIs_shape (k := Sum.inl x.2.1) k1 with ⟨i, u, e, rfl⟩ | ⟨y, u, e, rfl⟩
        · rcases keyIs_shape (k := Sum.inr x.2.2) k2 with ⟨i', u', e', rfl⟩ | ⟨y', u', e', rfl⟩
          · cases e'
          · injection e with e
            injection e' with e'
            rw [e, e']
            exact .cons (.int _ _) (.cons (.str _ _) .nil)
        · cases e
  · simp only [PyData.depth, PyData.depthAll]
    omega
  · rw [dataLe_pr] at sh
    have few2 : ((L1.mergeSort fun p q => pLe p.2 q.2).map fun q => V.ref q.1).length ≤ sizeLine := by
      have := sizeLine_eq
      rw [List.length_map, List.length_mergeSort, pL.length_eq]
      omega
    refine ⟨.ref p, _, kept I k g o hp at_ (vals_prs sh) few2, rfl, q p _ (I.hok.fresh hp) ((List.mergeSort_perm _ _).trans pL) ?_⟩
    refine pLe_ord.one (((List.mergeSort_perm _ _).trans pL).map _) ?_
    rw [List.pairwise_map]
    exact List.pairwise_mergeSort (le := fun p q : Addr × Int × Str => pLe p.2 q.2) (fun a b c => pLe_ord.tr _ _ _) (fun a b => pLe_ord.tot _ _) L1
end
end XSt

/-! sorted(xs, key=len), and the order of texts: by length, then as texts -/
namespace XSt
open PySem PySem.Spec PyProof.Rows L2 PySem.W

def lLe (a b : Str) : Bool := decide ((a.length : Int) ≤ (b.length : Int))
theorem dataLe_len : dataLe false (fun k : Str => PyData.int (k.length : Int)) = lLe := by
  rw [dataLe_int]
  rfl

section
variable {X : Cx} {p p2 pos kpos : Pos} {e : Expr} {te : TE}
def tSortLen (K : PySem.W.Frag) (te : TE) : TE := fun σ H Q => te σ H fun x H1 => ∃ (l : Addr) (xs : List Str), x = .ref l ∧ SqL K H1 l (xs.map V.str) ∧ (∀ k ∈ xs, k.length ≤ sizeLine) ∧ ∀ q, H1 q = none → Q (.ref q) (upd H1 q (.lst ((xs.mergeSort lLe).map V.str)))

theorem each_txt : ∀ {xs : List Str} {us : List Value}, Vals (xs.map V.str) us → EachIs (fun v (k : Str) => TxRel k v) us xs
  | [], _, .nil => .nil
  | _ :: _, _, .cons r t => .cons r (each_txt t)
theorem vals_each : ∀ {xs : List Str} {us : List Value}, EachIs (fun v (k : Str) => TxRel k v) us xs → Vals (xs.map V.str) us
  | _, _, .nil => .nil
  | _, _, .cons r t => .cons r (vals_each t)

theorem call_sortLen (hu : X.A.units + 64 < cLine) {pins : List (Addr × Obj)} {s : Shared} {σ : L2.St} {H : Hp} {l : Addr} {xs : List Str} {Q : VK} (I : Inv X pins σ H s) (sq : SqL X.K H l (xs.map V.str)) (few : ∀ k ∈ xs, k.length ≤ sizeLine)
    (h : ∀ q, H q = none → Q (.ref q) (upd H q (.lst ((xs.mergeSort lLe).map V.str)))) : wpAny (model X.prog X.w) X.A (call (.builtin "sorted") [.ref l] [(Str.ofString "key", .builtin "len")]) (EP X pins σ Q) X.xe s := by
  obtain ⟨its, rv, pl, hz⟩ := I.list sq
  have lz : xs.length ≤ sizeLine := by simpa using hz
  refine sorted_key_data (k := fun k : Str => PyData.int (k.length : Int)) (b := false) pl.isList (each_txt rv) (AllAlike.of fun _ _ => by simp [alike]) (Sortable.others fun b => ⟨fun z => (by cases z), fun xs z => (by cases z)⟩) lz (fun x _ => ?_)
    (ksk_s1 _ _) (fun _ => ksk_l1 _ _) (fun a => ksk_t4 "len" a) (fun v k rel m h' tk k1 => ?_) fun out c h' tk k1 z0 at_ lo eo => ?_
  · simp only [PyData.depth]
    omega
  · obtain ⟨u, rfl⟩ := rel
    have z := few k m
    have hl := line63
    have hs : sizeLine = 16777216 := sizeLine_eq
    refine len_str (by omega) ?_
    exact ⟨h', _, rfl, fun _ _ e => e, .int _ _⟩
  · rw [dataLe_len] at eo
    have rv2 : Vals ((xs.mergeSort lLe).map V.str) out := vals_each eo
    have few2 : ((xs.mergeSort lLe).map V.str).length ≤ sizeLine := by
      rw [List.length_map, List.length_mergeSort]
      exact lz
    exact ⟨.ref (s.heap.objs.size + 1), upd H (s.heap.objs.size + 1) (.lst ((xs.mergeSort lLe).map V.str)), I.laid (t' := tk) k1 (Nat.le_succ _) ⟨few2, out, c, rv2, at_⟩, rfl, h _ (I.hok.fresh (Nat.le_succ _))⟩

theorem pe_sortLen (hu : X.A.units + 64 < cLine) (hg : Gl X (Str.ofString "sorted")) (hm : X.mg (Str.ofString "sorted") = none) (hg2 : Gl X (Str.ofString "len")) (hm2 : X.mg (Str.ofString "len") = none) (he : PE X e te)
    (hs : backTo pos (starEach [e] X.env) = (false, eval e X.env) :: backTo pos (starEach [] X.env) := by rfl) (hpl : (backTo pos (starEach [e] X.env)).any (·.1) = false := by rfl) :
    PE X (.Call (.Name (Str.ofString "sorted") p) [e] [⟨some (Str.ofString "key"), .Name (Str.ofString "len") p2, kpos⟩] pos) (tSortLen X.K te) := by
  refine ⟨fun pins s σ H Q I h => ?_⟩
  refine wpAny_Call_Name_kw (ld_blt I hg hm (u := .builtin "sorted") (by kernel_rfl) ?_)
  refine PyProof.Rows.callWith_kw (e := e) (rest := []) (id := "sorted") ?_ hs hpl rfl rfl
  rw [hs]
  refine Calls.spliced_cons (thn (he.run pins s σ H _ I h) fun u s1 ⟨x, H1, I1, r1, l, xs, ex, sq, few, q⟩ => Calls.spliced_nil ?_)
  subst ex
  obtain rfl : u = Value.ref l := r1
  show wpAny _ _ (evalAll ((do let v ← eval (.Name (Str.ofString "len") p2) X.env; standAt pos; pure v) :: [])) _ _ s1
  refine wpAny_evalAll_cons (wpAny_bind (ld_blt I1 hg2 hm2 (u := .builtin "len") (by kernel_rfl) (wpAny_bind (wpAny_standAt (wpAny_pure (wpAny_evalAll_nil ?_))))))
  exact call_sortLen hu I1 sq few q
end
end XSt

/-! texts by length, then as texts: two ways -/
namespace XSt
open PySem PySem.Spec PyProof.Rows L2 PySem.W

def lenOf (k : Str) : Int × Str := ((k.length : Int), k)
def tLe (a b : Str) : Bool := pLe (lenOf a) (lenOf b)
theorem tLe_ord : Ordly tLe where
  tr := fun a b c => pLe_ord.tr _ _ _
  tot := fun a b => pLe_ord.tot _ _
  anti := fun a b x y => congrArg Prod.snd (pLe_ord.anti _ _ x y)
/-- the different ones, shorter ones first -/
def ordT (l : List Str) : List Str := (once l).mergeSort tLe
theorem ordT_mem {l : List Str} {x : Str} : x ∈ ordT l ↔ x ∈ l := by
  unfold ordT
  rw [(List.mergeSort_perm _ _).mem_iff]
  exact mem_once
theorem ordT_same {l m : List Str} (e : ∀ x, x ∈ m ↔ x ∈ l) : ordT m = ordT l := tLe_ord.same (once_same e)

theorem lLe_total : TotalLe lLe where
  trans := fun a b c => by
    unfold lLe
    simp only [decide_eq_true_eq]
    omega
  total := fun a b => by
    unfold lLe
    simp only [decide_eq_true_eq]
    omega

/-- as texts first, then by length: the same -/
theorem twice_sorted (l : List Str) : ((once l).mergeSort sLe).mergeSort lLe = ordT l := by
  symm
  have s1 : (ordT l).Pairwise (fun a b => tLe a b = true) := List.pairwise_mergeSort tLe_ord.tr tLe_ord.tot _
  have s2 : ((once l).mergeSort sLe).Pairwise (fun a b => sLe a b = true) := List.pairwise_mergeSort sLe_ord.tr sLe_ord.tot _
  have pm : (ordT l).Perm ((once l).mergeSort sLe) := (List.mergeSort_perm _ _).trans (List.mergeSort_perm _ _).symm
  refine sort_unique lLe_total (s1.imp fun {a b} q => ?_) fun c => ?_
  · have q' := pLe_iff.mp (show pLe (lenOf a) (lenOf b) = true from q)
    unfold lLe
    rw [decide_eq_true_eq]
    simp only [lenOf] at q'
    rcases q' with q' | ⟨q', _⟩ <;> omega
  · refine List.Perm.eq_of_pairwise (le := fun a b => sLe a b = true) (fun a b _ _ => sLe_ord.anti a b) ?_ (s2.filter _) (pm.filter _)
    refine (s1.filter _).imp_of_mem fun {a b} ma mb q => ?_
    have ka := (List.mem_filter.mp ma).2
    have kb := (List.mem_filter.mp mb).2
    unfold sameRank at ka kb
    simp only [lLe, Bool.and_eq_true, decide_eq_true_eq] at ka kb
    have q' := pLe_iff.mp (show pLe (lenOf a) (lenOf b) = true from q)
    simp only [lenOf] at q'
    rcases q' with q' | ⟨_, q'⟩
    · omega
    · exact q'

/-- by pairs -/
theorem pairs_sorted {l : List Str} {ps : List (Int × Str)} (h : ps.Perm (once (l.map lenOf))) : (ps.mergeSort pLe).map (·.2) = ordT l := by
  have back : ∀ p ∈ ps, p = lenOf p.2 := fun p m => by
    obtain ⟨k, _, rfl⟩ := List.mem_map.mp (mem_once.mp (h.mem_iff.mp m))
    rfl
  have nd : (ps.map (·.2)).Nodup := by
    have n1 : ps.Nodup := h.nodup_iff.mpr (nodup_once _)
    refine List.pairwise_map.mpr (n1.imp_of_mem fun {p q} mp mq ne e => ne ?_)
    rw [back p mp, back q mq, e]
  have mem : ∀ x, x ∈ ps.map (·.2) ↔ x ∈ l := fun x => by
    rw [List.mem_map]
    constructor
    · rintro ⟨p, m, rfl⟩
      obtain ⟨k, mk, rfl⟩ := List.mem_map.mp (mem_once.mp (h.mem_iff.mp m))
      exact mk
    · intro m
      exact ⟨lenOf x, h.mem_iff.mpr (mem_once.mpr (List.mem_map.mpr ⟨x, m, rfl⟩)), rfl⟩
  refine tLe_ord.one (((List.mergeSort_perm _ _).map _).trans (perm_once nd mem)) ?_
  rw [List.pairwise_map]
  refine List.Pairwise.imp_of_mem (fun {p q} mp mq z => ?_) (List.pairwise_mergeSort pLe_ord.tr pLe_ord.tot ps)
  rw [back p ((List.mergeSort_perm _ _).mem_iff.mp mp), back q ((List.mergeSort_perm _ _).mem_iff.mp mq)] at z
  exact z
end XSt

/-! values that are asked; texts as their letters -/
namespace NX
open PySem PySem.Spec PyProof.Rows L2 XSt
open PySem.W (Frag)

/-! isinstance of any value -/
/-- an object of a kind that is no number, no truth value, no text; tup: whether it is a tuple -/
def Thing (K : Frag) (H : Hp) (a : Addr) (tup : Bool) : Prop := ∃ t, TyX K H (.ref a) t ∧ PySem.W.kitOne K t (.type "int") = some false ∧ PySem.W.kitOne K t (.type "bool") = some false ∧ PySem.W.kitOne K t (.type "str") = some false ∧ PySem.W.kitOne K t (.type "tuple") = some tup
def Asked (K : Frag) (H : Hp) : V → Prop
  | .int _ => True
  | .bl _ => True
  | .non => True
  | .str x => x.length ≤ 8000 ∧ PyData.strOk x = true
  | .ref a => ∃ b, Thing K H a b
  | _ => False
def isIntV : V → Bool
  | .int _ => true
  | .bl _ => true
  | _ => false
def isBoolV : V → Bool
  | .bl _ => true
  | _ => false
def isStrV : V → Bool
  | .str _ => true
  | _ => false
section
variable {K : Frag} {H : Hp} {v : V} {Q : VK}
theorem isi_int (h : Asked K H v) : ∃ t, TyX K H v t ∧ PySem.W.kitOne K t (.type "int") = some (isIntV v) := by
  cases v with
  | int i => exact ⟨_, .base (.int i), rfl⟩
  | bl i => exact ⟨_, .base (.bl i), rfl⟩
  | non => exact ⟨_, .base .non, rfl⟩
  | str i => exact ⟨_, .base (.str i), rfl⟩
  | ref a =>
    obtain ⟨b, t, h1, h2, h3, h4, h5⟩ := h
    exact ⟨_, h1, h2⟩
  | _ => exact h.elim
theorem isi_bool (h : Asked K H v) : ∃ t, TyX K H v t ∧ PySem.W.kitOne K t (.type "bool") = some (isBoolV v) := by
  cases v with
  | int i => exact ⟨_, .base (.int i), rfl⟩
  | bl i => exact ⟨_, .base (.bl i), rfl⟩
  | non => exact ⟨_, .base .non, rfl⟩
  | str i => exact ⟨_, .base (.str i), rfl⟩
  | ref a =>
    obtain ⟨b, t, h1, h2, h3, h4, h5⟩ := h
    exact ⟨_, h1, h3⟩
  | _ => exact h.elim
theorem isi_str (h : Asked K H v) : ∃ t, TyX K H v t ∧ PySem.W.kitOne K t (.type "str") = some (isStrV v) := by
  cases v with
  | int i => exact ⟨_, .base (.int i), rfl⟩
  | bl i => exact ⟨_, .base (.bl i), rfl⟩
  | non => exact ⟨_, .base .non, rfl⟩
  | str i => exact ⟨_, .base (.str i), rfl⟩
  | ref a =>
    obtain ⟨b, t, h1, h2, h3, h4, h5⟩ := h
    exact ⟨_, h1, h4⟩
  | _ => exact h.elim
end

/-! what the judges tell -/
def longV : V → Bool
  | .int i => decide ((if i < 0 then -i else i) < (10 ^ 50) ^ 4)
  | _ => false
/-- one to three, ascending, a to z: by the whole and the ends -/
def lettersV : V → Bool
  | .str x => decide (1 ≤ x.length ∧ x.length ≤ 3) && (decide (x = Txt.join ⟨#[]⟩ ((once (XSt.signs x)).mergeSort sLe)) && (decide (97 ≤ x.cps.toList.headD 0) && decide (x.cps.toList.getLastD 0 ≤ 122)))
  | _ => false
def spelledV (s : Str) : V → Bool
  | .str x => decide (Txt.stripChars x s = ⟨#[]⟩)
  | _ => false
end NX

/-! the draws -/
namespace B3
open PySem PySem.Spec PyProof.Rows L2
def top (i : Nat) : Stmt := PySem.Challenge.pw_twowaycuts_k03_books_told.main.body.getD i (.Pass ⟨0, 0, 0, 0⟩)
abbrev sJug : Stmt := top 28
abbrev sBit : Stmt := top 29
abbrev sPick : Stmt := top 30
abbrev sDealt : Stmt := top 31
abbrev FnP (K : PySem.W.Frag) (x : Str) (st : Stmt) (f : Addr) (fd : FuncData) : Prop := FunD K x x (defArgs st) (defBody st) (defScope st) [] [] f fd

/-! ### a power with a great base -/
def CPowX (i j : Int) : Prop := 0 ≤ j ∧ (Builtin.Int.intBits i : Int) * j ≤ 2 ^ 27
theorem op_powX {X : Cx} : OpR X (binaryOp .Pow) (rI CPowX fun i j => .int (i ^ j.toNat)) := opI fun _ _ _ _ _ _ _ hc q => pow_int hc.1 hc.2 q

/-! ### the jug: a list of three ints, the first at least 0 -/
def JugAt (H : Hp) (j : Addr) : Prop := ∃ a b c : Int, H j = some (.lst [.int a, .int b, .int c]) ∧ 0 ≤ a
/-- all stands but j, which is a jug still -/
def Kj (j : Addr) (H H' : Hp) : Prop := (∀ b o, b ≠ j → H b = some o → H' b = some o) ∧ JugAt H' j
theorem Kj.refl {j : Addr} {H : Hp} (h : JugAt H j) : Kj j H H := ⟨fun _ _ _ e => e, h⟩
theorem Kj.trans {j : Addr} {H H1 H2 : Hp} (a : Kj j H H1) (b : Kj j H1 H2) : Kj j H H2 := ⟨fun c o n e => b.1 c o n (a.1 c o n e), b.2⟩
theorem Kj.put {j : Addr} {H : Hp} {a b c : Int} (h : 0 ≤ a) : Kj j H (upd H j (.lst [.int a, .int b, .int c])) := ⟨fun d o n e => by rw [upd_ne n]; exact e, ⟨a, b, c, upd_same, h⟩⟩
theorem Kj.new {j p : Addr} {H H' : Hp} {o : HO} (k : Kj j H H') (hp : H p = none) (hj : p ≠ j) : Kj j H (upd H' p o) := ⟨fun c u n e => by
  rw [upd_ne (ne_of_none e hp)]; exact k.1 c u n e, by
  obtain ⟨a, b, c, e, h⟩ := k.2
  exact ⟨a, b, c, by rw [upd_ne (Ne.symm hj)]; exact e, h⟩⟩
theorem Kj.rd {j a : Addr} {H H' : Hp} {u : HO} (k : Kj j H H') (n : a ≠ j) (h : Rd H a u) : Rd H' a u := by
  rcases h with h | ⟨o, h⟩
  · exact .inl (k.1 a _ n h)
  · exact .inr ⟨o, k.1 a _ n h⟩
theorem Kj.sqL {K : PySem.W.Frag} {j a : Addr} {H H' : Hp} {xs : List V} (k : Kj j H H') (n : a ≠ j) (h : SqL K H a xs) : SqL K H' a xs := by
  rcases h with h | h
  · exact .inl (k.rd n h)
  · exact .inr h
theorem Kj.sqT {K : PySem.W.Frag} {j a : Addr} {H H' : Hp} {xs : List V} (k : Kj j H H') (n : a ≠ j) (h : SqT K H a xs) : SqT K H' a xs := by
  rcases h with h | h
  · exact .inl (k.rd n h)
  · exact .inr h

theorem erase_perm {α : Type} : ∀ {ws : List α} {i : Nat} (h : i < ws.length), (ws[i] :: ws.eraseIdx i).Perm ws
  | [], _, h => by cases h
  | w :: ws, 0, _ => List.Perm.refl _
  | w :: ws, i + 1, h => by
    have ih := erase_perm (ws := ws) (i := i) (by simpa using h)
    exact (List.Perm.swap _ _ _).trans (ih.cons w)
/-! ### promises -/
def spJug (K : PySem.W.Frag) : Sp := fun vs H Q _ => ∃ (l : Addr) (ns : List Int) (i : Nat), vs = [.ref l, .int (i : Int)] ∧ SqL K H l (ns.map V.int) ∧
  ∀ j H', H j = none → (∀ b o, H b = some o → H' b = some o) → JugAt H' j → Q (.ref j) H'
def spBit : Sp := fun vs H Q _ => ∃ (j : Addr) (m : Int), vs = [.ref j, .int m] ∧ JugAt H j ∧ 0 < m ∧ m < 2 ^ 200 ∧
  ∀ r H', 0 ≤ r → r < m → Kj j H H' → Q (.int r) H'
def spPick (K : PySem.W.Frag) : Sp := fun vs H Q _ => ∃ (j p : Addr) (xs : List V), vs = [.ref j, .ref p] ∧ JugAt H j ∧ SqL K H p xs ∧ p ≠ j ∧ xs ≠ [] ∧ xs.length ≤ 1000 ∧
  ∀ x H', x ∈ xs → Kj j H H' → Q x H'
def spDealt (K : PySem.W.Frag) : Sp := fun vs H Q _ => ∃ (j p : Addr) (xs : List V), vs = [.ref j, .ref p] ∧ JugAt H j ∧ (SqL K H p xs ∨ SqT K H p xs) ∧ p ≠ j ∧ xs.length ≤ 1000 ∧
  ∀ q ys H', H q = none → H' q = some (.lst ys) → ys.Perm xs → Kj j H H' → Q (.ref q) H'

section
variable {P : Program} {w : World} {K : PySem.W.Frag} {mg : Str → Option Value} {base : Heap} {f fB fJ : Addr} {fd fdB : FuncData}
theorem scBit : FnScope ["jug", "much", "found", "first", "later"] ["jug", "much"] (defScope sBit) := ⟨rfl, rfl, rfl, by decide +kernel, rfl, by decide +kernel, by decide +kernel⟩
theorem scJug : FnScope ["script", "at", "cell", "great", "blend"] ["script", "at"] (defScope sJug) := ⟨rfl, rfl, rfl, by decide +kernel, rfl, by decide +kernel, by decide +kernel⟩
theorem scPick : FnScope ["jug", "items"] ["jug", "items"] (defScope sPick) := ⟨rfl, rfl, rfl, by decide +kernel, rfl, by decide +kernel, by decide +kernel⟩

theorem ok_bit (F : FnP K "_law_bit" sBit f fd) (mI : mg "int" = none) : FnOk P w K mg base CX0 1 f fd ["jug", "much"] spBit := by
  refine F.ok scBit (fun vs H Q E h => ?_) (fun cdv A outer s H vs Q E hr h => ?_)
  · obtain ⟨j, m, rfl, _⟩ := h
    rfl
  · obtain ⟨j, m, rfl, ⟨a, b, c, ej, ha⟩, hm, hm2, q⟩ := h
    refine ⟨_, PSs.nox (pss_cons (ps_if (pt_cmpR op_gt (pe_ix ix_list (pv 0) pe_int (fun _ _ => rfl)) pe_int (nomark _))
        (pss_cons (ps_set (i := 2) scBit.nd rfl (.inl rfl) (pe_op op_mod (pe_callTy call_int1 (by rfl) mI (by decide +kernel) (pa_cons (pe_ix ix_list (pv 0) pe_int (fun _ _ => rfl)) pa_nil)) (pv 1)))
          (pss_cons (ps_asg (pe_op op_fdivW (pe_ix ix_list (pv 0) pe_int (fun _ _ => rfl)) (pv 1)) (pg_sub (pv 0) pe_int set_list))
          (pss_one (ps_ret (pv 2))))) pss_nil)
      (pss_cons (ps_asg (pe_op op_add (pe_ix ix_list (pv 0) pe_int (fun _ _ => rfl)) pe_int) (pg_sub (pv 0) pe_int set_list))
      (pss_cons (ps_set (i := 3) scBit.nd rfl (.inl rfl) (pe_op op_mod (pe_callTy call_int1 (by rfl) mI (by decide +kernel) (pa_cons (pe_op op_add (pe_ix ix_list (pv 0) pe_int (fun _ _ => rfl)) (pe_op op_mul pe_int (pe_ix ix_list (pv 0) pe_int (fun _ _ => rfl)))) pa_nil)) pe_int))
      (pss_cons (ps_set (i := 4) scBit.nd rfl (.inl rfl) (pe_op op_add (pe_op op_mul (pe_op op_mod (pe_callTy call_int1 (by rfl) mI (by decide +kernel) (pa_cons (pe_op op_mul (pv 3) (pv 3)) pa_nil)) pe_int) (pv 3)) (pe_op op_mul pe_int (pe_ix ix_list (pv 0) pe_int (fun _ _ => rfl)))))
      (pss_one (ps_ret (pe_op op_mod (pe_callTy call_int1 (by rfl) mI (by decide +kernel) (pa_cons (pe_op op_fdiv (pe_op op_mod (pe_callTy call_int1 (by rfl) mI (by decide +kernel) (pa_cons (pv 4) pa_nil)) pe_int) pe_int) pa_nil)) (pv 1)))))))), ?_⟩
    refine ⟨_, rfl, _, _, _, _, rfl, rfl, SqL.of ej, atI_nat (j := 0) rfl, _, _, rfl, rfl, _, rfl, ite2 (fun e => ?_) (fun e => ?_)⟩
    · refine ⟨_, rfl, _, _, _, _, rfl, rfl, SqL.of ej, atI_nat (j := 0) rfl, .inl ⟨_, rfl, _, rfl, _, _, rfl, rfl, hm, ?_⟩⟩
      refine ⟨_, rfl, _, _, _, _, rfl, rfl, SqL.of ej, atI_nat (j := 0) rfl, _, rfl, _, _, rfl, rfl, wide_div hm (b := 200) (by omega) (by decide) (by decide), ?_⟩
      refine ⟨_, rfl, _, _, _, 0, rfl, rfl, ej, rfl, ?_⟩
      refine ⟨_, rfl, ?_⟩
      exact q _ _ (Int.emod_nonneg _ (by omega)) (Int.emod_lt_of_pos _ hm) (Kj.put (Int.ediv_nonneg ha (by omega)))
    · refine ⟨_, rfl, _, _, _, _, rfl, rfl, SqL.of ej, atI_nat (j := 2) rfl, _, _, rfl, rfl, ?_⟩
      refine ⟨_, rfl, _, _, _, 2, rfl, rfl, ej, rfl, ?_⟩
      have ej2 : (upd H j (.lst [V.int a, V.int b, V.int (c + 1)])) j = some (.lst [V.int a, V.int b, V.int (c + 1)]) := upd_same
      refine ⟨_, rfl, _, _, _, _, rfl, rfl, SqL.of ej2, atI_nat (j := 1) rfl, _, rfl, _, _, _, _, rfl, rfl, SqL.of ej2, atI_nat (j := 2) rfl, _, _, rfl, rfl, .inl (by decide), _, _, rfl, rfl, .inl ⟨_, rfl, _, _, rfl, rfl, (by show (0:Int) < _; decide), ?_⟩⟩
      have hf0 := Int.emod_nonneg (b + 1000507 * (c + 1)) (show (2305843009213693951 : Int) ≠ 0 by decide)
      have hf1 := Int.emod_lt_of_pos (b + 1000507 * (c + 1)) (show (0 : Int) < 2305843009213693951 by decide)
      generalize (b + 1000507 * (c + 1)) % 2305843009213693951 = fi at hf0 hf1
      refine ⟨_, rfl, _, rfl, _, _, rfl, rfl, .inl ⟨by omega, by omega⟩, .inl ⟨_, rfl, _, _, rfl, rfl, (by show (0:Int) < _; decide), ?_⟩⟩
      refine ⟨_, rfl, _, _, rfl, rfl, .inr ⟨by omega, by omega⟩, _, rfl, _, _, _, _, rfl, rfl, SqL.of ej2, atI_nat (j := 2) rfl, _, _, rfl, rfl, .inl (by decide), _, _, rfl, rfl, ?_⟩
      refine ⟨_, rfl, .inl ⟨_, rfl, _, _, rfl, rfl, (by show (0:Int) < _; decide), _, _, rfl, rfl, ⟨by decide, by decide⟩, .inl ⟨_, rfl, _, rfl, _, _, rfl, rfl, hm, ?_⟩⟩⟩
      exact q _ _ (Int.emod_nonneg _ (by omega)) (Int.emod_lt_of_pos _ hm) (Kj.put ha)

theorem ok_jug (F : FnP K "_law_jug" sJug f fd) (mI : mg "int" = none) (mL : mg "len" = none) (mA : mg "abs" = none) (mM : mg "max" = none) : FnOk P w K mg base CX0 1 f fd ["script", "at"] (spJug K) := by
  refine F.ok scJug (fun vs H Q E h => ?_) (fun cdv A outer s H vs Q E hr h => ?_)
  · obtain ⟨l, ns, i, rfl, _⟩ := h
    rfl
  · obtain ⟨l, ns, i, rfl, hS, q⟩ := h
    refine ⟨_, PSs.nox (pss_cons (ps_set (i := 2) scJug.nd rfl (.inl rfl) (pe_ifExp (pt_cmpR op_lt (pv 1) (pe_callB call_len_seq (by rfl) mL PySem.boot_len (pa_cons (pv 0) pa_nil)) (nomark _))
          (pe_ix ix_list (pv 0) (pv 1) (fun _ _ => rfl)) (pe_op op_add (pe_op op_mul pe_int (pv 1)) pe_int)))
      (pss_cons (ps_set (i := 3) scJug.nd rfl (.inl rfl) (pe_op op_mod (pe_callTy call_int1 (by rfl) mI (by decide +kernel) (pa_cons (pe_callB call_abs (by rfl) mA (by decide +kernel) (pa_cons (pv 2) pa_nil)) pa_nil)) (pe_op op_powX (pe_op op_powX pe_int pe_int) pe_int)))
      (pss_cons (ps_set (i := 4) scJug.nd rfl (.inl rfl) (pe_op op_add (pe_op op_add (pe_op op_add (pe_op op_mul (pe_op op_mod (pe_callTy call_int1 (by rfl) mI (by decide +kernel) (pa_cons (pv 3) pa_nil)) pe_int) pe_int) (pe_op op_mul pe_int (pv 1))) (pe_op op_mul pe_int (pe_callTy call_int1 (by rfl) mI (by decide +kernel) (pa_cons (pe_cmpR op_lt (pv 2) pe_int (nomark _)) pa_nil)))) pe_int))
      (pss_one (ps_ret (pe_lst (pa_cons (pe_callB (call_max2 rfl) (by rfl) mM (by decide +kernel) (pa_cons pe_int (pa_cons (pe_op op_sub (pv 3) (pe_op op_powX pe_int pe_int)) pa_nil))) (pa_cons (pe_op op_mod (pe_callTy call_int1 (by rfl) mI (by decide +kernel) (pa_cons (pv 4) pa_nil)) pe_int) (pa_cons pe_int pa_nil))))))))), ?_⟩
    refine ⟨_, rfl, _, rfl, _, _, rfl, .inl hS, _, _, rfl, rfl, _, rfl, ite2 (fun e => ?a) (fun e => ?b)⟩
    case' a =>
      have hi : i < ns.length := by
        have z := of_decide_eq_true e
        rw [List.length_map] at z
        omega
      refine ⟨_, rfl, _, rfl, _, _, _, _, rfl, rfl, hS, atI_nat (v := .int (ns[i]'hi)) (by rw [List.getElem?_map, List.getElem?_eq_getElem hi]; rfl), ?_⟩
      generalize ns[i]'hi = cell
    case' b =>
      refine ⟨_, rfl, _, _, rfl, rfl, .inl (by decide), _, _, rfl, rfl, ?_⟩
      generalize 71 * (i : Int) + 41 = cell
    all_goals
      refine ⟨_, rfl, _, rfl, .inl ⟨_, rfl, _, _, rfl, rfl, ⟨by decide, by decide +kernel⟩, _, _, rfl, rfl, ⟨by decide, by decide +kernel⟩, _, _, rfl, rfl, (by show (0:Int) < _; decide +kernel), ?_⟩⟩
      have hb : (0 : Int) < (10 ^ (61 : Int).toNat) ^ (11 : Int).toNat := by decide +kernel
      have hg0 := Int.emod_nonneg (if cell < 0 then -cell else cell) (show ((10 ^ (61 : Int).toNat) ^ (11 : Int).toNat : Int) ≠ 0 by omega)
      generalize (if cell < 0 then -cell else cell) % ((10 ^ (61 : Int).toNat) ^ (11 : Int).toNat : Int) = great at hg0
      refine ⟨_, rfl, .inl ⟨_, rfl, _, _, rfl, rfl, (by show (0:Int) < _; decide), _, _, rfl, rfl, .inr (by decide), _, rfl, _, _, rfl, rfl, .inl (by decide), _, _, rfl, rfl, _, rfl, _, _, rfl, rfl, .inr ⟨_, rfl, _, _, rfl, rfl, .inl (by decide), _, _, rfl, rfl, _, _, rfl, rfl, ?_⟩⟩⟩
      refine ⟨_, rfl, _, _, rfl, rfl, ⟨by decide, by decide +kernel⟩, _, _, rfl, rfl, _, _, rfl, _, rfl, .inl ⟨_, rfl, _, _, rfl, rfl, (by show (0:Int) < _; decide), (by show 3 ≤ sizeLine; decide), fun p hp => ?_⟩⟩
      refine q p _ hp (fun b o e => by rw [upd_ne (ne_of_none e hp)]; exact e) ⟨_, _, _, upd_same, ?_⟩
      split <;> omega

theorem ok_pick (F : FnP K "_law_pick" sPick f fd) (FB : FnOk P w K mg base CX0 1 fB fdB ["jug", "much"] spBit) (gB : mg "_law_bit" = some (.ref fB)) (kB : PySem.W.keepIn K (.ref fB) = true) (bB : Binds K fdB ["jug", "much"] [])
    (mL : mg "len" = none) : FnOk P w K mg base CX0 2 f fd ["jug", "items"] (spPick K) := by
  refine F.ok scPick (fun vs H Q E h => ?_) (fun cdv A outer s H vs Q E hr h => ?_)
  · obtain ⟨j, p, xs, rfl, _⟩ := h
    rfl
  · obtain ⟨j, p, xs, rfl, hj, hS, hpj, hne, hlen, q⟩ := h
    refine ⟨_, PSs.nox (pss_one (ps_ret (pe_ix ix_list (pv 1) (pe_call FB hr rfl gB kB bB .nil pass0 (pa_cons (pv 0) (pa_cons (pe_callB call_len_seq (by rfl) mL PySem.boot_len (pa_cons (pv 1) pa_nil)) pa_nil))) (fun _ _ => rfl)))), ?_⟩
    have h0 : 0 < xs.length := List.length_pos_iff.mpr hne
    refine ⟨_, rfl, _, rfl, _, rfl, _, _, rfl, .inl hS, j, _, rfl, hj, by omega, by omega, fun r H' hr0 hr1 hk => ?_⟩
    have hi : r.toNat < xs.length := by omega
    have er : r = ((r.toNat : Nat) : Int) := by omega
    rw [er]
    refine ⟨_, _, _, _, rfl, rfl, hk.sqL hpj hS, atI_nat (List.getElem?_eq_getElem hi), ?_⟩
    exact q _ _ (List.getElem_mem hi) hk

def rLenL (K : PySem.W.Frag) : List V → Hp → VK → Prop := fun xs H Q => ∃ p ys, xs = [.ref p] ∧ (SqL K H p ys ∨ SqT K H p ys) ∧ Q (.int ys.length) H
theorem call_lenL {X : Cx} : CallR X (.builtin "len") (rLenL X.K) := call_len_seq
theorem scDealt : FnScope ["jug", "items", "waits", "turn"] ["jug", "items"] (defScope sDealt) := ⟨rfl, rfl, rfl, by decide +kernel, rfl, by decide +kernel, by decide +kernel⟩
theorem ok_dealt (F : FnP K "_law_dealt" sDealt f fd) (FB : FnOk P w K mg base CX0 1 fB fdB ["jug", "much"] spBit) (gB : mg "_law_bit" = some (.ref fB)) (kB : PySem.W.keepIn K (.ref fB) = true) (bB : Binds K fdB ["jug", "much"] [])
    (mL : mg "len" = none) (mR : mg "range" = none) (mT : mg "list" = none) : FnOk P w K mg base CX0 2 f fd ["jug", "items"] (spDealt K) := by
  refine F.ok scDealt (fun vs H Q E h => ?_) (fun cdv A outer s H vs Q E hr h => ?_)
  · obtain ⟨j, p, xs, rfl, _⟩ := h
    rfl
  · obtain ⟨j, p, xs, rfl, hj, hS, hpj, hlen, q⟩ := h
    refine ⟨_, PSs.nox (pss_cons (ps_set (i := 2) scDealt.nd rfl (.inr rfl) (pe_callTy call_list_of (by rfl) mT (by decide +kernel) (pa_cons (pv 1) pa_nil)))
      (pss_one (ps_ret (pe_lc (own := [("turn", 3)]) (g := gName 3) (tt := tYes) (te := tBM K "list" rPopAt (tVar 2) (tCons (tCall spBit [] E0 (tCons (tVar 0) (tCons (tCB (rLenL K) (tCons (tVar 2) tNil)) tNil))) tNil)) rfl scDealt.nd (pi_range1 (by rfl) mR (pa_cons (pe_callB call_len_seq (by rfl) mL PySem.boot_len (pa_cons (pv 1) pa_nil)) pa_nil))
        (blkOk_by (N := ["jug", "items", "waits", "turn"]) (sc := defScope sDealt) (by decide +kernel)) (fun _ _ _ _ _ => pg_name (i := 3) scDealt.nd rfl (Or.inl rfl)) (fun _ _ _ _ _ => pts_nil)
        (fun _ _ _ _ _ => by
          refine pe_bm (T := "list") (id := "list.pop") (r := rPopAt) PySem.F.plainAttrs_list PySem.F.slot_list_pop PySem.F.type_list_pop ?_ ?_ ?_
          · exact mt_popAt
          · exact pv 2
          · exact (pa_cons (pe_call FB hr (by rfl) gB kB bB .nil pass0 (pa_cons (pv 0) (pa_cons (pe_callB call_lenL (by rfl) mL PySem.boot_len (pa_cons (pv 2) pa_nil)) pa_nil))) pa_nil)))))), ?_⟩
    refine ⟨_, rfl, _, _, rfl, hS, fun wt hw => ?_⟩
    have hwj : wt ≠ j := fun z => by
      obtain ⟨a, b, c, e, _⟩ := hj
      rw [z, e] at hw
      cases hw
    refine ⟨_, rfl, _, _, rfl, hS.imp (Kj.sqL ((Kj.refl hj).new hw hwj) hpj) (Kj.sqT ((Kj.refl hj).new hw hwj) hpj), _, rfl, by omega, by omega, fun D hD => ?_⟩
    have ewt : (upd H wt (.lst xs)) wt = some (.lst xs) := upd_same
    have nDw : wt ≠ D := ne_of_none ewt hD
    have hkw : Kj j H (upd H wt (.lst xs)) := (Kj.refl hj).new hw hwj
    have nDj : D ≠ j := fun z => by
      obtain ⟨a, b, c, e, _⟩ := hkw.2
      rw [z, e] at hD
      cases hD
    have hDH : H D = none := by
      cases e : H D with
      | none => rfl
      | some o =>
        rw [hkw.1 D o nDj e] at hD
        cases hD
    refine lc_range (n := xs.length) (fun i H' => ∃ ws acc : List V, H' wt = some (.lst ws) ∧ H' D = some (.lst acc) ∧ ws.length + i = xs.length ∧ acc.length = i ∧ (acc ++ ws).Perm xs ∧ Kj j H H') ?_ ?_ ?_
    · refine ⟨xs, [], by rw [upd_ne nDw]; exact ewt, upd_same, by simp, rfl, List.Perm.refl _, ?_⟩
      refine ⟨fun b o n e => ?_, ?_⟩
      · rw [upd_ne (ne_of_none e hDH)]
        exact hkw.1 b o n e
      · obtain ⟨a, b, c, e, h⟩ := hkw.2
        exact ⟨a, b, c, by rw [upd_ne (Ne.symm nDj)]; exact e, h⟩
    · rintro i H' hi ⟨ws, acc, hws, hacc, l1, l2, pm, hk⟩
      have hlw : 0 < ws.length := by omega
      refine ⟨rfl, _, rfl, .inl ⟨rfl, _, .inl (.inl hws)⟩, _, rfl, _, rfl, _, _, rfl, .inl (SqL.of hws), j, _, rfl, hk.2, by omega, by omega, fun r H2 hr0 hr1 hk2 => ?_⟩
      have hwt2 := hk2.1 wt _ hwj hws
      have hi : r.toNat < ws.length := by omega
      have er : r = ((r.toNat : Nat) : Int) := by omega
      have es : seqIndex? r ws.length = some r.toNat := by
        rw [er]
        unfold seqIndex?
        simp
        omega
      refine ⟨wt, ws, r, r.toNat, _, rfl, rfl, hwt2, by omega, by omega, es, List.getElem?_eq_getElem hi, ?_⟩
      have hacc2 := hk2.1 D _ nDj hacc
      refine ⟨acc, by rw [upd_ne (Ne.symm nDw)]; exact hacc2, by rw [l2]; exact Nat.lt_of_lt_of_le (show i < 1001 by omega) (by decide), ?_⟩
      have pm2 : (acc ++ [ws[r.toNat]'hi] ++ ws.eraseIdx r.toNat).Perm xs := by
        rw [List.append_assoc]
        exact ((erase_perm hi).append_left acc).trans pm
      refine ⟨ws.eraseIdx r.toNat, acc ++ [ws[r.toNat]'hi], by rw [upd_ne nDw]; exact upd_same, upd_same, by rw [List.length_eraseIdx_of_lt hi]; omega, by rw [List.length_append]; simp; omega, pm2, ?_⟩
      · have hk3 := hk.trans hk2
        refine ⟨fun b o n e => ?_, ?_⟩
        · rw [upd_ne (ne_of_none e hDH), upd_ne (ne_of_none e hw)]
          exact hk3.1 b o n e
        · obtain ⟨a, b, c, e, h⟩ := hk3.2
          exact ⟨a, b, c, by rw [upd_ne (Ne.symm nDj), upd_ne (Ne.symm hwj)]; exact e, h⟩
    · rintro H' ⟨ws, acc, hws, hacc, l1, l2, pm, hk⟩
      obtain rfl : ws = [] := List.length_eq_zero_iff.mp (by omega)
      rw [List.append_nil] at pm
      exact q D acc H' hDH hacc pm hk
end
end B3

/-! sorted(x), x a list or a tuple of texts, of any length; z[::-1] -/
namespace XSt
open PySem PySem.Spec PyProof.Rows L2 PySem.W

/-! ### sorted -/
section
variable {P : Program} {w : World} {A : Around} {E : Value → Shared → Prop} {s : Shared}
/-- the items of a list or a tuple, laid out; the heap only grows -/
theorem laid_out {T : String} {l : Addr} {o : Obj} {its : Array Value} {n : Nat} {Q : List Value → Shared → Prop} (hT : T = "list" ∨ T = "tuple") (ho : s.heap.get? l = some o) (hc : o.cls = .type T) (hd : o.data = .seq its n) (few : its.size ≤ sizeLine)
    (hQ : ∀ g : Heap, (∀ b u, s.heap.get? b = some u → g.get? b = some u) → s.heap.objs.size ≤ g.objs.size → Q its.toList { s with heap := g }) : wpAny (model P w) A (collect (.ref l)) Q E s := by
  let e0 : Obj := { cls := .type "list", data := .seq ([] : List Value).toArray }
  have at0 : (s.heap.push e0).get? s.heap.objs.size = some { cls := .type "list", data := .seq #[] 0 } := Heap.get?_push_size _ rfl
  let g1 : Heap := (s.heap.push e0).update s.heap.objs.size (Obj.mapSeq (· ++ its))
  have at1 := Heap.get?_update_self (Obj.mapSeq (· ++ its)) at0 rfl
  have size1 : s.heap.objs.size ≤ g1.objs.size := Nat.le_of_lt (Heap.lt_size at1)
  have keep1 : ∀ b u, s.heap.get? b = some u → g1.get? b = some u := fun b u hb => by
    have y : (s.heap.push e0).get? b = some u := Heap.get?_push_of_some _ hb
    exact (Heap.get?_update_other _ _ (Nat.ne_of_gt (Heap.lt_size hb))).trans y
  have told : ((#[] : Array Value) ++ its).toList = its.toList := by simp
  have last : wpAny (model P w) A (do
      match (← load s.heap.objs.size).data with
      | Data.seq xs _ => pure xs.toList
      | _ => unsupported "internal:collect") Q E { s with heap := g1 } := wpAny_bind (wpAny_load at1 (wpAny_pure (by
        show Q ((#[] : Array Value) ++ its).toList _
        rw [told]
        exact hQ g1 keep1 size1)))
  have grow := wpAny_extend_seq (hsz := few) (A := A) (prog := P) (w := w) (R := fun r t => r = .ok (.ret (.ref s.heap.objs.size)) ∧ t = { s with heap := g1 }) (s := { s with heap := s.heap.push e0 }) _ l (.ref s.heap.objs.size) 0 hT at0 (Heap.get?_push_of_some _ ho) hc hd ⟨rfl, rfl⟩
  have entry := F.entry_proto_collect
  have again_ := F.entry_list_iadd
  have quiet1 := F.plain_proto_collect
  have quiet2 := F.plain_list_iadd
  unfold collect
  exact wpAny_bind (wpAny_runValue (codeAny_builtin entry (by
    rw [Around.under_plainId quiet1 _]
    exact wpAny_bind (m := newList []) (wpAny_newObj_type (wpAny_pure ⟨plainId_quiet quiet2 _, codeAny_builtin again_ (by
      rw [Around.under_plainId quiet2 _]
      refine wpAny_mono grow (fun fin t h => ?_) (fun er t h => absurd h.1 (by simp))
      cases fin with
      | done f =>
        obtain ⟨e1, rfl⟩ := h
        cases e1
        exact last
      | again c => exact ⟨h.1, codeAny_mono h.2 fun r t2 hr => by
          obtain ⟨rfl, rfl⟩ := hr
          exact last⟩)⟩)))))
theorem sorted_seq {T : String} {l : Addr} {o : Obj} {vs : List Value} {n : Nat} {xs : List Str} {Q : Value → Shared → Prop} (hT : T = "list" ∨ T = "tuple") (ho : s.heap.get? l = some o) (hc : o.cls = .type T) (hd : o.data = .seq vs.toArray n)
    (e : EachIs (fun v (k : Str) => TxRel k v) vs xs) (few : xs.length ≤ sizeLine) (room : A.units + 64 < cLine)
    (fin : ∀ h' p (out : Array Value) (c : Nat), Sub s.heap h' → s.heap.objs.size ≤ p → h'.get? p = some (seqObj "list" out c) →
      EachIs (fun v (k : Str) => TxRel k v) out.toList (xs.mergeSort sLe) → Q (.ref p) { s with heap := h' }) :
    wpAny (model P w) A (call (.builtin "sorted") [.ref l]) Q E s := by
  refine Calls.call_function_entry kind_sorted plain_sorted entry_sorted (args_sorted1 _) ?_
  unfold Builtin.«sorted»
  refine wpAny_bind (m := checkCount "sorted" 1 1 _) (wpAny_pure ?_)
  refine wpAny_bind (laid_out (A := A.in1) hT ho hc hd (by rw [List.size_toArray, e.length]; exact few) fun h' k sz => ?_)
  have len : vs.length = xs.length := e.length
  rw [List.toList_toArray]
  refine wpAny_bind (wpAny_newList ?_ (by rw [len]; exact few))
  have hl : (h'.push (seqObj "list" vs.toArray 0)).get? h'.objs.size = some (seqObj "list" vs.toArray 0) := Heap.get?_push_size _ rfl
  have er : EachIs (fun v (x : Str) => ∃ as, Reads (h'.push (seqObj "list" vs.toArray 0)) v (PyData.str x) as ∧ h'.objs.size ∉ as) vs xs := e.mono fun v x r => by
    obtain ⟨u, rfl⟩ := r
    exact ⟨[], .str _ _, by simp⟩
  refine wpAny_bind (wpAny_holding (list_sort_data (s := { s with heap := h'.push (seqObj "list" vs.toArray 0) }) (enc := fun k : Str => PyData.str k) hl e er (AllAlike.of fun _ _ => by simp [alike]) (Sortable.others fun b => ⟨fun z => (by cases z), fun xs z => (by cases z)⟩) few (fun x _ => ?_) fun out lo eo => ?_))
  · simp only [PyData.depth]
    have : A.in1.units ≤ A.units + 1 := by simp [Around.in1]
    omega
  · obtain ⟨c, hc⟩ := sortedHeap_at (vs := vs) (out := out.toArray) hl
    rw [dataLe_tx] at eo
    refine wpAny_pure ⟨_, rfl, fin _ h'.objs.size out.toArray c (fun b o e => ?_) sz hc (by simpa using eo)⟩
    have k1 := k b o e
    have lt := Heap.lt_size k1
    show (sortedHeap (h'.push (seqObj "list" vs.toArray 0)) h'.objs.size vs out.toArray).get? b = some o
    rw [sortedHeap_old (Nat.ne_of_lt lt) (by rw [size_push']; exact Nat.lt_succ_of_lt lt)]
    exact Heap.get?_push_of_some _ k1
end

section
variable {X : Cx}
def rSortT (K : PySem.W.Frag) : List V → Hp → VK → Prop := fun vs H Q => ∃ (l : Addr) (xs : List Str), vs = [.ref l] ∧ (SqL K H l (xs.map V.str) ∨ SqT K H l (xs.map V.str)) ∧ xs.length ≤ sizeLine ∧
  ∀ q, H q = none → Q (.ref q) (upd H q (.lst ((xs.mergeSort sLe).map V.str)))
theorem cr_sortT (hu : X.A.units + 64 < cLine) : CallR X (.builtin "sorted") (rSortT X.K) := by
  intro pins s σ H xs us Q I r h
  obtain ⟨l, xs, rfl, sq, few, q⟩ := h
  obtain ⟨u, rfl, rx⟩ := vals1 r
  obtain rfl : u = Value.ref l := rx
  have main : ∀ (T : String) (o : Obj) (vs : List Value) (n : Nat), (T = "list" ∨ T = "tuple") → s.heap.get? l = some o → o.cls = .type T → o.data = .seq vs.toArray n → Vals (xs.map V.str) vs →
      wpAny (model X.prog X.w) X.A (call (.builtin "sorted") [.ref l]) (EP X pins σ Q) X.xe s := fun T o vs n hT ho hc hd rv => by
    refine sorted_seq hT ho hc hd (each_txt rv) few hu fun h' p out c sb sz at_ eo => ?_
    have rv2 : Vals ((xs.mergeSort sLe).map V.str) out.toList := vals_each eo
    have few2 : ((xs.mergeSort sLe).map V.str).length ≤ sizeLine := by
      rw [List.length_map, List.length_mergeSort]
      exact few
    exact ⟨.ref p, upd H p (.lst ((xs.mergeSort sLe).map V.str)), I.laid (t' := s.toks) sb sz ⟨few2, out.toList, c, rv2, at_⟩, rfl, q p (I.hok.fresh sz)⟩
  rcases sq with sq | sq
  · obtain ⟨its, rv, pl, hz⟩ := I.list sq
    obtain ⟨o, ho, hc, n, hd⟩ := id pl.isList
    exact main "list" o its n (.inl rfl) ho hc hd rv
  · obtain ⟨its, rv, pl, hz⟩ := I.tuple sq
    obtain ⟨o, ho, hc, n, hd⟩ := id pl
    exact main "tuple" o its n (.inr rfl) ho hc hd rv
end

/-! ### z[::-1] -/
def revS (z : Str) : Str := ⟨z.cps.reverse⟩
section
variable {X : Cx}
theorem pick_rev (z : Str) : (Builtin.Str.strSliceIndices none none (-1) z.length).filterMap (z.cps[·]?) = z.cps.toList.reverse := by
  have e : Builtin.Str.strSliceIndices none none (-1) z.length = (List.range z.cps.size).reverse := by
    have y := krv_sliceRange z.length
    rw [krv_range] at y
    show _ = (List.range z.length).reverse
    rw [← y]
    rfl
  rw [e, List.filterMap_reverse]
  congr 1
  have a : ∀ (xs : Array Nat), (List.range xs.size).filterMap (xs[·]?) = xs.toList := fun xs => krv_all xs
  exact a _
def tRevS (te : TE) : TE := fun σ H Q => te σ H fun x H1 => ∃ z, x = .str z ∧ z.length ≤ sizeLine ∧ Q (.str (revS z)) H1
theorem pe_revS {e : Expr} {te : TE} {k : Nat} {p1 p2 p3 pos : Pos} (he : PE X e te) : PE X (.Subscript e (.Slice none none (some (.UnaryOp .USub (.Constant (.int 1) k p1) p2)) p3) pos) (tRevS te) := by
  refine ⟨fun pins s σ H Q I h => ?_⟩
  refine Subscript_ (thn (he.run pins s σ H _ I h) fun v s1 ⟨x, H1, I1, r1, q1⟩ => ?_)
  obtain ⟨z, ex, hz, q⟩ := q1
  subst ex
  obtain ⟨t, rfl⟩ := r1
  have hst : PO X (some (.UnaryOp .USub (.Constant (.int 1) k p1) p2)) (tPart (tUn (rU fun i => .int (-i)) (tC (.int 1)))) := po_some (pe_un un_neg pe_int)
  refine wpAny_Slice (thn (po_none.run pins s1 σ H1 (fun o H2 => o = none ∧ H2 = H1) I1 ⟨rfl, rfl⟩) fun vl s2 ⟨l, H2, I2, pl, el, e2⟩ => ?_)
  subst el e2
  refine thn (po_none.run pins s2 σ H2 (fun o H3 => o = none ∧ H3 = H2) I2 ⟨rfl, rfl⟩) fun vu s3 ⟨u, H3, I3, pu, eu, e3⟩ => ?_
  subst eu e3
  refine thn (hst.run pins s3 σ H3 (fun o H4 => o = some (-1) ∧ H4 = H3) I3 ⟨1, rfl, -1, rfl, rfl, rfl⟩) fun vs s4 ⟨o, H4, I4, ps, eo, e4⟩ => ?_
  subst eo e4
  have I5 : Inv X pins σ H4 { s4 with heap := s4.heap.push { cls := .type "slice", data := .fields #[vl, vu, vs] } } := I4.kept (t' := s4.toks) fun b ob q => Heap.get?_push_of_some _ q
  obtain ⟨l', rfl, el⟩ := IsPart.raw pl
  obtain ⟨u', rfl, eu⟩ := IsPart.raw pu
  obtain ⟨st', rfl, es⟩ := IsPart.raw ps
  have el' : l' = none := by
    cases l' with
    | none => rfl
    | some y => cases el
  have eu' : u' = none := by
    cases u' with
    | none => rfl
    | some y => cases eu
  subst el' eu'
  cases st' with
  | none => cases es
  | some y =>
    obtain ⟨m, tm⟩ := y
    obtain rfl : m = -1 := Option.some.inj es
    show wpAny (model X.prog X.w) X.A (subscriptTail e (.Slice none none (some (.UnaryOp .USub (.Constant (.int 1) k p1) p2)) p3) (.str z t) (.ref s4.heap.objs.size)) (EP X pins σ Q) X.xe { s4 with heap := s4.heap.push { cls := .type "slice", data := .fields #[partValue none, partValue none, partValue (some (-1, tm))] } }
    refine tail_any (ops := [.str z t, .ref s4.heap.objs.size]) (typeIs_str _ z t) slot_str_getitem.lookup ?_ (by with_unfolding_all rfl)
    refine wpAny_getItem_str_slice (l := none) (u := none) (st := some (-1, tm)) ⟨_, Heap.get?_push_size _ rfl, rfl, rfl⟩ rfl ?_
    show Made.post (if ((-1 : Int) == 1 && _) = true then _ else Made.str ⟨((Builtin.Str.strSliceIndices none none (-1) z.length).filterMap (z.cps[·]?)).toArray⟩) (EP X pins σ Q) _
    rw [if_neg (by simp), pick_rev]
    have er : (⟨z.cps.toList.reverse.toArray⟩ : Str) = revS z := by
      unfold revS
      congr 1
      apply Array.toList_inj.mp
      simp
    rw [er]
    refine ⟨?_, .str _, H4, I5.tok _, ⟨_, rfl⟩, q⟩
    show z.cps.reverse.size ≤ sizeLine
    rw [Array.size_reverse]
    exact hz
end
end XSt

/-! what Python calls by itself of an own class: len, [], in, ==, !=, str; a class made by a local name; what is never reached -/
namespace XB
open PySem PySem.Spec PyProof.Rows L2 PySem.Calls

/-- never reached -/
theorem pe_never {X : Cx} {e : Expr} : PE X e (fun _ _ _ => False) := ⟨fun _ _ _ _ _ _ h => h.elim⟩

theorem rel_ref (a : Addr) : L2.RelV (.ref a) (.ref a) := rfl
structure Own (K : PySem.W.Frag) (C : Addr) (m : Str) (f : Addr) : Prop where
  at_ : PySem.W.findIn K (.ref C) m = some (some (.ref f))
  fn : PySem.W.isFn K (.ref f) = true
section
variable {X : Cx} {pins : List (Addr × Obj)} {σ : L2.St} {H : Hp} {s : Shared} {a C dx f : Addr} {fs : List (Str × V)} {k : Nat} {fd : FuncData} {ps : List Str} {sp : Sp}
theorem ins_inst (I : Inv X pins σ H s) (ea : H a = some (.ins C dx fs)) : ∃ ox od, PySem.W.InstAt s.heap a ox C (some od) := by
  obtain ⟨mA, O, _⟩ := ins_get I.hok ea
  obtain ⟨od, J, _⟩ := O.look
  exact ⟨_, od, J⟩
theorem run_own {A : Around} {Q : VK} {us : List Value} {vs : List V} {E : Value → Shared → Prop} (F : FnOk X.prog X.w X.K X.mg X.base CX0 k f fd ps sp) (hr : Room k A) (e0 : Env0 X.prog X.w X.K X.mg X.base A X.stack s H) (hb : Binds X.K fd ps [])
    (I : Inv X pins σ H s) (r : Vals vs us) (h : sp vs H Q E0) : wpAny (model X.prog X.w) A (call (.ref f) us) (EP X pins σ Q) E s := by
  have hl : us.length = ps.length := by rw [← r.length]; exact F.len _ _ _ _ h
  have bound := hb s us I.kIn (by simpa using hl)
  rw [List.append_nil] at bound
  refine wpAny_call (codeAny_mono (F.run A X.stack s H ⟨us, []⟩ us vs Q E0 hr e0 bound r h) fun r s' done => ?_)
  cases r with
  | error er => exact False.elim done
  | ok fl =>
    cases fl with
    | ret u => exact I.after done
    | next => exact False.elim done
    | brk => exact False.elim done
    | cont => exact False.elim done

/-! ### len(o) -/
def rLenO (C : Addr) (sp : Sp) : List V → Hp → VK → Prop := fun xs H Q => ∃ a dx fs, xs = [.ref a] ∧ H a = some (.ins C dx fs) ∧ sp [.ref a] H (fun v H' => ∃ n : Nat, v = .int (n : Int) ∧ n < 4611686018427387904 ∧ Q (.int (n : Int)) H') E0
theorem call_lenO (F : FnOk X.prog X.w X.K X.mg X.base CX0 k f fd ps sp) (hr : Room (k + 1) X.A) (O : Own X.K C "__len__" f) (hb : Binds X.K fd ps []) : CallR X (.builtin "len") (rLenO C sp) := by
  intro pins s σ H xs us Q I r h
  obtain ⟨a, dx, fs, rfl, ea, q⟩ := h
  obtain ⟨u, rfl, rx⟩ := vals1 r
  obtain rfl : u = Value.ref a := rx
  obtain ⟨ox, od, J⟩ := ins_inst I ea
  obtain ⟨m, hF⟩ := I.fr
  refine PySem.W.len_K hF I.ok.mod.kin J O.at_ O.fn ?_
  refine wpAny_mono (run_own F hr.in1 I.env0.in1 hb I (.cons (rel_ref a) .nil) q) (fun v s' z => ?_) (fun _ _ z => z)
  obtain ⟨y, H', I', ry, n, rfl, hn, q'⟩ := z
  obtain ⟨t, rfl⟩ := ry
  exact ⟨⟨by omega, by omega⟩, ⟨.int n, H', I'.tok _, ⟨_, rfl⟩, q'⟩⟩

/-! ### o[i] -/
def rIxO (C : Addr) (sp : Sp) : R2 := fun x y H Q => ∃ a dx fs, x = .ref a ∧ H a = some (.ins C dx fs) ∧ sp [.ref a, y] H Q E0
theorem pe_ixO {e1 e2 : Expr} {ta tb : TE} {pos : Pos} (F : FnOk X.prog X.w X.K X.mg X.base CX0 k f fd ps sp) (hr : Room (k + 1) X.A) (O : Own X.K C "__getitem__" f) (hf : PySem.W.fnIn X.K f = true) (hb : Binds X.K fd ps []) (h1 : PE X e1 ta) (h2 : PE X e2 tb)
    (hsl : ∀ o i, subscripted e2 true o i = runValue (.builtin "lifetime.subscript" ⟨[o, i], []⟩) := by intro _ _; with_unfolding_all rfl) : PE X (.Subscript e1 e2 pos) (tOp (rIxO C sp) ta tb) := by
  refine ⟨fun pins s σ H Q I h => ?_⟩
  refine Subscript_ (binT h1 h2 I h fun v u s2 x y H2 I2 rx ry q => ?_)
  obtain ⟨a, dx, fs, rfl, ea, q⟩ := q
  obtain rfl : v = Value.ref a := rx
  obtain ⟨ox, od, J⟩ := ins_inst I2 ea
  obtain ⟨m, hF⟩ := I2.fr
  exact PySem.W.sub_K hF I2.ok.mod.kin J O.at_ hf O.fn (run_own F hr.in1 I2.env0.in1 hb I2 (.cons (rel_ref a) (.cons ry .nil)) q) (hsl _ _)

/-! ### x in o, x not in o -/
def rInO (C : Addr) (sp : Sp) (g : Bool → Bool) : R2 := fun x y H Q => ∃ a dx fs, y = .ref a ∧ H a = some (.ins C dx fs) ∧ sp [.ref a, x] H (fun v H' => ∃ b, v = .bl b ∧ Q (.bl (g b)) H') E0
theorem op_inO (F : FnOk X.prog X.w X.K X.mg X.base CX0 k f fd ps sp) (hr : Room k X.A) (O : Own X.K C "__contains__" f) (hb : Binds X.K fd ps []) : OpR X (compareOp .In) (rInO C sp fun b => b) := by
  intro pins s σ H x y v u Q I rx ry h
  obtain ⟨a, dx, fs, rfl, ea, q⟩ := h
  obtain rfl : u = Value.ref a := ry
  obtain ⟨ox, od, J⟩ := ins_inst I ea
  obtain ⟨m, hF⟩ := I.fr
  refine PySem.W.in_K hF I.ok.mod.kin J O.at_ O.fn (wpAny_mono (run_own F hr I.env0 hb I (.cons (rel_ref a) (.cons rx .nil)) q) (fun r s' z => ?_) (fun _ _ z => z))
  obtain ⟨y, H', I', ry, b, rfl, q'⟩ := z
  obtain rfl : r = Value.bool b := ry
  exact wpAny_truthy_bool ⟨.bl b, H', I', rfl, q'⟩
theorem op_notInO (F : FnOk X.prog X.w X.K X.mg X.base CX0 k f fd ps sp) (hr : Room k X.A) (O : Own X.K C "__contains__" f) (hb : Binds X.K fd ps []) : OpR X (compareOp .NotIn) (rInO C sp fun b => !b) := by
  intro pins s σ H x y v u Q I rx ry h
  obtain ⟨a, dx, fs, rfl, ea, q⟩ := h
  obtain rfl : u = Value.ref a := ry
  obtain ⟨ox, od, J⟩ := ins_inst I ea
  obtain ⟨m, hF⟩ := I.fr
  refine PySem.W.notIn_K hF I.ok.mod.kin J O.at_ O.fn (wpAny_mono (run_own F hr I.env0 hb I (.cons (rel_ref a) (.cons rx .nil)) q) (fun r s' z => ?_) (fun _ _ z => z))
  obtain ⟨y, H', I', ry, b, rfl, q'⟩ := z
  obtain rfl : r = Value.bool b := ry
  exact wpAny_truthy_bool ⟨.bl (!b), H', I', rfl, q'⟩

/-! ### o == x, o != x -/
def rEqO (K : PySem.W.Frag) (C : Addr) (sp : Sp) (g : Bool → Bool) : R2 := fun x y H Q => ∃ a dx fs t, x = .ref a ∧ H a = some (.ins C dx fs) ∧ TyX K H y t ∧ PySem.W.notFirst K C t = true ∧ sp [.ref a, y] H (fun v H' => ∃ b, v = .bl b ∧ Q (.bl (g b)) H') E0
theorem op_eqO (F : FnOk X.prog X.w X.K X.mg X.base CX0 k f fd ps sp) (hr : Room k X.A) (O : Own X.K C "__eq__" f) (hb : Binds X.K fd ps []) : OpR X (compareOp .Eq) (rEqO X.K C sp fun b => b) := by
  intro pins s σ H x y v u Q I rx ry h
  obtain ⟨a, dx, fs, t, rfl, ea, ty, nf, q⟩ := h
  obtain rfl : v = Value.ref a := rx
  obtain ⟨ox, od, J⟩ := ins_inst I ea
  obtain ⟨m, hF⟩ := I.fr
  obtain ⟨P, Z, p, _⟩ := kit_of I ry ty
  refine PySem.W.cmp_K (op := .Eq) hr.units0 hF I.ok.mod.kin J (Z.ty _ _ I.kIn p) nf O.at_ O.fn (wpAny_mono (run_own F hr I.env0 hb I (.cons (rel_ref a) (.cons ry .nil)) q) (fun r s' z => ?_) (fun _ _ z => z))
  obtain ⟨y, H', I', ry, b, rfl, q'⟩ := z
  obtain rfl : r = Value.bool b := ry
  exact ⟨.bl b, H', I', rfl, q'⟩
theorem slot_ne : Slot "object" "__ne__" "object.__ne__" := .of (owner := "object") (n := "__ne__") (by rw [typeLookup_type, builtinLookup_eq_fast]; kernel_rfl) (by decide +kernel) (by decide +kernel) (by decide +kernel)
    (.inl (by decide +kernel)) (by rw [isSubtype_type]; kernel_rfl)
theorem bound_slot {M : Model} {A : Around} {E : Value → Shared → Prop} {K : PySem.W.Frag} {x : Addr} {ox : Obj} {od : Option Obj} {name : Str} {id : String} {args : List Value} {Q : Option Value → Shared → Prop} (KX : K.In s.heap) (I : PySem.W.InstAt s.heap x ox C od)
    (hs : PySem.W.findIn K (.ref C) name = some (some (.builtin id))) (S : ∀ self, bindSpecial (.builtin id) self = pure (.builtin id, [self])) (h : wpAny M A (call (.builtin id) (.ref x :: args)) (fun v => Q (some v)) E s) : wpAny M A (callSpecialIfBound? (.ref x) name args) Q E s := by
  have fin : wpAny M A (call (.builtin id) ([.ref x] ++ args) >>= fun v => pure (some v)) Q E s := wpAny_bind (wpAny_mono h (fun v s' z => wpAny_pure z) fun _ _ z => z)
  have bd : PySem.W.Looks M s.heap (bindSpecial (.builtin id) (.ref x)) (.builtin id, [.ref x]) := PySem.W.Looks.of_pure (S _)
  simp only [callSpecialIfBound?, bindSpecialIfBound?]
  refine wpAny_holding (wpAny_bind (wpAny_bind (wpAny_bind (I.type.here ((PySem.W.looks_findIn KX hs).here (wpAny_bind (wpAny_askSetting (wpAny_ite ?_))))))))
  split
  · exact wpAny_bind (bd.here (wpAny_pure (by exact fin)))
  · exact wpAny_tryCatch (wpAny_bind (bd.here (wpAny_pure (by exact fin))))
theorem ne_own {prog : Program} {w : World} {A : Around} {E : Value → Shared → Prop} {Q : Value → Shared → Prop} {K : PySem.W.Frag} {x : Addr} {b tb : Value} {ox : Obj} {od : Option Obj} (hu : A.units + 1 < cLine) (KX : K.In s.heap) (I : PySem.W.InstAt s.heap x ox C od)
    (hb : PySem.W.Looks (model prog w) s.heap (typeOf b) tb) (hn : PySem.W.notFirst K C tb = true) (hs : PySem.W.findIn K (.ref C) "__ne__" = some (some (.builtin "object.__ne__"))) (he : PySem.W.findIn K (.ref C) "__eq__" = some (some (.ref f)))
    (hf : PySem.W.isFn K (.ref f) = true) (hob : PySem.W.subIn K (.ref C) (.type "object") = some true)
    (h : wpAny (model prog w) A.in1 (call (.ref f) [.ref x, b]) (fun r s' => ∃ c, r = .bool c ∧ Q (.bool (!c)) s') E s) : wpAny (model prog w) A (richCompare .NotEq (.ref x) b) Q E s := by
  have hu0 : A.units < cLine := by omega
  have hu1 : A.in1.units < cLine := by show A.units + 1 < cLine; exact hu
  have body : wpAny (model prog w) A.in1 (Builtin.«object.__ne__» ⟨[.ref x, b], []⟩) (fun fin s' => match fin with
      | .done fl => wants (fun v s' => ∃ c, v = .bool c ∧ Q (.bool c) s') E (.ok fl) s'
      | .again c' => c'.quiet = true ∧ codeAny (model prog w) A c' (wants (fun v s' => ∃ c, v = .bool c ∧ Q (.bool c) s') E) s') (fun e s' => wants (fun v s' => ∃ c, v = .bool c ∧ Q (.bool c) s') E (.error e) s') s := by
    unfold Builtin.«object.__ne__»
    refine wpAny_bind (m := slotArgs _ _ _) (wpAny_pure ?_)
    refine wpAny_bind (wpAny_cRoomFor hu1 ?_)
    refine wpAny_bind (m := callSpecialIfBound? (.ref x) (Str.ofString "__eq__") [b]) (PySem.W.ifBound_K KX I he hf (wpAny_mono h (fun r s' z => ?_) fun _ _ z => z))
    obtain ⟨c, rfl, q⟩ := z
    refine wpAny_bind (wpAny_truthy_bool ?_)
    exact wpAny_pure ⟨_, rfl, q⟩
  have one : wpAny (model prog w) A (tryCompare (.ref x) "__ne__" b) (fun r s' => ∃ v, r = some v ∧ Q v s') E s := by
    have chk : PySem.W.Looks (model prog w) s.heap (isInstance (.ref x) (.type "object")) true := I.type.andThen (PySem.W.looks_subIn KX hob)
    have fin : wpAny (model prog w) A (call (.builtin "object.__ne__") [.ref x, b]) (fun v s' => ∃ c, v = .bool c ∧ Q (.bool c) s') E s :=
      wpAny_call (codeAny_call_builtin slot_ne.plain F.cmpEntry_ne (PySem.W.check_slot F.cmpKind_ne F.cmpSplit_ne chk (F.cmpArgs_ne _ _) body))
    unfold tryCompare
    refine wpAny_bind (bound_slot KX I hs slot_ne.bind (wpAny_mono fin (fun v s' z => ?_) fun _ _ z => z))
    obtain ⟨c, rfl, q⟩ := z
    exact wpAny_pure ⟨_, rfl, q⟩
  unfold richCompare
  simp only [oneThing_ref]
  refine wpAny_holding (wpAny_bind (wpAny_cRoomFor hu0 (wpAny_bind (I.type.here (wpAny_bind (hb.here ?_))))))
  have tell : ∀ {t : Option Value → Sem Value}, (∀ v, t (some v) = pure v) → wpAny (model prog w) A (tryCompare (.ref x) "__ne__" b >>= t) Q E s := fun ht => wpAny_bind (wpAny_mono one (fun r s' z => by
    obtain ⟨v, rfl, q⟩ := z
    rw [ht]
    exact wpAny_pure q) fun _ _ z => z)
  split
  · rename_i q
    have e : PySem.W.subIn K tb (.ref C) = some false := by
      rcases Bool.or_eq_true_iff.mp hn with e | e
      · rw [beq_iff_eq.mp e] at q
        simp at q
      · exact beq_iff_eq.mp e
    refine wpAny_bind ((PySem.W.looks_subIn KX e).here ?_)
    simp only [Bool.false_eq_true, if_false]
    exact tell fun _ => rfl
  · refine wpAny_bind (wpAny_pure ?_)
    simp only [Bool.false_eq_true, if_false]
    exact tell fun _ => rfl
theorem op_neO (F : FnOk X.prog X.w X.K X.mg X.base CX0 k f fd ps sp) (hr : Room (k + 1) X.A) (O : Own X.K C "__eq__" f) (hs : PySem.W.findIn X.K (.ref C) "__ne__" = some (some (.builtin "object.__ne__"))) (hob : PySem.W.subIn X.K (.ref C) (.type "object") = some true)
    (hb : Binds X.K fd ps []) : OpR X (compareOp .NotEq) (rEqO X.K C sp fun b => !b) := by
  intro pins s σ H x y v u Q I rx ry h
  obtain ⟨a, dx, fs, t, rfl, ea, ty, nf, q⟩ := h
  obtain rfl : v = Value.ref a := rx
  obtain ⟨ox, od, J⟩ := ins_inst I ea
  obtain ⟨P, Z, p, _⟩ := kit_of I ry ty
  refine ne_own (by have := hr.un; omega) I.kIn J (Z.ty _ _ I.kIn p) nf hs O.at_ O.fn hob (wpAny_mono (run_own F hr.in1 I.env0.in1 hb I (.cons (rel_ref a) (.cons ry .nil)) q) (fun r s' z => ?_) (fun _ _ z => z))
  obtain ⟨y, H', I', ry, b, rfl, q'⟩ := z
  obtain rfl : r = Value.bool b := ry
  exact ⟨b, rfl, .bl (!b), H', I', rfl, q'⟩

/-! ### str(o) -/
def rStrO (C : Addr) (sp : Sp) : List V → Hp → VK → Prop := fun xs H Q => ∃ a dx fs, xs = [.ref a] ∧ H a = some (.ins C dx fs) ∧ sp [.ref a] H (fun v H' => ∃ z, v = .str z ∧ Q (.str z) H') E0
theorem call_strO (F : FnOk X.prog X.w X.K X.mg X.base CX0 k f fd ps sp) (hr : Room (k + 2) X.A) (O : Own X.K C "__str__" f) (hb : Binds X.K fd ps []) : CallR X (.type "str") (rStrO C sp) := by
  intro pins s σ H xs us Q I r h
  obtain ⟨a, dx, fs, rfl, ea, q⟩ := h
  obtain ⟨u, rfl, rx⟩ := vals1 r
  obtain rfl : u = Value.ref a := rx
  obtain ⟨ox, od, J⟩ := ins_inst I ea
  have room2 : Room k X.A.in1.in1 := (Room.in1 hr).in1
  refine PySem.W.kso_call room2.units0 I.kIn J O.at_ O.fn (wpAny_mono (run_own F room2 I.env0.in1.in1 hb I (.cons (rel_ref a) .nil) q) (fun v s' z => ?_) (fun _ _ z => z))
  obtain ⟨y, H', I', ry, n, rfl, q'⟩ := z
  obtain ⟨t, rfl⟩ := ry
  exact ⟨.str n, H', I', ⟨t, rfl⟩, q'⟩

/-! ### cls(..), cls a local name that holds the class -/
def tMakeL (i : Nat) (C : Addr) (sp : Sp) (t : TA) : TE := fun σ H Q => σ[i]? = some (some (.ref C)) ∧ tMake C sp [] E0 t σ H Q
theorem pe_makeL {i : Nat} {x : Str} {p pos : Pos} {e : Expr} {es : List Expr} {t : TA} (M : Mk X.K C f) (F : FnOk X.prog X.w X.K X.mg X.base CX0 k f fd ps sp) (hr : Room (k + 1) X.A) (hN : X.N[i]? = some x) (hv : Vis X.env.scope x) (hb : Binds X.K fd ps []) (ha : PA X (e :: es) t)
    (hdb : (x == ("__debug__" : Str)) = false := by decide) (hcd : (x == ("__classdict__" : Str)) = false := by decide)
    (he : starEach (e :: es) X.env = (false, eval e X.env) :: starEach es X.env := by rfl) (hpl : (backTo pos (starEach es X.env)).any (·.1) = false := by rfl) : PE X (.Call (.Name x p) (e :: es) [] pos) (tMakeL i C sp t) := by
  refine ⟨fun pins s σ H Q I h => ?_⟩
  obtain ⟨hs, ht⟩ := h
  refine wpAny_Call_Name_kw (thn ((pe_var (pos := p) hN hv hdb hcd).run pins s σ H (fun v H1 => v = .ref C ∧ H1 = H) I ⟨.ref C, hs, rfl, rfl⟩) fun u s1 ⟨v, H1, I1, r1, q1⟩ => ?_)
  obtain ⟨rfl, rfl⟩ := q1
  cases r1
  refine PySem.W.callWith_K (h₀ := X.base) I.ok.mod.kin M.kp (thn (ha.run pos pins s1 σ _ _ I1 ht) fun us s2 ⟨vs, H2, I2, r, q⟩ => ⟨I2.kIn, ?_⟩) he hpl
  exact run_make M F hr hb .nil pass0 I2 r q
end
end XB

/-! the judges of the names -/
namespace B3
open PySem PySem.Spec PyProof.Rows L2 XSt NX
open PySem.W (Frag)
abbrev sIsInteger : Stmt := top 13
abbrev sIsLetters : Stmt := top 14
abbrev sIsSpelled : Stmt := top 16
abbrev sOrdered : Stmt := top 17
/-- the second tells all that the first tells -/
def Ext (H H' : Hp) : Prop := ∀ b o, H b = some o → H' b = some o
theorem Ext.refl (H : Hp) : Ext H H := fun _ _ e => e
theorem Ext.trans {a b c : Hp} (x : Ext a b) (y : Ext b c) : Ext a c := fun q o e => y q o (x q o e)
theorem Ext.new {H H' : Hp} {p : Addr} {o : HO} (k : Ext H H') (h : H' p = none) : Ext H (upd H' p o) := fun b u e => by rw [upd_ne (ne_of_none (k b u e) h)]; exact k b u e

def spIsInteger (K : Frag) : Sp := fun vs H Q _ => ∃ v, vs = [v] ∧ Asked K H v ∧ Q (.bl (longV v)) H
def spIsLetters (K : Frag) : Sp := fun vs H Q _ => ∃ v, vs = [v] ∧ Asked K H v ∧ ∀ H', Ext H H' → Q (.bl (lettersV v)) H'
def spIsSpelled (K : Frag) : Sp := fun vs H Q _ => ∃ x v, vs = [.str x, v] ∧ Asked K H v ∧ Q (.bl (spelledV x v)) H
def spOrdered (K : Frag) : Sp := fun vs H Q _ => ∃ v xs, vs = [v] ∧ Feeds K H v xs ∧ xs.length < 4096 ∧ (∀ k ∈ xs, k.length ≤ 16777216) ∧ ∀ p H', H p = none → Ext H H' → H' p = some (.tup ((ordT xs).map V.str)) → Q (.ref p) H'
/-- the module's numbers -/
structure Sizes (mg : Str → Option Value) : Prop where
  long : ∃ t, mg "_TOO_LONG" = some (.int ((10 ^ 50) ^ 4) t)
  letters : ∃ t, mg "MAX_LETTERS" = some (.int 3 t)
  word : ∃ t, mg "MAX_WORD" = some (.int 400 t)
structure Free (mg : Str → Option Value) : Prop where
  isi : mg "isinstance" = none
  int : mg "int" = none
  bool : mg "bool" = none
  str : mg "str" = none
  tuple : mg "tuple" = none
  abs : mg "abs" = none
  len : mg "len" = none
  sorted : mg "sorted" = none
  set : mg "set" = none
section
variable {P : Program} {w : World} {K : Frag} {mg : Str → Option Value} {base : Heap} {f : Addr} {fd : FuncData}
theorem scIsInteger : FnScope ["value"] ["value"] (defScope sIsInteger) := ⟨rfl, rfl, rfl, by decide +kernel, rfl, by decide +kernel, by decide +kernel⟩
theorem scIsLetters : FnScope ["value"] ["value"] (defScope sIsLetters) := ⟨rfl, rfl, rfl, by decide +kernel, rfl, by decide +kernel, by decide +kernel⟩
theorem scIsSpelled : FnScope ["letters", "value"] ["letters", "value"] (defScope sIsSpelled) := ⟨rfl, rfl, rfl, by decide +kernel, rfl, by decide +kernel, by decide +kernel⟩
theorem scOrdered : FnScope ["texts"] ["texts"] (defScope sOrdered) := ⟨rfl, rfl, rfl, by decide +kernel, rfl, by decide +kernel, by decide +kernel⟩

theorem ok_is_integer (F : FnP K "is_integer" sIsInteger f fd) (Z : Sizes mg) (M : Free mg) : FnOk P w K mg base CX0 1 f fd ["value"] (spIsInteger K) := by
  obtain ⟨tk, gL⟩ := Z.long
  refine F.ok scIsInteger (fun vs H Q E h => ?_) (fun cdv A outer s H vs Q E hr h => ?_)
  · obtain ⟨v, rfl, _⟩ := h
    rfl
  · obtain ⟨v, rfl, ask, q⟩ := h
    refine ⟨_, PSs.nox (pss_one (ps_ret (pe_and (pe_callB call_isi (by rfl) M.isi (by decide +kernel) (pa_cons (pv 0) (pa_cons (pe_bltn (v := .ty "int") (by rfl) M.int (by decide +kernel) rfl) pa_nil)))
      (pe_and (pe_not (pe_callB call_isi (by rfl) M.isi (by decide +kernel) (pa_cons (pv 0) (pa_cons (pe_bltn (v := .ty "bool") (by rfl) M.bool (by decide +kernel) rfl) pa_nil))))
      (pe_one (pe_cmpR op_lt (pe_callB call_abs (by rfl) M.abs (by decide +kernel) (pa_cons (pv 0) pa_nil)) (pe_glob (v := .int ((10 ^ 50) ^ 4)) (by rfl) gL ⟨tk, rfl⟩) (nomark _))))))), ?_⟩
    obtain ⟨t1, k1, k2⟩ := isi_int ask
    refine ⟨v, rfl, _, _, t1, _, _, rfl, .ty "int", k1, k2, _, rfl, ?_⟩
    cases v with
    | int i =>
      obtain ⟨t2, k3, k4⟩ := isi_bool ask
      exact ⟨_, rfl, _, _, t2, _, _, rfl, .ty "bool", k3, k4, _, rfl, _, rfl, _, rfl, _, rfl, _, _, rfl, rfl, q⟩
    | bl b =>
      obtain ⟨t2, k3, k4⟩ := isi_bool ask
      exact ⟨_, rfl, _, _, t2, _, _, rfl, .ty "bool", k3, k4, _, rfl, _, rfl, q⟩
    | non => exact q
    | str x => exact q
    | ref a => exact q
    | _ => exact ask.elim

theorem ok_is_spelled (F : FnP K "_is_spelled" sIsSpelled f fd) (M : Free mg) : FnOk P w K mg base CX0 1 f fd ["letters", "value"] (spIsSpelled K) := by
  refine F.ok scIsSpelled (fun vs H Q E h => ?_) (fun cdv A outer s H vs Q E hr h => ?_)
  · obtain ⟨x, v, rfl, _⟩ := h
    rfl
  · obtain ⟨x, v, rfl, ask, q⟩ := h
    refine ⟨_, PSs.nox (pss_one (ps_ret (pe_and (pe_callB call_isi (by rfl) M.isi (by decide +kernel) (pa_cons (pv 1) (pa_cons (pe_bltn (v := .ty "str") (by rfl) M.str (by decide +kernel) rfl) pa_nil)))
      (pe_one (pe_cmpR op_eq (pe_bm PySem.F.plainAttrs_str PySem.F.slot_str_strip PySem.F.type_str_strip mt_stripChars (pv 1) (pa_cons (pv 0) pa_nil)) pe_str (nomark _)))))), ?_⟩
    obtain ⟨t1, k1, k2⟩ := isi_str ask
    refine ⟨v, rfl, _, _, t1, _, _, rfl, .ty "str", k1, k2, _, rfl, ?_⟩
    cases v with
    | str y =>
      have hy : y.length ≤ 8000 := ask.1
      have hs : sizeLine = 16777216 := sizeLine_eq
      refine ⟨.str y, rfl, rfl, _, rfl, y, x, rfl, rfl, by omega, rfl, ?_⟩
      have e : decide ((V.str (Txt.stripChars y x)) = V.str (Str.ofString "")) = spelledV x (.str y) := by
        show decide (V.str (Txt.stripChars y x) = V.str ⟨#[]⟩) = decide (Txt.stripChars y x = ⟨#[]⟩)
        simp
      rw [e]
      exact q
    | int i => exact q
    | bl b => exact q
    | non => exact q
    | ref a => exact q
    | _ => exact ask.elim

theorem sum_ones : ∀ l : List Str, (∀ y ∈ l, y.length ≤ 1) → (l.map (·.length)).sum ≤ l.length
  | [], _ => Nat.le_refl _
  | y :: l, h => by
    have a := h y (List.mem_cons_self ..)
    have b := sum_ones l fun z m => h z (List.mem_cons_of_mem _ m)
    simp only [List.map_cons, List.sum_cons, List.length_cons]
    omega
theorem sign_len {x y : Str} (h : y ∈ XSt.signs x) : y.length ≤ 1 := by
  obtain ⟨c, _, rfl⟩ := List.mem_map.mp h
  exact Nat.le_refl _
theorem signs_len (x : Str) : (XSt.signs x).length = x.length := by
  rw [XSt.signs, List.length_map, Array.length_toList]
  rfl
/-- what comes of sorted(set(x)): the sum for join -/
theorem joined_fits {x : Str} {L : List Str} (h : x.length ≤ 8000) (p : L.Perm (once (XSt.signs x))) : ((L.mergeSort sLe).map (·.length)).sum + (L.mergeSort sLe).length * (Str.ofString "").length ≤ 16777216 := by
  have a := once_len (XSt.signs x)
  rw [signs_len] at a
  have b := sum_ones (L.mergeSort sLe) fun y m => sign_len (mem_once.mp (p.mem_iff.mp ((List.mergeSort_perm _ _).mem_iff.mp m)))
  have c : (L.mergeSort sLe).length = (once (XSt.signs x)).length := by rw [List.length_mergeSort, p.length_eq]
  have d : (Str.ofString "").length = 0 := rfl
  rw [d, Nat.mul_zero]
  omega
theorem head_at {x : Str} (h : 1 ≤ x.length) : atI x.cps.toList 0 = some (x.cps.toList.headD 0) := by
  have e : x.cps.toList.length = x.length := by rw [Array.length_toList]; rfl
  cases q : x.cps.toList with
  | nil =>
    rw [q] at e
    simp at e
    omega
  | cons c r => exact atI_nat (j := 0) rfl
theorem last_at {x : Str} (h : 1 ≤ x.length) : atI x.cps.toList (-1) = some (x.cps.toList.getLastD 0) := by
  have e : x.cps.toList.length = x.length := by rw [Array.length_toList]; rfl
  generalize x.cps.toList = l at e ⊢
  have z : ixN l.length (-1) = some (l.length - 1) := by
    unfold ixN
    rw [if_neg (by decide), if_pos (by omega)]
    congr 1
    omega
  unfold atI
  rw [z]
  show l[l.length - 1]? = _
  rw [List.getLastD_eq_getLast?, List.getLast?_eq_getElem?]
  cases q : l[l.length - 1]? with
  | none =>
    have := List.getElem?_eq_none_iff.mp q
    omega
  | some c => rfl
theorem not_below (c d : Nat) : (!decide ([c] < [d])) = decide (d ≤ c) := by
  by_cases h : d ≤ c
  · have : ¬ [c] < [d] := by
      rw [List.cons_lt_cons_iff]
      rintro (z | ⟨_, z⟩)
      · omega
      · exact List.not_lt_nil _ z
    simp [h, this]
  · have : [c] < [d] := List.cons_lt_cons_iff.mpr (Or.inl (by omega))
    simp [h, this]

theorem ok_is_letters (F : FnP K "is_letters" sIsLetters f fd) (Z : Sizes mg) (M : Free mg) : FnOk P w K mg base CX0 1 f fd ["value"] (spIsLetters K) := by
  obtain ⟨tk, gL⟩ := Z.letters
  refine F.ok scIsLetters (fun vs H Q E h => ?_) (fun cdv A outer s H vs Q E hr h => ?_)
  · obtain ⟨v, rfl, _⟩ := h
    rfl
  · obtain ⟨v, rfl, ask, q⟩ := h
    refine ⟨_, PSs.nox (pss_cons (ps_if (PW.pt (pw_or (pt_not (pt_val (pe_callB call_isi (by rfl) M.isi (by decide +kernel) (pa_cons (pv 0) (pa_cons (pe_bltn (v := .ty "str") (by rfl) M.str (by decide +kernel) rfl) pa_nil)))))
        (pw_or1 (pt_not (pt_chain op_le op_le pe_int (pe_callB call_len (by rfl) M.len PySem.boot_len (pa_cons (pv 0) pa_nil)) (pe_glob (v := .int 3) (by rfl) gL ⟨tk, rfl⟩)))))) (pss_one (ps_ret pe_bl)) pss_nil)
      (pss_one (ps_ret (pe_and (pe_cmpR op_eq (pv 0) (pe_bm PySem.F.plainAttrs_str PySem.F.slot_str_join PySem.F.type_str_join mt_join pe_str
          (pa_cons (pe_callB (cr_sortedS rfl hr.units) (by rfl) M.sorted (by decide +kernel) (pa_cons (pe_callTy (cr_setS rfl) (by rfl) M.set (by decide +kernel) (pa_cons (pv 0) pa_nil)) pa_nil)) pa_nil)) (nomark _))
        (pe_and (pe_cmpR op_le_str pe_str (pe_ix ix_str (pv 0) pe_int (fun _ _ => rfl)) (nomark _)) (pe_one (pe_cmpR op_le_str (pe_ix ix_str (pv 0) (pe_un un_neg pe_int) (fun _ _ => rfl)) pe_str (nomark _)))))))), ?_⟩
    obtain ⟨t1, k1, k2⟩ := isi_str ask
    refine ⟨v, rfl, _, _, t1, _, _, rfl, .ty "str", k1, k2, _, rfl, ?_⟩
    cases v with
    | str y =>
      have hy : y.length ≤ 8000 := ask.1
      have hs : sizeLine = 16777216 := sizeLine_eq
      refine ⟨_, rfl, _, y.length, rfl, ⟨by omega, rfl⟩, _, _, rfl, rfl, _, rfl, ?_⟩
      by_cases c1 : 1 ≤ y.length
      · have d1 : decide ((1 : Int) ≤ (y.length : Int)) = true := decide_eq_true (by omega)
        rw [d1]
        refine iteT ⟨_, _, rfl, rfl, _, rfl, ?_⟩
        by_cases c2 : y.length ≤ 3
        · have d2 : decide ((y.length : Int) ≤ 3) = true := decide_eq_true (by omega)
          rw [d2]
          refine iteF ⟨.str y, rfl, rfl, .str y, rfl, .str y, XSt.signs y, rfl, Or.inl ⟨y, rfl, rfl⟩, by rw [signs_len]; show y.length < 4096; omega, fun a L ha pL => ?_⟩
          refine ⟨a, L, rfl, upd_same, fun p hp => ⟨_, p, _, rfl, rfl, Or.inl (SqL.of upd_same), joined_fits hy pL, rfl, _, rfl, ?_⟩⟩
          have same : L.mergeSort sLe = (once (XSt.signs y)).mergeSort sLe := sLe_ord.same pL
          rw [same]
          have ext : Ext H (upd (upd H a (SO (txKit P w) a L)) p (.lst ((L.mergeSort sLe).map V.str))) := ((Ext.refl H).new ha).new hp
          rw [same] at ext
          have d3 : decide (1 ≤ y.length ∧ y.length ≤ 3) = true := decide_eq_true ⟨c1, c2⟩
          have tell : lettersV (.str y) = (decide (y = Txt.join ⟨#[]⟩ ((once (XSt.signs y)).mergeSort sLe)) && (decide (97 ≤ y.cps.toList.headD 0) && decide (y.cps.toList.getLastD 0 ≤ 122))) := by
            show (decide (1 ≤ y.length ∧ y.length ≤ 3) && _) = _
            rw [d3, Bool.true_and]
          have q' := q _ ext
          rw [tell] at q'
          have e1 : decide (V.str y = V.str (Txt.join (Str.ofString "") ((once (XSt.signs y)).mergeSort sLe))) = decide (y = Txt.join ⟨#[]⟩ ((once (XSt.signs y)).mergeSort sLe)) := by
            show decide (V.str y = V.str (Txt.join ⟨#[]⟩ ((once (XSt.signs y)).mergeSort sLe))) = _
            simp
          rw [e1]
          generalize decide (y = Txt.join ⟨#[]⟩ ((once (XSt.signs y)).mergeSort sLe)) = g at q' ⊢
          cases g with
          | false => exact iteF q'
          | true =>
            refine iteT ⟨.str y, rfl, y, 0, _, rfl, rfl, by omega, head_at c1, _, _, rfl, rfl, _, rfl, ?_⟩
            have e2 : (!decide ((⟨#[y.cps.toList.headD 0]⟩ : Str).cps.toList < (Str.ofString "a").cps.toList)) = decide (97 ≤ y.cps.toList.headD 0) := not_below _ 97
            rw [e2]
            generalize decide (97 ≤ y.cps.toList.headD 0) = g2 at q' ⊢
            cases g2 with
            | false => exact iteF q'
            | true =>
              refine iteT ⟨.str y, rfl, 1, rfl, y, -1, _, rfl, rfl, by omega, last_at c1, _, _, rfl, rfl, ?_⟩
              have e3 : (!decide ((Str.ofString "z").cps.toList < (⟨#[y.cps.toList.getLastD 0]⟩ : Str).cps.toList)) = decide (y.cps.toList.getLastD 0 ≤ 122) := not_below 122 _
              rw [e3]
              exact q'
        · have d2 : decide ((y.length : Int) ≤ 3) = false := decide_eq_false (by omega)
          rw [d2]
          refine iteT ?_
          have tell : lettersV (.str y) = false := by
            show (decide (1 ≤ y.length ∧ y.length ≤ 3) && _) = _
            rw [decide_eq_false (fun z => c2 z.2), Bool.false_and]
          have q' := q H (Ext.refl H)
          rw [tell] at q'
          exact q'
      · have d1 : decide ((1 : Int) ≤ (y.length : Int)) = false := decide_eq_false (by omega)
        rw [d1]
        refine iteF ⟨_, rfl, iteT ?_⟩
        have tell : lettersV (.str y) = false := by
          show (decide (1 ≤ y.length ∧ y.length ≤ 3) && _) = _
          rw [decide_eq_false (fun z => c1 z.1), Bool.false_and]
        have q' := q H (Ext.refl H)
        rw [tell] at q'
        exact q'
    | int i => exact q H (Ext.refl H)
    | bl b => exact q H (Ext.refl H)
    | non => exact q H (Ext.refl H)
    | ref a => exact q H (Ext.refl H)
    | _ => exact ask.elim

theorem ok_ordered (F : FnP K "ordered" sOrdered f fd) (M : Free mg) : FnOk P w K mg base CX0 1 f fd ["texts"] (spOrdered K) := by
  refine F.ok scOrdered (fun vs H Q E h => ?_) (fun cdv A outer s H vs Q E hr h => ?_)
  · obtain ⟨v, xs, rfl, _⟩ := h
    rfl
  · obtain ⟨v, xs, rfl, fd, lim, big, q⟩ := h
    refine ⟨_, PSs.nox (pss_one (ps_ret (pe_callTy call_tuple_of (by rfl) M.tuple (by decide +kernel) (pa_cons (pe_sortLen hr.units (by rfl) M.sorted (by rfl) M.len
      (pe_callB (cr_sortedS rfl hr.units) (by rfl) M.sorted (by decide +kernel) (pa_cons (pe_callTy (cr_setS rfl) (by rfl) M.set (by decide +kernel) (pa_cons (pv 0) pa_nil)) pa_nil))) pa_nil)))), ?_⟩
    refine ⟨v, rfl, v, xs, rfl, fd, lim, fun a L ha pL => ⟨a, L, rfl, upd_same, fun p hp => ⟨p, L.mergeSort sLe, rfl, SqL.of upd_same, fun k m => ?_, fun r hr => ⟨r, _, rfl, Or.inl ⟨SqL.of upd_same, fun l hl => ?_⟩⟩⟩⟩⟩
    · rw [sizeLine_eq]
      exact big k (mem_once.mp (pL.mem_iff.mp ((List.mergeSort_perm _ _).mem_iff.mp m)))
    · rw [sLe_ord.same pL, twice_sorted]
      have e1 : Ext H (upd (upd H a (SO (txKit P w) a L)) p (.lst ((L.mergeSort sLe).map V.str))) := ((Ext.refl H).new ha).new hp
      have e2 := e1.new hr (o := .lst (((L.mergeSort sLe).mergeSort lLe).map V.str))
      have e3 := e2.new hl (o := .tup ((ordT xs).map V.str))
      have hl0 : H l = none := by
        cases z : H l with
        | none => rfl
        | some o =>
          have y := hl.symm.trans (e2 _ _ z)
          cases y
      rw [sLe_ord.same pL, twice_sorted] at e3
      exact q l _ hl0 e3 upd_same
end
end B3

/-! words that are right, put in order -/
namespace B3
open PySem PySem.Spec PyProof.Rows L2 XSt NX XB
open PySem.W (Frag)
abbrev sCheckLetters : Stmt := top 19
abbrev sIsWordOf : Stmt := top 15
abbrev sOrderedWords : Stmt := top 18
abbrev sCheckNumber : Stmt := top 20
theorem tyx_ext {K : Frag} {H H' : Hp} (k : Ext H H') {v : V} {t : Value} (h : TyX K H v t) : TyX K H' v t := by
  cases h with
  | base b =>
    refine .base ?_
    cases b with
    | non => exact .non
    | bl x => exact .bl x
    | int x => exact .int x
    | str x => exact .str x
    | flt x => exact .flt x
    | lst e => exact .lst (k _ _ e)
    | frz e => exact .frz (k _ _ e)
    | tup e => exact .tup (k _ _ e)
    | dK e => exact .dK (k _ _ e)
    | dT e => exact .dT (k _ _ e)
    | ins e a b c d g => exact .ins (k _ _ e) a b c d g
  | byt b => exact .byt b
  | set e => exact .set (k _ _ e)
  | kList a b => exact .kList a b
  | kTuple a b => exact .kTuple a b
  | kDict a b => exact .kDict a b
  | fTuple e => exact .fTuple (k _ _ e)
  | fDict e => exact .fDict (k _ _ e)
theorem asked_ext {K : Frag} {H H' : Hp} (k : Ext H H') {v : V} (h : Asked K H v) : Asked K H' v := by
  cases v with
  | ref a =>
    obtain ⟨b, t, h1, h2⟩ := h
    exact ⟨b, t, tyx_ext k h1, h2⟩
  | _ => exact h
theorem sqT_ext {K : Frag} {H H' : Hp} (k : Ext H H') {a : Addr} {xs : List V} (h : SqT K H a xs) : SqT K H' a xs := by
  rcases h with (h | ⟨o, h⟩) | h
  · exact Or.inl (Or.inl (k _ _ h))
  · exact Or.inl (Or.inr ⟨o, k _ _ h⟩)
  · exact Or.inr h
theorem sqL_ext {K : Frag} {H H' : Hp} (k : Ext H H') {a : Addr} {xs : List V} (h : SqL K H a xs) : SqL K H' a xs := by
  rcases h with (h | ⟨o, h⟩) | h
  · exact Or.inl (Or.inl (k _ _ h))
  · exact Or.inl (Or.inr ⟨o, k _ _ h⟩)
  · exact Or.inr h
theorem sqT_ty {K : Frag} {H : Hp} {a : Addr} {xs : List V} (h : SqT K H a xs) : TyX K H (.ref a) (.type "tuple") := by
  rcases h with (h | ⟨o, h⟩) | ⟨o, its, n, h1, h2, _⟩
  · exact .base (.tup h)
  · exact .fTuple h
  · exact .kTuple h1 h2


def wordV (s : Str) (n : Nat) : V → Bool
  | .str y => decide (Txt.stripChars y s = ⟨#[]⟩) && (decide (1 ≤ y.length) && decide (y.length ≤ n))
  | _ => false
/-- letters, and words over them -/
def GoodL (x : Str) : Prop := x.length ≤ 8000 ∧ PyData.strOk x = true ∧ lettersV (.str x) = true
def GoodW (x y : Str) : Prop := y.length ≤ 400 ∧ PyData.strOk y = true ∧ wordV x 400 (.str y) = true
theorem GoodL.ask {K : Frag} {H : Hp} {x : Str} (h : GoodL x) : Asked K H (.str x) := ⟨h.1, h.2.1⟩
theorem GoodW.ask {K : Frag} {H : Hp} {x y : Str} (h : GoodW x y) : Asked K H (.str y) := ⟨Nat.le_trans h.1 (by decide), h.2.1⟩

def spCheckLetters : Sp := fun vs H Q _ => ∃ x, vs = [.str x] ∧ GoodL x ∧ ∀ H', Ext H H' → Q .non H'
def spIsWordOf (K : Frag) : Sp := fun vs H Q _ => ∃ x v, vs = [.str x, v] ∧ Asked K H v ∧ Q (.bl (wordV x 400 v)) H
def spOrderedWords (K : Frag) : Sp := fun vs H Q _ => ∃ x p ys, vs = [.str x, .ref p] ∧ GoodL x ∧ SqT K H p (ys.map V.str) ∧ (∀ y ∈ ys, GoodW x y) ∧ ys.length < 4096 ∧
  ∀ q H', H q = none → Ext H H' → H' q = some (.tup ((ordT ys).map V.str)) → Q (.ref q) H'
def spCheckNumber : Sp := fun vs H Q _ => ∃ i lo hi : Int, vs = [.int i, .int lo, .int hi] ∧ lo ≤ i ∧ i ≤ hi ∧ 0 ≤ lo ∧ hi ≤ 100000 ∧ Q .non H
section
variable {P : Program} {w : World} {K : Frag} {mg : Str → Option Value} {base : Heap} {f fL fS fI fT fW fO : Addr} {fd dL dS dI dT dW dO : FuncData}
theorem scCheckLetters : FnScope ["letters"] ["letters"] (defScope sCheckLetters) := ⟨rfl, rfl, rfl, by decide +kernel, rfl, by decide +kernel, by decide +kernel⟩
theorem scIsWordOf : FnScope ["letters", "value"] ["letters", "value"] (defScope sIsWordOf) := ⟨rfl, rfl, rfl, by decide +kernel, rfl, by decide +kernel, by decide +kernel⟩
theorem scOrderedWords : FnScope ["letters", "words", "word"] ["letters", "words"] (defScope sOrderedWords) := ⟨rfl, rfl, rfl, by decide +kernel, rfl, by decide +kernel, by decide +kernel⟩
theorem scCheckNumber : FnScope ["value", "low", "high"] ["value", "low", "high"] (defScope sCheckNumber) := ⟨rfl, rfl, rfl, by decide +kernel, rfl, by decide +kernel, by decide +kernel⟩

theorem ok_check_letters (F : FnP K "check_letters" sCheckLetters f fd) (FL : FnOk P w K mg base CX0 1 fL dL ["value"] (spIsLetters K)) (gL : mg "is_letters" = some (.ref fL)) (kL : PySem.W.keepIn K (.ref fL) = true) (bL : Binds K dL ["value"] []) :
    FnOk P w K mg base CX0 2 f fd ["letters"] spCheckLetters := by
  refine F.ok scCheckLetters (fun vs H Q E h => ?_) (fun cdv A outer s H vs Q E hr h => ?_)
  · obtain ⟨v, rfl, _⟩ := h
    rfl
  · obtain ⟨x, rfl, g, q⟩ := h
    refine ⟨_, PSs.nox (pss_one (ps_if (pt_not (pt_val (pe_call FL hr (by rfl) gL kL bL .nil pass0 (pa_cons (pv 0) pa_nil)))) (pss_one ps_never) pss_nil)), ?_⟩
    refine ⟨_, rfl, _, rfl, g.ask, fun H' k => ⟨_, rfl, ?_⟩⟩
    rw [g.2.2]
    exact iteF (q H' k)

theorem ok_is_word_of (F : FnP K "_is_word_of" sIsWordOf f fd) (M : Free mg) (Z : Sizes mg)
    (FS : FnOk P w K mg base CX0 1 fS dS ["letters", "value"] (spIsSpelled K)) (gS : mg "_is_spelled" = some (.ref fS)) (kS : PySem.W.keepIn K (.ref fS) = true) (bS : Binds K dS ["letters", "value"] []) :
    FnOk P w K mg base CX0 2 f fd ["letters", "value"] (spIsWordOf K) := by
  obtain ⟨tk, gM⟩ := Z.word
  refine F.ok scIsWordOf (fun vs H Q E h => ?_) (fun cdv A outer s H vs Q E hr h => ?_)
  · obtain ⟨u, v, rfl, _⟩ := h
    rfl
  · obtain ⟨x, v, rfl, a2, q3⟩ := h
    refine ⟨_, PSs.nox (pss_one (ps_ret (pe_and (pe_call FS hr (by rfl) gS kS bS .nil pass0 (pa_cons (pv 0) (pa_cons (pv 1) pa_nil))) (pe_one (pe_chain op_le op_le pe_int (pe_callB call_len (by rfl) M.len PySem.boot_len (pa_cons (pv 1) pa_nil)) (pe_glob (v := .int 400) (by rfl) gM ⟨tk, rfl⟩)))))), ?_⟩
    refine ⟨_, rfl, _, rfl, x, v, rfl, a2, _, rfl, ?_⟩
    cases v with
    | str y =>
      have hy : y.length ≤ 8000 := a2.1
      have hs : sizeLine = 16777216 := sizeLine_eq
      have e : wordV x 400 (.str y) = (spelledV x (.str y) && (decide (1 ≤ y.length) && decide (y.length ≤ 400))) := rfl
      rw [e] at q3
      generalize spelledV x (.str y) = g at q3 ⊢
      cases g with
      | false => exact iteF q3
      | true =>
        refine iteT ⟨.str y, rfl, _, y.length, rfl, ⟨by omega, rfl⟩, _, _, rfl, rfl, _, rfl, ?_⟩
        have e1 : decide ((1 : Int) ≤ (y.length : Int)) = decide (1 ≤ y.length) := by
          by_cases z : 1 ≤ y.length
          · rw [decide_eq_true z, decide_eq_true (by omega)]
          · rw [decide_eq_false z, decide_eq_false (by omega)]
        have e2 : decide ((y.length : Int) ≤ 400) = decide (y.length ≤ 400) := by
          by_cases z : y.length ≤ 400
          · rw [decide_eq_true z, decide_eq_true (by omega)]
          · rw [decide_eq_false z, decide_eq_false (by omega)]
        rw [e1]
        generalize decide (1 ≤ y.length) = g2 at q3 ⊢
        cases g2 with
        | false => exact iteF q3
        | true =>
          refine iteT ⟨_, _, rfl, rfl, ?_⟩
          show Q (.bl (decide ((y.length : Int) ≤ 400))) H
          rw [e2]
          exact q3
    | int i => exact iteF q3
    | bl b => exact iteF q3
    | non => exact iteF q3
    | ref a => exact iteF q3
    | _ => exact a2.elim

theorem ok_check_number (F : FnP K "check_number" sCheckNumber f fd) (FI : FnOk P w K mg base CX0 1 fI dI ["value"] (spIsInteger K)) (gI : mg "is_integer" = some (.ref fI)) (kI : PySem.W.keepIn K (.ref fI) = true) (bI : Binds K dI ["value"] []) :
    FnOk P w K mg base CX0 2 f fd ["value", "low", "high"] spCheckNumber := by
  refine F.ok scCheckNumber (fun vs H Q E h => ?_) (fun cdv A outer s H vs Q E hr h => ?_)
  · obtain ⟨i, lo, hi, rfl, _⟩ := h
    rfl
  · obtain ⟨i, lo, hi, rfl, h1, h2, h3, h4, q⟩ := h
    refine ⟨_, PSs.nox (pss_one (ps_if (PW.pt (pw_or (pt_not (pt_val (pe_call FI hr (by rfl) gI kI bI .nil pass0 (pa_cons (pv 0) pa_nil)))) (pw_or1 (pt_not (pt_chain op_le op_le (pv 1) (pv 0) (pv 2)))))) (pss_one ps_never) pss_nil)), ?_⟩
    refine ⟨_, rfl, _, rfl, trivial, _, rfl, ?_⟩
    have e : longV (.int i) = true := by
      show decide ((if i < 0 then -i else i) < (10 ^ 50) ^ 4) = true
      rw [if_neg (by omega)]
      exact decide_eq_true (Int.lt_of_le_of_lt (show i ≤ 100000 by omega) (by decide +kernel))
    rw [e]
    refine iteF ⟨_, rfl, _, rfl, _, _, rfl, rfl, _, rfl, ?_⟩
    rw [decide_eq_true h1]
    refine iteT ⟨_, rfl, _, _, rfl, rfl, _, rfl, ?_⟩
    rw [decide_eq_true h2]
    exact iteF q

theorem ok_ordered_words (F : FnP K "ordered_words" sOrderedWords f fd) (M : Free mg) (mA : mg "all" = none) (FL : FnOk P w K mg base CX0 2 fL dL ["letters"] spCheckLetters) (gL : mg "check_letters" = some (.ref fL)) (kL : PySem.W.keepIn K (.ref fL) = true) (bL : Binds K dL ["letters"] [])
    (FT : FnOk P w K mg base CX0 2 fT dT ["letters", "value"] (spIsWordOf K)) (gT : mg "_is_word_of" = some (.ref fT)) (kT : PySem.W.keepIn K (.ref fT) = true) (bT : Binds K dT ["letters", "value"] [])
    (FO : FnOk P w K mg base CX0 1 fO dO ["texts"] (spOrdered K)) (gO : mg "ordered" = some (.ref fO)) (kO : PySem.W.keepIn K (.ref fO) = true) (bO : Binds K dO ["texts"] []) :
    FnOk P w K mg base CX0 5 f fd ["letters", "words"] (spOrderedWords K) := by
  refine F.ok scOrderedWords (fun vs H Q E h => ?_) (fun cdv A outer s H vs Q E hr h => ?_)
  · obtain ⟨u, p, ys, rfl, _⟩ := h
    rfl
  · obtain ⟨x, p, ys, rfl, g, sq, all, few, q⟩ := h
    have hs : sizeLine = 16777216 := sizeLine_eq
    refine ⟨_, PSs.nox (pss_cons (ps_expr (pe_call FL (hr.mono (by decide)) (by rfl) gL kL bL .nil pass0 (pa_cons (pv 0) pa_nil)))
      (pss_cons (ps_if (pt_not (pt_val (pe_callB call_isi (by rfl) M.isi (by decide +kernel) (pa_cons (pv 1) (pa_cons (pe_bltn (v := .ty "tuple") (by rfl) M.tuple (by decide +kernel) rfl) pa_nil))))) (pss_one ps_never) pss_nil)
      (pss_cons (ps_if (pt_not (pt_val (pe_callB (cr_all rfl) (by rfl) mA (by decide +kernel) (pa_cons (pe_lc (own := [("word", 2)]) (g := gName 2) (tt := tYes) (te := tCall (spIsWordOf K) [] E0 (tCons (tVar 0) (tCons (tVar 2) tNil))) rfl scOrderedWords.nd (pi_tup (pv 1)) (blkOk_by (N := ["letters", "words", "word"]) (sc := defScope sOrderedWords) (by decide +kernel))
          (fun _ _ _ _ _ => pg_name (i := 2) scOrderedWords.nd rfl (Or.inl rfl)) (fun _ _ _ _ _ => pts_nil) (fun _ _ _ _ _ => by exact pe_call FT (hr.mono (by decide)) (by rfl) gT kT bT .nil pass0 (pa_cons (pv 0) (pa_cons (pv 2) pa_nil)))) pa_nil)))) (pss_one ps_never) pss_nil)
      (pss_one (ps_ret (pe_call FO (hr.mono (by decide)) (by rfl) gO kO bO .nil pass0 (pa_cons (pv 1) pa_nil))))))), ?_⟩
    refine ⟨_, rfl, _, rfl, g, fun H1 k => ?_⟩
    refine ⟨_, rfl, _, _, _, _, _, rfl, .ty "tuple", tyx_ext k (sqT_ty sq), rfl, _, rfl, iteF ?_⟩
    refine ⟨_, rfl, p, rfl, ⟨_, sqT_ext k sq⟩, fun D hD => ?_⟩
    refine lc_it walk_tup (fun i H2 => H2 D = some (.lst (((ys.take i).map fun y => wordV x 400 (.str y)).map V.bl)) ∧ Ext H1 H2) ⟨upd_same, (Ext.refl _).new hD⟩ (fun i H2 _ z => sqT_ext z.2 (sqT_ext k sq)) ?_ ?_
    · rintro i v H2 H3 hi ⟨f1, f2⟩ ⟨rfl, ex⟩
      rw [List.getElem?_map] at ex
      cases g1 : ys[i]? with
      | none => rw [g1] at ex; cases ex
      | some y =>
        rw [g1] at ex
        obtain rfl : V.str y = v := Option.some.inj ex
        refine ⟨rfl, _, rfl, _, rfl, x, .str y, rfl, (all y (List.mem_of_getElem? g1)).ask, ?_⟩
        refine ⟨_, f1, by rw [List.length_map, List.length_map]; have := List.length_take_le i ys; have := (List.getElem?_eq_some_iff.mp g1).1; omega, ?_, fun b u e => ?_⟩
        · rw [take_more g1, List.map_append, List.map_append]
          exact upd_same
        · rw [upd_ne (ne_of_none e hD)]
          exact f2 b u e
    · rintro H2 ⟨f1, f2⟩
      rw [List.length_map, List.take_length] at f1
      refine ⟨D, ys.map fun y => wordV x 400 (.str y), rfl, SqL.of f1, _, rfl, ?_⟩
      have e : ((ys.map fun y => wordV x 400 (.str y)).all id) = true := by
        rw [List.all_map, List.all_eq_true]
        exact fun y my => (all y my).2.2
      rw [e]
      have k2 := k.trans f2
      refine iteF ⟨_, rfl, _, ys, rfl, Or.inr ⟨p, rfl, Or.inl (sqT_ext k2 sq)⟩, few, fun y my => Nat.le_trans (all y my).1 (by decide), fun r H3 hr k3 e3 => ?_⟩
      refine q r H3 ?_ (k2.trans k3) e3
      cases z : H r with
      | none => rfl
      | some o =>
        rw [k2 _ _ z] at hr
        cases hr
end
end B3

/-! beginnings and ends of texts -/
namespace XSt
open PySem PySem.Spec PyProof.Rows L2
def cs (x : Str) : List Nat := x.cps.toList
theorem cs_inj {x y : Str} (h : cs x = cs y) : x = y := str_by h
theorem cs_len (x : Str) : (cs x).length = x.length := by
  unfold cs
  rw [Array.length_toList]
  rfl
theorem sub_list (x y : Str) (i : Nat) : Builtin.Str.subAt x y i = decide (((cs x).drop i).take y.length = cs y) := by
  unfold Builtin.Str.subAt
  apply Bool.eq_iff_iff.mpr
  rw [beq_iff_eq, decide_eq_true_eq]
  have e : (x.cps.extract i (i + y.length)).toList = ((cs x).drop i).take y.length := by
    rw [Array.toList_extract, List.extract_eq_take_drop]
    rw [Nat.add_sub_cancel_left]
    rfl
  constructor
  · intro h
    rw [← e, h]
    rfl
  · intro h
    apply Array.toList_inj.mp
    rw [e, h]
    rfl
theorem starts_iff {x y : Str} : Txt.startswith x y = true ↔ cs y <+: cs x := by
  unfold Txt.startswith
  rw [Bool.and_eq_true, decide_eq_true_eq, sub_list, decide_eq_true_eq, List.drop_zero, List.prefix_iff_eq_take, cs_len]
  constructor
  · rintro ⟨_, h⟩
    exact h.symm
  · intro h
    refine ⟨?_, h.symm⟩
    have z := congrArg List.length h
    rw [cs_len, List.length_take, cs_len] at z
    omega
theorem ends_iff {x y : Str} : Txt.endswith x y = true ↔ cs y <:+ cs x := by
  unfold Txt.endswith
  rw [Bool.and_eq_true, decide_eq_true_eq, sub_list, decide_eq_true_eq, List.suffix_iff_eq_drop, cs_len, cs_len]
  constructor
  · rintro ⟨h1, h⟩
    rw [← h, List.take_of_length_le]
    rw [List.length_drop, cs_len]
    omega
  · intro h
    have z := congrArg List.length h
    rw [cs_len, List.length_drop, cs_len] at z
    refine ⟨by omega, ?_⟩
    rw [← h, List.take_of_length_le (by rw [cs_len]; exact Nat.le_refl _)]
theorem cs_rev (x : Str) : cs (revS x) = (cs x).reverse := by
  unfold cs revS
  exact Array.toList_reverse
theorem rev_inj {x y : Str} (h : revS x = revS y) : x = y := by
  have z := congrArg cs h
  rw [cs_rev, cs_rev] at z
  exact cs_inj (List.reverse_inj.mp z)
theorem rev_len (x : Str) : (revS x).length = x.length := by
  rw [← cs_len, ← cs_len, cs_rev, List.length_reverse]
/-- some one begins the one behind it -/
def adjB (l : List Str) : Bool := (l.zip l.tail).any fun p => Txt.startswith p.2 p.1
/-- none begins another one -/
def NoPre (l : List Str) : Prop := ∀ x ∈ l, ∀ y ∈ l, x ≠ y → ¬ cs x <+: cs y
def NoSuf (l : List Str) : Prop := ∀ x ∈ l, ∀ y ∈ l, x ≠ y → ¬ cs x <:+ cs y
theorem pair_mem {l : List Str} {p : Str × Str} (h : p ∈ l.zip l.tail) : p.1 ∈ l ∧ p.2 ∈ l := by
  obtain ⟨a, b⟩ := List.of_mem_zip h
  exact ⟨a, List.mem_of_mem_tail b⟩
theorem pair_ne : ∀ {l : List Str} {p : Str × Str}, l.Nodup → p ∈ l.zip l.tail → p.1 ≠ p.2
  | [], _, _, h => by simp at h
  | [_], _, _, h => by simp at h
  | x :: y :: l, p, nd, h => by
    rw [List.tail_cons, List.zip_cons_cons] at h
    rcases List.mem_cons.mp h with e | h
    · subst e
      exact fun e => (List.nodup_cons.mp nd).1 (by rw [show x = y from e]; exact List.mem_cons_self ..)
    · exact pair_ne (List.nodup_cons.mp nd).2 h
theorem adj_none {l : List Str} (nd : l.Nodup) (h : NoPre l) : adjB l = false := by
  unfold adjB
  rw [List.any_eq_false]
  intro p m
  obtain ⟨a, b⟩ := pair_mem m
  intro z
  exact h _ a _ b (pair_ne nd m) (starts_iff.mp z)
theorem NoPre.perm {l m : List Str} (h : NoPre l) (e : ∀ x, x ∈ m ↔ x ∈ l) : NoPre m := fun x hx y hy n => h x ((e x).mp hx) y ((e y).mp hy) n
theorem NoSuf.perm {l m : List Str} (h : NoSuf l) (e : ∀ x, x ∈ m ↔ x ∈ l) : NoSuf m := fun x hx y hy n => h x ((e x).mp hx) y ((e y).mp hy) n
theorem NoSuf.rev {l : List Str} (h : NoSuf l) : NoPre (l.map revS) := by
  intro x hx y hy n z
  obtain ⟨a, ha, rfl⟩ := List.mem_map.mp hx
  obtain ⟨b, hb, rfl⟩ := List.mem_map.mp hy
  rw [cs_rev, cs_rev, List.reverse_prefix] at z
  exact h a ha b hb (fun e => n (by rw [e])) z
theorem nodup_rev {l : List Str} (h : l.Nodup) : (l.map revS).Nodup := by
  refine List.pairwise_map.mpr (h.imp fun {a b} n e => n (rev_inj e))
theorem ordT_nodup (l : List Str) : (ordT l).Nodup := ((List.mergeSort_perm _ _).nodup_iff).mpr (nodup_once l)
theorem ordT_len (l : List Str) : (ordT l).length ≤ l.length := by
  unfold ordT
  rw [List.length_mergeSort]
  exact once_len l

def rStarts : V → List V → Hp → VK → Prop := fun x xs H Q => ∃ a b, x = .str a ∧ xs = [.str b] ∧ Q (.bl (Txt.startswith a b)) H
theorem mt_starts {X : Cx} : MtR X "str.startswith" rStarts := mt_startswith
def rEnds : V → List V → Hp → VK → Prop := fun x xs H Q => ∃ a b, x = .str a ∧ xs = [.str b] ∧ Q (.bl (Txt.endswith a b)) H
theorem mt_ends {X : Cx} : MtR X "str.endswith" rEnds := mt_endswith
theorem cut_one (xs : List V) : cutV xs (some 1) none = xs.drop 1 := by
  unfold cutV
  have e1 : HT.sIx xs.length 0 (some 1) = min 1 xs.length := HT.sIx_nat xs.length 0 1
  rw [e1, HT.sIx_none]
  cases xs with
  | nil => rfl
  | cons x r =>
    have e2 : min 1 (x :: r).length = 1 := by
      rw [List.length_cons]
      omega
    rw [e2]
    simp
end XSt

/-! whether words clash -/
namespace B3
open PySem PySem.Spec PyProof.Rows L2 XSt NX XB
open PySem.W (Frag)
abbrev sSomeBegins : Stmt := top 25
abbrev sFirstClash : Stmt := top 24
def spSomeBegins (K : Frag) : Sp := fun vs H Q _ => ∃ (p : Addr) (ks : List Str), vs = [.ref p] ∧ (SqL K H p (ks.map V.str) ∨ SqT K H p (ks.map V.str)) ∧ ks.length ≤ 4096 ∧ ∀ H', Ext H H' → Q (.bl (adjB (ks.mergeSort sLe))) H'
/-- where no two clash -/
def spNoClash (K : Frag) : Sp := fun vs H Q _ => ∃ (p : Addr) (ks : List Str), vs = [.ref p] ∧ SqT K H p (ks.map V.str) ∧ ks.length ≤ 4096 ∧ (∀ k ∈ ks, k.length ≤ 4096) ∧ ks.Nodup ∧ NoPre ks ∧ NoSuf ks ∧ ∀ H', Ext H H' → Q .non H'
theorem free_back {H H' : Hp} (k : Ext H H') {p : Addr} (h : H' p = none) : H p = none := by
  cases e : H p with
  | none => rfl
  | some o =>
    rw [k _ _ e] at h
    cases h
section
variable {P : Program} {w : World} {K : Frag} {mg : Str → Option Value} {base : Heap} {f fS : Addr} {fd dS : FuncData}
theorem scSomeBegins : FnScope ["words", "rows", "word", "behind"] ["words"] (defScope sSomeBegins) := ⟨rfl, rfl, rfl, by decide +kernel, rfl, by decide +kernel, by decide +kernel⟩
theorem scFirstClash : FnScope ["words", "word", "at", "one", "other"] ["words"] (defScope sFirstClash) := ⟨rfl, rfl, rfl, by decide +kernel, rfl, by decide +kernel, by decide +kernel⟩
theorem ok_some_begins (F : FnP K "_some_begins" sSomeBegins f fd) (M : Free mg) (mA : mg "any" = none) (mZ : mg "zip" = none) : FnOk P w K mg base CX0 1 f fd ["words"] (spSomeBegins K) := by
  refine F.ok scSomeBegins (fun vs H Q E h => ?_) (fun cdv A outer s H vs Q E hr h => ?_)
  · obtain ⟨p, ks, rfl, _⟩ := h
    rfl
  · obtain ⟨p, ks, rfl, sq, few, q⟩ := h
    have hs : sizeLine = 16777216 := sizeLine_eq
    refine ⟨_, PSs.nox (pss_cons (ps_set (i := 1) scSomeBegins.nd rfl (.inl rfl) (pe_callB (cr_sortT hr.units) (by rfl) M.sorted (by decide +kernel) (pa_cons (pv 0) pa_nil)))
      (pss_one (ps_ret (pe_callB (cr_any rfl) (by rfl) mA (by decide +kernel) (pa_cons (pe_lc (own := [("word", 2), ("behind", 3)]) (g := gTup K 2 (gCons (gName 2) (gCons (gName 3) gNil))) (tt := tYes) (te := tBM K "str" rStarts (tVar 3) (tCons (tVar 2) tNil)) rfl scSomeBegins.nd
        (pi_zip (by rfl) mZ (pa_cons (pv 1) (pa_cons (pe_slice sl_list (pv 1) (po_some pe_int) po_none) pa_nil)))
        (blkOk_by (N := ["words", "rows", "word", "behind"]) (sc := defScope sSomeBegins) (by decide +kernel))
        (fun _ _ _ _ _ => by exact pg_tup (by rfl) (pgs_cons (pg_name (i := 2) scSomeBegins.nd rfl (Or.inl rfl)) (pgs_cons (pg_name (i := 3) scSomeBegins.nd rfl (Or.inl rfl)) pgs_nil)))
        (fun _ _ _ _ _ => pts_nil) (fun _ _ _ _ _ => by exact pe_bm PySem.F.plainAttrs_str PySem.F.slot_str_startswith PySem.F.type_str_startswith mt_starts (pv 3) (pa_cons (pv 2) pa_nil))) pa_nil))))), ?_⟩
    refine ⟨_, rfl, p, ks, rfl, sq, by omega, fun r hr0 => ?_⟩
    have ext1 : Ext H (upd H r (.lst ((ks.mergeSort sLe).map V.str))) := (Ext.refl H).new hr0
    have e1 : (upd H r (.lst ((ks.mergeSort sLe).map V.str))) r = some (.lst ((ks.mergeSort sLe).map V.str)) := upd_same
    have len1 : (ks.mergeSort sLe).length = ks.length := List.length_mergeSort _
    generalize ks.mergeSort sLe = l at ext1 e1 len1 q ⊢
    generalize upd H r (.lst (l.map V.str)) = H1 at ext1 e1 ⊢
    refine ⟨_, rfl, _, rfl, 1, rfl, r, _, rfl, SqL.of e1, fun c hc => ?_⟩
    rw [cut_one]
    have ext2 : Ext H1 (upd H1 c (.lst ((l.map V.str).drop 1))) := (Ext.refl H1).new hc
    have e2 : (upd H1 c (.lst ((l.map V.str).drop 1))) c = some (.lst (l.tail.map V.str)) := by
      rw [List.drop_one, ← List.map_tail]
      exact upd_same
    generalize upd H1 c (.lst ((l.map V.str).drop 1)) = H2 at ext2 e2 ⊢
    refine ⟨r, c, l.map V.str, l.tail.map V.str, rfl, SqL.of (ext2 _ _ e1), SqL.of e2, fun D hD => ?_⟩
    have zl : (l.zip l.tail).length = min (l.map V.str).length (l.tail.map V.str).length := by
      rw [List.length_zip, List.length_map, List.length_map]
    refine lc_it (walk_zip zl) (fun i H3 => H3 D = some (.lst (((l.zip l.tail).take i).map fun p => V.bl (Txt.startswith p.2 p.1))) ∧ Ext H2 H3) ⟨upd_same, (Ext.refl _).new hD⟩ (fun i H3 _ z => ⟨SqL.of (z.2 _ _ (ext2 _ _ e1)), SqL.of (z.2 _ _ e2)⟩) ?_ ?_
    · rintro i x H3 H4 hi ⟨f1, f2⟩ ⟨T, u, v, rfl, hT, rfl, gu, gv⟩
      have gu : (l.map V.str)[i]? = some u := gu
      have gv : (l.tail.map V.str)[i]? = some v := gv
      rw [List.getElem?_map] at gu gv
      cases g1 : l[i]? with
      | none => rw [g1] at gu; cases gu
      | some a =>
        cases g2 : l.tail[i]? with
        | none => rw [g2] at gv; cases gv
        | some b =>
          rw [g1] at gu
          rw [g2] at gv
          obtain rfl := Option.some.inj gu
          obtain rfl := Option.some.inj gv
          have gz : (l.zip l.tail)[i]? = some (a, b) := by
            rw [List.getElem?_zip_eq_some]
            exact ⟨g1, g2⟩
          have nTD : D ≠ T := ne_of_none f1 hT
          refine ⟨T, _, rfl, SqT.of upd_same, rfl, _, _, rfl, _, _, rfl, rfl, rfl, ?_⟩
          refine ⟨_, rfl, rfl, _, rfl, b, a, rfl, rfl, ?_⟩
          refine ⟨_, by rw [upd_ne nTD]; exact f1, by rw [List.length_map]; have h8 := List.length_take_le i (l.zip l.tail); have h9 : (l.zip l.tail).length ≤ l.length := (by rw [List.length_zip]; exact Nat.min_le_left _ _); omega, ?_, fun z o e => ?_⟩
          · rw [take_more gz, List.map_append]
            exact upd_same
          · have y := f2 z o e
            rw [upd_ne (ne_of_none e hD), upd_ne (ne_of_none y hT)]
            exact y
    · rintro H3 ⟨f1, f2⟩
      rw [List.take_length] at f1
      refine ⟨D, (l.zip l.tail).map fun p => Txt.startswith p.2 p.1, rfl, SqL.of (by rw [List.map_map]; exact f1), ?_⟩
      have e3 : ((l.zip l.tail).map fun p => Txt.startswith p.2 p.1).any id = adjB l := by
        unfold adjB
        rw [List.any_map]
        rfl
      rw [e3]
      exact q _ ((ext1.trans ext2).trans f2)

theorem ok_no_clash (F : FnP K "first_clash" sFirstClash f fd) (FS : FnOk P w K mg base CX0 1 fS dS ["words"] (spSomeBegins K)) (gS : mg "_some_begins" = some (.ref fS)) (kS : PySem.W.keepIn K (.ref fS) = true) (bS : Binds K dS ["words"] []) :
    FnOk P w K mg base CX0 2 f fd ["words"] (spNoClash K) := by
  refine F.ok scFirstClash (fun vs H Q E h => ?_) (fun cdv A outer s H vs Q E hr h => ?_)
  · obtain ⟨p, ks, rfl, _⟩ := h
    rfl
  · obtain ⟨p, ks, rfl, sq, few, short, nd, np, ns, q⟩ := h
    have hs : sizeLine = 16777216 := sizeLine_eq
    refine ⟨_, PSs.nox (pss_cons (ps_if (PW.pt (pw_and (pt_not (pt_val (pe_call FS hr (by rfl) gS kS bS .nil pass0 (pa_cons (pv 0) pa_nil)))) (pw_and1 (pt_not (pt_val (pe_call FS hr (by rfl) gS kS bS .nil pass0
        (pa_cons (pe_lc (own := [("word", 1)]) (g := gName 1) (tt := tYes) (te := tRevS (tVar 1)) rfl scFirstClash.nd (pi_tup (pv 0)) (blkOk_by (N := ["words", "word", "at", "one", "other"]) (sc := defScope sFirstClash) (by decide +kernel))
          (fun _ _ _ _ _ => pg_name (i := 1) scFirstClash.nd rfl (Or.inl rfl)) (fun _ _ _ _ _ => pts_nil) (fun _ _ _ _ _ => by exact pe_revS (pv 1))) pa_nil))))))) (pss_one (ps_ret pe_non)) pss_nil)
      (pss_cons ps_never (pss_one ps_never))), ?_⟩
    refine ⟨_, rfl, p, ks, rfl, Or.inr sq, few, fun H1 k1 => ⟨_, rfl, ?_⟩⟩
    have a1 : adjB (ks.mergeSort sLe) = false := adj_none ((List.mergeSort_perm _ _).nodup_iff.mpr nd) (np.perm fun x => (List.mergeSort_perm _ _).mem_iff)
    rw [a1]
    refine iteT ⟨_, rfl, p, rfl, ⟨_, sqT_ext k1 sq⟩, fun D hD => ?_⟩
    refine lc_it walk_tup (fun i H2 => H2 D = some (.lst (((ks.take i).map revS).map V.str)) ∧ Ext H1 H2) ⟨upd_same, (Ext.refl _).new hD⟩ (fun i H2 _ z => sqT_ext z.2 (sqT_ext k1 sq)) ?_ ?_
    · rintro i x H2 H3 hi ⟨f1, f2⟩ ⟨rfl, ex⟩
      rw [List.getElem?_map] at ex
      cases g : ks[i]? with
      | none => rw [g] at ex; cases ex
      | some k =>
        rw [g] at ex
        obtain rfl : V.str k = x := Option.some.inj ex
        have sk := short k (List.mem_of_getElem? g)
        refine ⟨rfl, _, rfl, k, rfl, by omega, ?_⟩
        refine ⟨_, f1, by rw [List.length_map, List.length_map]; have := List.length_take_le i ks; rw [List.length_map] at hi; omega, ?_, fun b u e => ?_⟩
        · rw [take_more g, List.map_append, List.map_append]
          exact upd_same
        · rw [upd_ne (ne_of_none e hD)]
          exact f2 b u e
    · rintro H2 ⟨f1, f2⟩
      rw [List.length_map, List.take_length] at f1
      refine ⟨D, ks.map revS, rfl, Or.inl (SqL.of f1), by rw [List.length_map]; exact few, fun H3 k3 => ⟨_, rfl, ?_⟩⟩
      have a2 : adjB ((ks.map revS).mergeSort sLe) = false := adj_none ((List.mergeSort_perm _ _).nodup_iff.mpr (nodup_rev nd)) (ns.rev.perm fun x => (List.mergeSort_perm _ _).mem_iff)
      rw [a2]
      exact iteT (q _ ((k1.trans f2).trans k3))
end
end B3

/-! texts as data -/
namespace XSt
open PySem PySem.Spec PyProof.Rows L2
open PySem.W (Frag)
/-! lists of texts as data -/
theorem dpa_txt {K : Frag} {H : Hp} : ∀ l : List Str, DpAll K H (l.map V.str) (l.map PyData.str)
  | [] => .nil
  | x :: l => .cons (.str x) (dpa_txt l)
theorem txt_can : ∀ l : List Str, (∀ x ∈ l, PyData.strOk x = true) → PyData.canLayAll0 (l.map PyData.str) = true
  | [], _ => by simp [PyData.canLayAll0]
  | x :: l, h => by
    rw [List.map_cons, PyData.canLayAll0, txt_can l fun y m => h y (List.mem_cons_of_mem _ m)]
    simp [PyData.canLay0, h x (List.mem_cons_self ..)]
theorem txt_depth : ∀ l : List Str, PyData.depthAll (l.map PyData.str) = 0
  | [] => by simp [PyData.depthAll]
  | x :: l => by
    rw [List.map_cons, PyData.depthAll, txt_depth l]
    simp [PyData.depth]
theorem txt_shaped {l : List Str} (h : ∀ x ∈ l, PyData.strOk x = true) : SeqAt.shaped (.list (l.map PyData.str)) = true := by
  unfold SeqAt.shaped
  rw [Bool.and_eq_true, decide_eq_true_eq]
  refine ⟨?_, ?_⟩
  · show PyData.canLayAll0 _ = true
    exact txt_can l h
  · rw [PyData.depth, txt_depth]
    omega
theorem txt_shapedT {l : List Str} (h : ∀ x ∈ l, PyData.strOk x = true) : SeqAt.shaped (.tuple (l.map PyData.str)) = true := by
  unfold SeqAt.shaped
  rw [Bool.and_eq_true, decide_eq_true_eq]
  refine ⟨?_, ?_⟩
  · show PyData.canLayAll0 _ = true
    exact txt_can l h
  · rw [PyData.depth, txt_depth]
    omega
theorem txt_nil (l : List Str) : PyData.eqv (.list (l.map PyData.str)) (.list []) = l.isEmpty := by
  cases l <;> simp [PyData.eqv, PyData.eqvAll]


theorem txt_eqvAll : ∀ xs ys : List Str, PyData.eqvAll (xs.map PyData.str) (ys.map PyData.str) = decide (xs = ys)
  | [], [] => by simp [PyData.eqvAll]
  | [], _ :: _ => by simp [PyData.eqvAll]
  | _ :: _, [] => by simp [PyData.eqvAll]
  | x :: xs, y :: ys => by
    have ih := txt_eqvAll xs ys
    have e : (x == y) = decide (x = y) := by
      apply Bool.eq_iff_iff.mpr
      rw [beq_iff_eq, decide_eq_true_eq]
    simp only [List.map_cons, PyData.eqvAll, PyData.eqv, ih, List.cons.injEq, Bool.decide_and, e]
theorem txt_eqvT (xs ys : List Str) : PyData.eqv (.tuple (xs.map PyData.str)) (.tuple (ys.map PyData.str)) = decide (xs = ys) := by
  simp only [PyData.eqv]
  exact txt_eqvAll xs ys
theorem txt_eqvL (xs ys : List Str) : PyData.eqv (.list (xs.map PyData.str)) (.list (ys.map PyData.str)) = decide (xs = ys) := by
  simp only [PyData.eqv]
  exact txt_eqvAll xs ys
/-- a small number as a text -/
def numS (n : Nat) : Str := toString (n : Int)
theorem numS_len {n : Nat} (h : n ≤ 4096) : (numS n).length ≤ 6 := by
  unfold numS
  rw [PySem.ofString_length]
  exact int_text_length_le10 (k := 5) (by decide) (by show n < 10 ^ 5; omega)
theorem log_small {n : Nat} (h : n ≤ 4096) : ((n : Int)).natAbs.log2 < 1920 := by
  show n.log2 < 1920
  by_cases z : n = 0
  · rw [z]
    decide
  · exact (Nat.log2_lt z).mpr (Nat.lt_of_le_of_lt h (by decide +kernel))
theorem app_len (a b : Str) : (a ++ b).length = a.length + b.length := PySem.Str.length_append a b
end XSt

/-! books -/
namespace B3
open PySem PySem.Spec PyProof.Rows L2 XSt NX XB
open PySem.W (Frag)
abbrev sBook : Stmt := top 23
abbrev sInit : Stmt := inClass sBook 0
abbrev sGetLetters : Stmt := inClass sBook 2
abbrev sGetWords : Stmt := inClass sBook 3
abbrev sGetLongest : Stmt := inClass sBook 4
abbrev sHas : Stmt := inClass sBook 5
abbrev sAt : Stmt := inClass sBook 6
abbrev sLen : Stmt := inClass sBook 7
abbrev sEq : Stmt := inClass sBook 9
abbrev sStr : Stmt := inClass sBook 10
abbrev FnM (K : Frag) (x q : Str) (st : Stmt) (f : Addr) (fd : FuncData) : Prop := FunD K x q (defArgs st) (defBody st) (defScope st) [] [] f fd
/-- what the text has of the class -/
structure BookK (K : Frag) (C : Addr) : Prop where
  cls : Cls K C
  nl : NoAttr K C "_letters"
  nw : NoAttr K C "_words"
  nk : NoAttr K C "_known"
  c1 : PySem.W.findIn K (.ref C) "__class__" = some (some (.builtin "object.__class__"))
  c2 : PySem.W.specialIn K (.builtin "object.__class__") "__get__" = some (some (.builtin "getset_descriptor.__get__"))
  c3 : PySem.W.takesIn K (.builtin "object.__class__") = some true
  c4 : PySem.W.mroIn K C (.type "object") = some true
  own : PySem.W.kitOne K (.ref C) (.ref C) = some true
  noStr : PySem.W.kitOne K (.ref C) (.type "str") = some false
  others : ∀ T ∈ (["NoneType", "int", "bool", "str", "tuple", "list", "dict"] : List String), PySem.W.kitOne K (.type T) (.ref C) = some false ∧ PySem.W.notFirst K C (.type T) = true
def bookF (x : Str) (p d : Addr) : List (Str × V) := [("_letters", .str x), ("_words", .ref p), ("_known", .ref d)]
def knownK (ws : List Str) : List (L2.Key × V) := ws.map fun k => (Sum.inr k, .bl true)
/-- at b: the book of the letters x and the set ws -/
def BookAt (H : Hp) (b C : Addr) (x : Str) (ws : List Str) : Prop := ∃ dx p d, H b = some (.ins C dx (bookF x p d)) ∧ H p = some (.tup (ws.map V.str)) ∧ H d = some (.dK (knownK ws))
theorem BookAt.ext {H H' : Hp} (k : Ext H H') {b C : Addr} {x : Str} {ws : List Str} (h : BookAt H b C x ws) : BookAt H' b C x ws := by
  obtain ⟨dx, p, d, h1, h2, h3⟩ := h
  exact ⟨dx, p, d, k _ _ h1, k _ _ h2, k _ _ h3⟩
theorem BookAt.ty {K : Frag} {H : Hp} {b C : Addr} {x : Str} {ws : List Str} (B : BookK K C) (h : BookAt H b C x ws) : TyX K H (.ref b) (.ref C) := by
  obtain ⟨dx, p, d, h1, h2, h3⟩ := h
  exact .base (.ins h1 B.cls B.c1 B.c2 B.c3 B.c4)
theorem fresh_take : ∀ {ws : List Str} {i : Nat} {k : Str}, ws.Nodup → ws[i]? = some k → ¬ k ∈ ws.take i
  | [], _, _, _, g => by simp at g
  | w :: ws, 0, k, nd, g => by simp
  | w :: ws, i + 1, k, nd, g => by
    have g' : ws[i]? = some k := by simpa using g
    rw [List.take_succ_cons]
    intro m
    rcases List.mem_cons.mp m with e | m
    · exact (List.nodup_cons.mp nd).1 (e ▸ List.mem_of_getElem? g')
    · exact fresh_take (List.nodup_cons.mp nd).2 g' m
theorem known_val (z : Str) : ∀ ws : List Str, (valV (knownK ws) (Sum.inr z)).isSome = decide (z ∈ ws)
  | [] => rfl
  | k :: ws => by
    have ih := known_val z ws
    show (valV ((Sum.inr k, V.bl true) :: knownK ws) (Sum.inr z)).isSome = _
    by_cases e : k = z
    · rw [valV_pos (p := (Sum.inr k, V.bl true)) (by rw [e]), e]
      simp
    · rw [valV_neg (p := (Sum.inr k, V.bl true)) (fun y => e (Sum.inr.inj y)), ih]
      have n : ¬ z = k := fun y => e y.symm
      simp [n]
def spInit (K : Frag) (C : Addr) : Sp := fun vs H Q _ => ∃ (b dx p : Addr) (x : Str) (ys : List Str), vs = [.ref b, .str x, .ref p] ∧ H b = some (.ins C dx []) ∧ GoodL x ∧ SqT K H p (ys.map V.str) ∧ p ≠ b ∧ (∀ y ∈ ys, GoodW x y) ∧ ys.length < 4096 ∧ (ordT ys).length ≤ 400 ∧ NoPre ys ∧ NoSuf ys ∧
  ∀ H', (∀ c o, c ≠ b → H c = some o → H' c = some o) → BookAt H' b C x (ordT ys) → Q .non H'
def spLetters (C : Addr) : Sp := fun vs H Q _ => ∃ b x ws, vs = [.ref b] ∧ BookAt H b C x ws ∧ Q (.str x) H
def spWords (C : Addr) : Sp := fun vs H Q _ => ∃ b x ws, vs = [.ref b] ∧ BookAt H b C x ws ∧ ∀ p, H p = some (.tup (ws.map V.str)) → Q (.ref p) H
def lastLen (ws : List Str) : Nat := ((ws.getLast?).map (·.length)).getD 0
def spLongest (C : Addr) : Sp := fun vs H Q _ => ∃ b x ws, vs = [.ref b] ∧ BookAt H b C x ws ∧ (∀ k ∈ ws, k.length ≤ 400) ∧ Q (.int (lastLen ws : Nat)) H
def inBook (ws : List Str) : V → Bool
  | .str z => decide (z ∈ ws)
  | _ => false
/-- what may be asked about: a value of another kind, or a book -/
def AskB (K : Frag) (H : Hp) (C : Addr) (v : V) : Prop := Asked K H v ∨ ∃ b x ws, v = .ref b ∧ BookAt H b C x ws
def spHas (K : Frag) (C : Addr) : Sp := fun vs H Q _ => ∃ b x ws v, vs = [.ref b, v] ∧ BookAt H b C x ws ∧ AskB K H C v ∧ Q (.bl (inBook ws v)) H
def spAt (C : Addr) : Sp := fun vs H Q _ => ∃ b x ws k, ∃ i : Nat, vs = [.ref b, .int (i : Int)] ∧ BookAt H b C x ws ∧ ws.length ≤ 4096 ∧ ws[i]? = some k ∧ Q (.str k) H
def spLen (C : Addr) : Sp := fun vs H Q _ => ∃ b x ws, vs = [.ref b] ∧ BookAt H b C x ws ∧ ws.length ≤ 4096 ∧ Q (.int (ws.length : Nat)) H
/-- a value that is no book -/
inductive NoBook (K : Frag) (H : Hp) : V → Prop where
  | non : NoBook K H .non
  | bl (b : Bool) : NoBook K H (.bl b)
  | int (i : Int) : NoBook K H (.int i)
  | str (z : Str) : NoBook K H (.str z)
  | seq {a : Addr} {T : String} (h : TyX K H (.ref a) (.type T)) (m : T ∈ (["tuple", "list", "dict"] : List String)) : NoBook K H (.ref a)
def spEq (K : Frag) (C : Addr) : Sp := fun vs H Q _ => ∃ b x ws, ∃ v, vs = [.ref b, v] ∧ BookAt H b C x ws ∧ ws.length ≤ 4096 ∧ (∀ k ∈ ws, PyData.strOk k = true) ∧
  ((NoBook K H v ∧ Q (.bl false) H) ∨ ∃ b' y zs, v = .ref b' ∧ BookAt H b' C y zs ∧ zs.length ≤ 4096 ∧ (∀ k ∈ zs, PyData.strOk k = true) ∧ Q (.bl (decide (x = y) && decide (ws = zs))) H)
def told (n : Nat) (x : Str) : Str := Str.empty ++ Str.ofString "book of " ++ numS n ++ Str.ofString " words over " ++ x
def spStr (C : Addr) : Sp := fun vs H Q _ => ∃ b x ws, vs = [.ref b] ∧ BookAt H b C x ws ∧ ws.length ≤ 4096 ∧ x.length ≤ 8000 ∧ Q (.str (told ws.length x)) H
theorem noBook_ty {K : Frag} {H : Hp} {v : V} (h : NoBook K H v) : ∃ T ∈ (["NoneType", "int", "bool", "str", "tuple", "list", "dict"] : List String), TyX K H v (.type T) := by
  cases h with
  | non => exact ⟨_, by simp, .base .non⟩
  | bl b => exact ⟨"bool", by simp, .base (.bl b)⟩
  | int i => exact ⟨"int", by simp, .base (.int i)⟩
  | str z => exact ⟨"str", by simp, .base (.str z)⟩
  | seq h m => exact ⟨_, by simp only [List.mem_cons, List.not_mem_nil, or_false] at m ⊢; rcases m with rfl | rfl | rfl <;> simp, h⟩
theorem last_ix {ws : List Str} {k : Str} (h : ws.getLast? = some k) : atI (ws.map V.str) (-1) = some (.str k) := by
  have ne : ws ≠ [] := fun e => by rw [e] at h; cases h
  have pos : 0 < ws.length := List.length_pos_iff.mpr ne
  have z : ixN (ws.map V.str).length (-1) = some (ws.length - 1) := by
    rw [List.length_map]
    unfold ixN
    rw [if_neg (by decide), if_pos (by omega)]
    congr 1
    omega
  unfold atI
  rw [z]
  show (ws.map V.str)[ws.length - 1]? = _
  rw [List.getElem?_map, ← List.getLast?_eq_getElem?, h]
  rfl
section
variable {P : Program} {w : World} {K : Frag} {mg : Str → Option Value} {base : Heap} {f fO fC fN C : Addr} {fd dO dC dN : FuncData}
theorem scInit : FnScope ["self", "letters", "words", "different", "clash", "word"] ["self", "letters", "words"] (defScope sInit) := ⟨rfl, rfl, rfl, by decide +kernel, rfl, by decide +kernel, by decide +kernel⟩
theorem scGetLetters : FnScope ["self"] ["self"] (defScope sGetLetters) := ⟨rfl, rfl, rfl, by decide +kernel, rfl, by decide +kernel, by decide +kernel⟩
theorem scGetWords : FnScope ["self"] ["self"] (defScope sGetWords) := ⟨rfl, rfl, rfl, by decide +kernel, rfl, by decide +kernel, by decide +kernel⟩
theorem scGetLongest : FnScope ["self"] ["self"] (defScope sGetLongest) := ⟨rfl, rfl, rfl, by decide +kernel, rfl, by decide +kernel, by decide +kernel⟩
theorem scHas : FnScope ["self", "value"] ["self", "value"] (defScope sHas) := ⟨rfl, rfl, rfl, by decide +kernel, rfl, by decide +kernel, by decide +kernel⟩
theorem scAt : FnScope ["self", "index"] ["self", "index"] (defScope sAt) := ⟨rfl, rfl, rfl, by decide +kernel, rfl, by decide +kernel, by decide +kernel⟩
theorem scLen : FnScope ["self"] ["self"] (defScope sLen) := ⟨rfl, rfl, rfl, by decide +kernel, rfl, by decide +kernel, by decide +kernel⟩
theorem scEq : FnScope ["self", "other"] ["self", "other"] (defScope sEq) := ⟨rfl, rfl, rfl, by decide +kernel, rfl, by decide +kernel, by decide +kernel⟩
theorem scStr : FnScope ["self"] ["self"] (defScope sStr) := ⟨rfl, rfl, rfl, by decide +kernel, rfl, by decide +kernel, by decide +kernel⟩

theorem ok_init (F : FnM K "__init__" "Book.__init__" sInit f fd) (B : BookK K C) (M : Free mg) (gW : ∃ t, mg "MAX_WORDS" = some (.int 400 t))
    (FO : FnOk P w K mg base CX0 5 fO dO ["letters", "words"] (spOrderedWords K)) (gO : mg "ordered_words" = some (.ref fO)) (kO : PySem.W.keepIn K (.ref fO) = true) (bO : Binds K dO ["letters", "words"] [])
    (FC : FnOk P w K mg base CX0 2 fC dC ["words"] (spNoClash K)) (gC : mg "first_clash" = some (.ref fC)) (kC : PySem.W.keepIn K (.ref fC) = true) (bC : Binds K dC ["words"] []) :
    FnOk P w K mg base CX0 6 f fd ["self", "letters", "words"] (spInit K C) := by
  obtain ⟨tk, gW⟩ := gW
  refine F.ok scInit (fun vs H Q E h => ?_) (fun cdv A outer s H vs Q E hr h => ?_)
  · obtain ⟨b, dx, p, x, ys, rfl, _⟩ := h
    rfl
  · obtain ⟨b, dx, p, x, ys, rfl, eb, gl, sq, npb, gw, few, lim, np, ns, q⟩ := h
    have hs : sizeLine = 16777216 := sizeLine_eq
    refine ⟨_, PSs.nox (pss_cons (ps_set (i := 3) scInit.nd rfl (.inl rfl) (pe_call FO hr (by rfl) gO kO bO .nil pass0 (pa_cons (pv 1) (pa_cons (pv 2) pa_nil))))
      (pss_cons (ps_if (pt_cmpR op_gt (pe_callB call_len_seq (by rfl) M.len PySem.boot_len (pa_cons (pv 3) pa_nil)) (pe_glob (v := .int 400) (by rfl) gW ⟨tk, rfl⟩) (nomark _)) (pss_one ps_never) pss_nil)
      (pss_cons (ps_set (i := 4) scInit.nd rfl (.inl rfl) (pe_call FC (hr.mono (by decide)) (by rfl) gC kC bC .nil pass0 (pa_cons (pv 3) pa_nil)))
      (pss_cons (ps_if (pt_cmpR op_notN (pv 4) pe_non (nomark _)) (pss_one ps_never) pss_nil)
      (pss_cons (ps_fld (pv 0) (pv 1) rfl) (pss_cons (ps_fld (pv 0) (pv 3) rfl)
      (pss_one (ps_fld (pv 0) (pe_dc (own := [("word", 5)]) (g := gName 5) (tt := tYes) (tk := tVar 5) (tv := tC (.bl true)) rfl scInit.nd (pi_tup (pv 3)) (blkOk_by (N := ["self", "letters", "words", "different", "clash", "word"]) (sc := defScope sInit) (by decide +kernel))
        (fun _ _ _ _ _ => pg_name (i := 5) scInit.nd rfl (Or.inl rfl)) (fun _ _ _ _ _ => pts_nil) (fun _ _ _ _ _ => pv 5) (fun _ _ _ _ _ => pe_bl)) rfl)))))))), ?_⟩
    refine ⟨_, rfl, _, rfl, x, p, ys, rfl, gl, sq, gw, few, fun d H1 hd k1 e1 => ?_⟩
    have eb1 := k1 _ _ eb
    have nbd : d ≠ b := fun z => by
      rw [z, eb] at hd
      cases hd
    refine ⟨_, rfl, d, _, rfl, .inr (SqT.of e1), _, _, rfl, rfl, _, rfl, ?_⟩
    rw [List.length_map, decide_eq_false (show ¬ (((ordT ys).length : Int) > 400) by omega)]
    refine iteF ⟨_, rfl, d, ordT ys, rfl, SqT.of e1, by omega, fun k m => Nat.le_trans (gw k (ordT_mem.mp m)).1 (by decide), ordT_nodup ys, np.perm (fun _ => ordT_mem), ns.perm (fun _ => ordT_mem), fun H2 k2 => ?_⟩
    have eb2 := k2 _ _ eb1
    have e2 := k2 _ _ e1
    refine ⟨.non, rfl, rfl, _, rfl, iteF ?_⟩
    refine ⟨_, rfl, _, rfl, b, C, dx, [], rfl, eb2, B.cls, B.nl, by decide, ?_⟩
    refine ⟨_, rfl, _, rfl, b, C, dx, [("_letters", .str x)], rfl, upd_same, B.cls, B.nw, (by show 1 < 1000; decide), ?_⟩
    generalize eH3 : upd (upd H2 b (.ins C dx (putF "_letters" (.str x) []))) b (.ins C dx (putF "_words" (.ref d) [("_letters", .str x)])) = H3
    have off : ∀ c o, c ≠ b → H c = some o → H3 c = some o := fun c o n e => by
      rw [← eH3, upd_ne n, upd_ne n]
      exact k2 _ _ (k1 _ _ e)
    have e3 : H3 d = some (.tup ((ordT ys).map V.str)) := by
      rw [← eH3, upd_ne nbd, upd_ne nbd]
      exact e2
    have eb3 : H3 b = some (.ins C dx [("_letters", .str x), ("_words", .ref d)]) := by
      rw [← eH3]
      exact upd_same
    refine ⟨_, rfl, d, rfl, ⟨_, SqT.of e3⟩, fun D hD => ?_⟩
    have nDd : d ≠ D := ne_of_none e3 hD
    have nDb : b ≠ D := ne_of_none eb3 hD
    have nd := ordT_nodup ys
    have inW : ∀ k, k ∈ ordT ys → k ∈ ys := fun k m => ordT_mem.mp m
    generalize ordT ys = ws at e3 lim nd q inW ⊢
    refine dc_tup (K := K) (a := d) (xs := ws.map V.str) (fun i H4 => H4 D = some (.dK (knownK (ws.take i))) ∧ Ext H3 H4) ⟨upd_same, (Ext.refl _).new hD⟩ (fun i H4 _ z => SqT.of (z.2 _ _ e3)) ?_ ?_
    · rintro i v H4 ev ⟨f1, f2⟩
      rw [List.getElem?_map] at ev
      cases g : ws[i]? with
      | none => rw [g] at ev; cases ev
      | some k =>
        rw [g] at ev
        obtain rfl : V.str k = v := Option.some.inj ev
        have new : valV (knownK (ws.take i)) (Sum.inr k) = none := by
          have y := known_val k (ws.take i)
          have nm : ¬ k ∈ ws.take i := fresh_take nd g
          rw [decide_eq_false nm] at y
          cases z : valV (knownK (ws.take i)) (Sum.inr k) with
          | none => rfl
          | some u => rw [z] at y; cases y
        refine ⟨rfl, _, rfl, _, Sum.inr k, rfl, f1, by unfold knownK; rw [List.length_map]; have := List.length_take_le i ws; have := (List.getElem?_eq_some_iff.mp g).1; omega, ?_, fun c o e => ?_⟩
        · rw [putK_new _ new, take_more g]
          unfold knownK
          rw [List.map_append]
          exact upd_same
        · rw [upd_ne (ne_of_none e hD)]
          exact f2 _ _ e
    · rintro H4 ⟨f1, f2⟩
      rw [List.length_map, List.take_length] at f1
      refine ⟨_, rfl, b, C, dx, _, rfl, f2 _ _ eb3, B.cls, B.nk, (by show 2 < 1000; decide), ?_⟩
      refine q _ (fun c o n e => ?_) ⟨dx, d, D, upd_same, ?_, ?_⟩
      · rw [upd_ne n]
        exact f2 _ _ (off c o n e)
      · rw [upd_ne nbd]
        exact f2 _ _ e3
      · rw [upd_ne nDb.symm]
        exact f1

theorem ok_get_letters (F : FnM K "letters" "Book.letters" sGetLetters f fd) (B : BookK K C) : FnOk P w K mg base CX0 1 f fd ["self"] (spLetters C) := by
  refine F.ok scGetLetters (fun vs H Q E h => ?_) (fun cdv A outer s H vs Q E hr h => ?_)
  · obtain ⟨b, x, ws, rfl, _⟩ := h
    rfl
  · obtain ⟨b, x, ws, rfl, ⟨dx, p, d, h1, h2, h3⟩, q⟩ := h
    exact ⟨_, PSs.nox (pss_one (ps_ret (pe_fld (pv 0) rfl))), _, rfl, b, C, dx, _, _, rfl, h1, B.cls, B.nl, rfl, q⟩
theorem ok_get_words (F : FnM K "words" "Book.words" sGetWords f fd) (B : BookK K C) : FnOk P w K mg base CX0 1 f fd ["self"] (spWords C) := by
  refine F.ok scGetWords (fun vs H Q E h => ?_) (fun cdv A outer s H vs Q E hr h => ?_)
  · obtain ⟨b, x, ws, rfl, _⟩ := h
    rfl
  · obtain ⟨b, x, ws, rfl, ⟨dx, p, d, h1, h2, h3⟩, q⟩ := h
    exact ⟨_, PSs.nox (pss_one (ps_ret (pe_fld (pv 0) rfl))), _, rfl, b, C, dx, _, _, rfl, h1, B.cls, B.nw, rfl, q p h2⟩
theorem ok_get_longest (F : FnM K "longest" "Book.longest" sGetLongest f fd) (B : BookK K C) (M : Free mg) : FnOk P w K mg base CX0 1 f fd ["self"] (spLongest C) := by
  refine F.ok scGetLongest (fun vs H Q E h => ?_) (fun cdv A outer s H vs Q E hr h => ?_)
  · obtain ⟨b, x, ws, rfl, _⟩ := h
    rfl
  · obtain ⟨b, x, ws, rfl, ⟨dx, p, d, h1, h2, h3⟩, short, q⟩ := h
    have hs : sizeLine = 16777216 := sizeLine_eq
    refine ⟨_, PSs.nox (pss_one (ps_ret (pe_ifExp (pt_truth (pe_fld (pv 0) rfl) (by intro _; rfl)) (pe_callB call_len (by rfl) M.len PySem.boot_len (pa_cons (pe_ix ix_tup (pe_fld (pv 0) rfl) (pe_un un_neg pe_int) (fun _ _ => rfl)) pa_nil)) pe_int))), ?_⟩
    refine ⟨_, rfl, b, C, dx, _, _, rfl, h1, B.cls, B.nw, rfl, _, Or.inr (Or.inl ⟨_, SqT.of h2, rfl⟩), ?_⟩
    cases g : ws.getLast? with
    | none =>
      have e : ws = [] := List.getLast?_eq_none_iff.mp g
      subst e
      exact iteF q
    | some k =>
      have ne : (!(ws.map V.str).isEmpty) = true := by
        cases ws with
        | nil => cases g
        | cons a l => rfl
      rw [ne]
      have mk : k ∈ ws := List.mem_of_getLast? g
      have e : lastLen ws = k.length := by
        unfold lastLen
        rw [g]
        rfl
      rw [e] at q
      refine iteT ⟨_, rfl, b, C, dx, _, _, rfl, h1, B.cls, B.nw, rfl, 1, rfl, p, _, _, _, rfl, rfl, SqT.of h2, last_ix g, _, k.length, rfl, ⟨by have := short k mk; omega, rfl⟩, q⟩
theorem ok_has (F : FnM K "__contains__" "Book.__contains__" sHas f fd) (B : BookK K C) (M : Free mg) : FnOk P w K mg base CX0 1 f fd ["self", "value"] (spHas K C) := by
  refine F.ok scHas (fun vs H Q E h => ?_) (fun cdv A outer s H vs Q E hr h => ?_)
  · obtain ⟨b, x, ws, v, rfl, _⟩ := h
    rfl
  · obtain ⟨b, x, ws, v, rfl, ⟨dx, p, d, h1, h2, h3⟩, ask, q⟩ := h
    refine ⟨_, PSs.nox (pss_one (ps_ret (pe_and (pe_callB call_isi (by rfl) M.isi (by decide +kernel) (pa_cons (pv 1) (pa_cons (pe_bltn (v := .ty "str") (by rfl) M.str (by decide +kernel) rfl) pa_nil)))
      (pe_one (pe_cmp (pc_din (hu_of hr) (pv 1) (pe_fld (pv 0) rfl)) rfl))))), ?_⟩
    rcases ask with ask | ⟨b', x', ws', rfl, bk⟩
    · obtain ⟨t1, k1, k2⟩ := isi_str ask
      refine ⟨_, rfl, _, _, t1, _, _, rfl, .ty "str", k1, k2, _, rfl, ?_⟩
      cases v with
      | str z =>
        refine iteT ⟨_, rfl, _, rfl, b, C, dx, _, _, rfl, h1, B.cls, B.nk, rfl, d, _, rfl, DGet.k (k := Sum.inr z) h3, ?_⟩
        rw [known_val]
        exact q
      | int i => exact iteF q
      | bl b => exact iteF q
      | non => exact iteF q
      | ref a => exact iteF q
      | _ => exact ask.elim
    · exact ⟨_, rfl, _, _, _, _, _, rfl, .ty "str", bk.ty B, B.noStr, _, rfl, iteF q⟩
theorem ok_at (F : FnM K "__getitem__" "Book.__getitem__" sAt f fd) (B : BookK K C) (M : Free mg) (FN : FnOk P w K mg base CX0 2 fN dN ["value", "low", "high"] spCheckNumber) (gN : mg "check_number" = some (.ref fN)) (kN : PySem.W.keepIn K (.ref fN) = true) (bN : Binds K dN ["value", "low", "high"] []) :
    FnOk P w K mg base CX0 3 f fd ["self", "index"] (spAt C) := by
  refine F.ok scAt (fun vs H Q E h => ?_) (fun cdv A outer s H vs Q E hr h => ?_)
  · obtain ⟨b, x, ws, k, i, rfl, _⟩ := h
    rfl
  · obtain ⟨b, x, ws, k, i, rfl, ⟨dx, p, d, h1, h2, h3⟩, few, g, q⟩ := h
    have hi : i < ws.length := (List.getElem?_eq_some_iff.mp g).1
    refine ⟨_, PSs.nox (pss_cons (ps_expr (pe_call FN hr (by rfl) gN kN bN .nil pass0 (pa_cons (pv 1) (pa_cons pe_int (pa_cons (pe_op op_sub (pe_callB call_len_seq (by rfl) M.len PySem.boot_len (pa_cons (pe_fld (pv 0) rfl) pa_nil)) pe_int) pa_nil)))))
      (pss_one (ps_ret (pe_ix ix_tup (pe_fld (pv 0) rfl) (pv 1) (fun _ _ => rfl))))), ?_⟩
    refine ⟨_, rfl, _, rfl, b, C, dx, _, _, rfl, h1, B.cls, B.nw, rfl, p, _, rfl, .inr (SqT.of h2), _, _, rfl, rfl, _, _, _, rfl, by omega, by rw [List.length_map]; omega, by omega, by rw [List.length_map]; omega, ?_⟩
    exact ⟨_, rfl, b, C, dx, _, _, rfl, h1, B.cls, B.nw, rfl, _, rfl, p, _, _, _, rfl, rfl, SqT.of h2, atI_nat (v := .str k) (by rw [List.getElem?_map, g]; rfl), q⟩
theorem ok_len (F : FnM K "__len__" "Book.__len__" sLen f fd) (B : BookK K C) (M : Free mg) : FnOk P w K mg base CX0 1 f fd ["self"] (spLen C) := by
  refine F.ok scLen (fun vs H Q E h => ?_) (fun cdv A outer s H vs Q E hr h => ?_)
  · obtain ⟨b, x, ws, rfl, _⟩ := h
    rfl
  · obtain ⟨b, x, ws, rfl, ⟨dx, p, d, h1, h2, h3⟩, few, q⟩ := h
    refine ⟨_, PSs.nox (pss_one (ps_ret (pe_callB call_len_seq (by rfl) M.len PySem.boot_len (pa_cons (pe_fld (pv 0) rfl) pa_nil)))), ?_⟩
    refine ⟨_, rfl, b, C, dx, _, _, rfl, h1, B.cls, B.nw, rfl, p, _, rfl, .inr (SqT.of h2), ?_⟩
    rw [List.length_map]
    exact q
theorem ok_eq (F : FnM K "__eq__" "Book.__eq__" sEq f fd) (B : BookK K C) (M : Free mg) (gB : mg "Book" = some (.ref C)) : FnOk P w K mg base CX0 1 f fd ["self", "other"] (spEq K C) := by
  refine F.ok scEq (fun vs H Q E h => ?_) (fun cdv A outer s H vs Q E hr h => ?_)
  · obtain ⟨b, x, ws, v, rfl, _⟩ := h
    rfl
  · obtain ⟨b, x, ws, v, rfl, ⟨dx, p, d, h1, h2, h3⟩, few, ok1, way⟩ := h
    refine ⟨_, PSs.nox (pss_one (ps_ret (pe_and (pe_callB call_isi (by rfl) M.isi (by decide +kernel) (pa_cons (pv 1) (pa_cons (pe_glob (v := .ref C) (by rfl) gB rfl) pa_nil)))
      (pe_and (pe_cmpR op_eq (pe_fld (pv 0) rfl) (pe_fld (pv 1) rfl) (nomark _)) (pe_one (pe_cmpR (op_eqD hr.units) (pe_fld (pv 0) rfl) (pe_fld (pv 1) rfl) (nomark _))))))), ?_⟩
    rcases way with ⟨nb, q⟩ | ⟨b', y, zs, rfl, bk, few', ok2, q⟩
    · obtain ⟨T, mT, ty⟩ := noBook_ty nb
      exact ⟨_, rfl, _, _, _, _, _, rfl, .own C, ty, (B.others T mT).1, _, rfl, iteF q⟩
    · have ty := bk.ty (K := K) B
      obtain ⟨dx', p', d', g1, g2, g3⟩ := bk
      refine ⟨_, rfl, _, _, _, _, _, rfl, .own C, ty, B.own, _, rfl, iteT ?_⟩
      refine ⟨_, rfl, b, C, dx, _, _, rfl, h1, B.cls, B.nl, rfl, _, rfl, b', C, dx', _, _, rfl, g1, B.cls, B.nl, rfl, rfl, _, rfl, ?_⟩
      have e1 : decide (V.str x = V.str y) = decide (x = y) := by simp
      rw [e1]
      generalize decide (x = y) = g at q ⊢
      cases g with
      | false => exact iteF q
      | true =>
        refine iteT ⟨_, rfl, b, C, dx, _, _, rfl, h1, B.cls, B.nw, rfl, _, rfl, b', C, dx', _, _, rfl, g1, B.cls, B.nw, rfl, _, _, .tup (SqT.of h2) (dpa_txt ws), .tup (SqT.of g2) (dpa_txt zs), txt_shapedT ok1, txt_shapedT ok2, ?_⟩
        rw [txt_eqvT]
        exact q
theorem ok_str (F : FnM K "__str__" "Book.__str__" sStr f fd) (B : BookK K C) (M : Free mg) : FnOk P w K mg base CX0 1 f fd ["self"] (spStr C) := by
  refine F.ok scStr (fun vs H Q E h => ?_) (fun cdv A outer s H vs Q E hr h => ?_)
  · obtain ⟨b, x, ws, rfl, _⟩ := h
    rfl
  · obtain ⟨b, x, ws, rfl, ⟨dx, p, d, h1, h2, h3⟩, few, lx, q⟩ := h
    have hs : sizeLine = 16777216 := sizeLine_eq
    refine ⟨_, PSs.nox (pss_one (ps_ret (pe_joined (.cons pe_str (.cons (pe_fmt (pe_callB call_len_seq (by rfl) M.len PySem.boot_len (pa_cons (pe_fld (pv 0) rfl) pa_nil))) (.cons pe_str (.cons (pe_fmt (pe_fld (pv 0) rfl)) .nil))))))), ?_⟩
    have n1 := numS_len few
    have l0 : (Str.empty ++ Str.ofString "book of ").length = 8 := by decide +kernel
    have l1 : (Str.ofString " words over ").length = 12 := by decide +kernel
    refine ⟨_, rfl, by rw [l0]; omega, _, rfl, b, C, dx, _, _, rfl, h1, B.cls, B.nw, rfl, p, _, rfl, .inr (SqT.of h2), ?_⟩
    rw [List.length_map]
    refine Or.inr ⟨_, rfl, log_small few, _, rfl, ?_, ?_⟩
    · rw [app_len, l0]
      show 8 + (numS ws.length).length ≤ sizeLine
      omega
    · refine ⟨_, rfl, ?_, _, rfl, b, C, dx, _, _, rfl, h1, B.cls, B.nl, rfl, Or.inl ⟨x, rfl, by omega, _, rfl, ?_, q⟩⟩
      · rw [app_len, app_len, l0, l1]
        show 8 + (numS ws.length).length + 12 ≤ sizeLine
        omega
      · rw [app_len, app_len, app_len, l0, l1]
        show 8 + (numS ws.length).length + 12 + x.length ≤ sizeLine
        omega
end
end B3

/-! texts over letters; all texts of one length; a walk with any body -/
namespace XSt
open PySem PySem.Spec PyProof.Rows L2 NX
theorem tw_short {p : Nat → Bool} {c : Nat} (h : p c = false) : ∀ xs : List Nat, ((xs ++ [c]).takeWhile p).length ≤ xs.length
  | [] => by simp [h]
  | x :: xs => by
    have := tw_short h xs
    by_cases g : p x = true
    · simp [g]
      exact this
    · simp [g]
theorem dw_head {p : Nat → Bool} : ∀ {l : List Nat} {c : Nat} {r : List Nat}, l.dropWhile p = c :: r → p c = false
  | [], _, _, h => by simp at h
  | x :: l, c, r, h => by
    by_cases g : p x = true
    · rw [List.dropWhile_cons_of_pos g] at h
      exact dw_head h
    · rw [List.dropWhile_cons_of_neg g] at h
      injection h with h _
      rw [← h]
      exact Bool.not_eq_true _ |>.mp g
theorem dw_nil {p : Nat → Bool} : ∀ {l : List Nat}, l.dropWhile p = [] → l.all p = true
  | [], _ => rfl
  | x :: l, h => by
    by_cases g : p x = true
    · rw [List.dropWhile_cons_of_pos g] at h
      rw [List.all_cons, g, dw_nil h]
      rfl
    · rw [List.dropWhile_cons_of_neg g] at h
      cases h
theorem drop_tw (p : Nat → Bool) : ∀ l : List Nat, l.drop (l.takeWhile p).length = l.dropWhile p
  | [] => rfl
  | x :: l => by
    by_cases g : p x = true
    · rw [List.takeWhile_cons_of_pos g, List.dropWhile_cons_of_pos g]
      exact drop_tw p l
    · rw [List.takeWhile_cons_of_neg g, List.dropWhile_cons_of_neg g]
      rfl
theorem all_tw {p : Nat → Bool} : ∀ {l : List Nat}, l.all p = true → l.takeWhile p = l ∧ l.dropWhile p = []
  | [], _ => ⟨rfl, rfl⟩
  | x :: l, h => by
    rw [List.all_cons, Bool.and_eq_true] at h
    obtain ⟨a, b⟩ := all_tw h.2
    rw [List.takeWhile_cons_of_pos h.1, List.dropWhile_cons_of_pos h.1]
    exact ⟨by rw [a], b⟩
theorem strip_all (goes : Nat → Bool) (x : Str) : decide (Txt.stripBy goes true true x = ⟨#[]⟩) = x.cps.toList.all goes := by
  have split := List.takeWhile_append_dropWhile (p := goes) (l := x.cps.toList)
  have len : x.cps.toList.length = x.length := by rw [Array.length_toList]; rfl
  have total : (x.cps.toList.takeWhile goes).length + (x.cps.toList.dropWhile goes).length = x.length := by
    rw [← len, ← List.length_append, split]
  have told : (Txt.stripBy goes true true x = x ∧ (x.cps.toList.takeWhile goes).length = 0) ∨
      Txt.stripBy goes true true x = Builtin.Str.strSub x (x.cps.toList.takeWhile goes).length (x.length - ((x.cps.toList.dropWhile goes).reverse.takeWhile goes).length) := by
    unfold Txt.stripBy
    split
    · rename_i h
      have h2 : ((x.cps.toList.takeWhile goes).length == 0 && _) = true := h
      rw [Bool.and_eq_true, beq_iff_eq] at h2
      exact Or.inl ⟨rfl, h2.1⟩
    · refine Or.inr ?_
      rw [← drop_tw]
      rfl
  cases g : x.cps.toList.all goes with
  | true =>
    refine decide_eq_true ?_
    obtain ⟨a, b⟩ := all_tw g
    rw [b] at total told
    rcases told with ⟨e, h⟩ | e
    · rw [e]
      have z : x.length = 0 := by
        simp only [List.length_nil] at total
        omega
      obtain ⟨⟨y⟩⟩ := x
      have z2 : y.length = 0 := z
      rw [List.length_eq_zero_iff.mp z2]
    · rw [e]
      show (⟨x.cps.extract _ _⟩ : Str) = ⟨#[]⟩
      congr 1
      apply Array.extract_eq_empty_of_le
      have w : x.cps.size = x.length := rfl
      simp only [List.length_nil] at total
      omega
  | false =>
    refine decide_eq_false ?_
    have ne : x.cps.toList.dropWhile goes ≠ [] := fun z => by
      rw [dw_nil z] at g
      cases g
    cases q : x.cps.toList.dropWhile goes with
    | nil => exact absurd q ne
    | cons c r =>
      have hc := dw_head q
      have short : ((c :: r).reverse.takeWhile goes).length ≤ r.length := by
        have z := tw_short hc r.reverse
        rw [List.length_reverse] at z
        rw [List.reverse_cons]
        exact z
      rw [q] at total told
      simp only [List.length_cons] at total
      intro bad
      have z : (Txt.stripBy goes true true x).length = 0 := by
        rw [bad]
        rfl
      rcases told with ⟨e, h⟩ | e
      · rw [e] at z
        omega
      · rw [e] at z
        have y : (Builtin.Str.strSub x (x.cps.toList.takeWhile goes).length (x.length - ((c :: r).reverse.takeWhile goes).length)).length = min (x.length - ((c :: r).reverse.takeWhile goes).length) x.cps.size - (x.cps.toList.takeWhile goes).length := Array.size_extract
        have w : x.cps.size = x.length := rfl
        rw [y] at z
        omega

theorem strip_in (x s : Str) : decide (Txt.stripChars x s = ⟨#[]⟩) = x.cps.toList.all fun c => decide (c ∈ s.cps.toList) := by
  unfold Txt.stripChars
  rw [strip_all]
  congr 1
  funext c
  simp [Array.contains_eq_mem]

theorem walk_it {J : It} {n : Nat} {G : Hp → Prop} {Y : Nat → Hp → V → Hp → Prop} (w : Walk J n G Y) {B : V → Hp → (Hp → Prop) → Prop} {H0 : Hp} {Qd : Hp → Prop} (Pv : Nat → Hp → Prop) (h0 : Pv 0 H0) (hG : ∀ i H, i ≤ n → Pv i H → G H)
    (hs : ∀ i x H H', i < n → Pv i H → Y i H x H' → B x H' (Pv (i + 1))) (hd : ∀ H, Pv n H → Qd H) :
    ∃ W : Nat → Nat → Hp → Prop, (∃ m, W 0 m H0) ∧ ∀ i m H, W i m H → (J.stop i H ∧ Qd H) ∨ (J.go i H ∧ ∃ Nx : Hp → Prop, (∀ H', Nx H' → ∃ m', m' < m ∧ W (i + 1) m' H') ∧ ∀ x H', J.yld i H x H' → B x H' Nx) := by
  refine ⟨fun i m H => m + i = n ∧ Pv i H, ⟨n, by omega, h0⟩, fun i m H z => ?_⟩
  obtain ⟨e, p⟩ := z
  have g := hG i H (by omega) p
  rcases Nat.eq_zero_or_pos m with z | z
  · have e2 : i = n := by omega
    subst e2
    exact .inl ⟨w.stops H g, hd H p⟩
  · exact .inr ⟨w.goes i H (by omega) g, Pv (i + 1), fun H' p' => ⟨m - 1, by omega, by omega, p'⟩, fun x H' y => hs i x H H' (by omega) p (w.yields i H x H' (by omega) g y)⟩
/-- all texts of n letters, as they come -/
def unif (x : Str) : Nat → List Str
  | 0 => [⟨#[]⟩]
  | n + 1 => (unif x n).flatMap fun k => (signs x).map fun c => k ++ c
theorem signs_count (x : Str) : (signs x).length = x.length := by
  unfold signs
  rw [List.length_map, Array.length_toList]
  rfl
theorem unif_len (x : Str) : ∀ n, (unif x n).length = x.length ^ n
  | 0 => rfl
  | n + 1 => by
    unfold unif
    rw [List.length_flatMap]
    have e : (fun k => ((signs x).map fun c => k ++ c).length) = fun _ : Str => x.length := by
      funext k
      rw [List.length_map, signs_count]
    rw [e, Nat.pow_succ, ← unif_len x n]
    induction unif x n with
    | nil => simp
    | cons a l ih =>
      rw [List.map_cons, List.sum_cons, ih, List.length_cons, Nat.add_mul, Nat.one_mul, Nat.add_comm]
theorem flat_len (x : Str) (l : List Str) : (l.flatMap fun k => (signs x).map fun c => k ++ c).length = l.length * x.length := by
  induction l with
  | nil => simp
  | cons a l ih => rw [List.flatMap_cons, List.length_append, ih, List.length_map, signs_count, List.length_cons, Nat.add_mul, Nat.one_mul, Nat.add_comm]
theorem cs_app (a b : Str) : cs (a ++ b) = cs a ++ cs b := by
  show (a.cps ++ b.cps).toList = _
  exact Array.toList_append
theorem unif_mem {x : Str} : ∀ {n : Nat} {k : Str}, k ∈ unif x n → k.length = n ∧ ∀ c ∈ cs k, c ∈ cs x
  | 0, k, h => by
    obtain rfl := List.mem_singleton.mp h
    exact ⟨rfl, fun c m => by cases m⟩
  | n + 1, k, h => by
    obtain ⟨a, ma, h⟩ := List.mem_flatMap.mp h
    obtain ⟨c, mc, rfl⟩ := List.mem_map.mp h
    obtain ⟨d, md, rfl⟩ := List.mem_map.mp mc
    obtain ⟨e1, e2⟩ := unif_mem ma
    refine ⟨by rw [app_len, e1]; rfl, fun z m => ?_⟩
    rw [cs_app] at m
    rcases List.mem_append.mp m with m | m
    · exact e2 z m
    · obtain rfl : z = d := List.mem_singleton.mp m
      exact md
theorem lt_app_left {a b : List Nat} (c d : List Nat) (h : a < b) (e : a.length = b.length) : a ++ c < b ++ d := by
  induction a generalizing b with
  | nil =>
    cases b with
    | nil => exact absurd h (List.lt_irrefl _)
    | cons y b => cases e
  | cons x a ih =>
    cases b with
    | nil => cases e
    | cons y b =>
      rw [List.cons_append, List.cons_append, List.cons_lt_cons_iff]
      rcases List.cons_lt_cons_iff.mp h with z | ⟨rfl, z⟩
      · exact .inl z
      · exact .inr ⟨rfl, ih z (by simpa using e)⟩
theorem lt_app_right (a : List Nat) {c d : List Nat} (h : c < d) : a ++ c < a ++ d := by
  induction a with
  | nil => exact h
  | cons x a ih =>
    rw [List.cons_append, List.cons_append, List.cons_lt_cons_iff]
    exact .inr ⟨rfl, ih⟩
def Asc (x : Str) : Prop := (cs x).Pairwise (· < ·)
theorem signs_asc {x : Str} (h : Asc x) : (signs x).Pairwise fun a b => cs a < cs b := by
  unfold signs
  refine List.pairwise_map.mpr (h.imp fun {a b} z => ?_)
  show [a] < [b]
  exact List.cons_lt_cons_iff.mpr (.inl z)
theorem unif_asc {x : Str} (h : Asc x) : ∀ n, (unif x n).Pairwise fun a b => cs a < cs b
  | 0 => List.pairwise_singleton _ _
  | n + 1 => by
    unfold unif
    rw [List.pairwise_flatMap]
    refine ⟨fun a _ => ?_, (unif_asc h n).imp_of_mem fun {a b} ma mb z k mk l ml => ?_⟩
    · refine List.pairwise_map.mpr ((signs_asc h).imp fun {c d} z => ?_)
      rw [cs_app, cs_app]
      exact lt_app_right _ z
    · obtain ⟨c, _, rfl⟩ := List.mem_map.mp mk
      obtain ⟨d, _, rfl⟩ := List.mem_map.mp ml
      rw [cs_app, cs_app]
      exact lt_app_left _ _ z (by rw [cs_len, cs_len, (unif_mem ma).1, (unif_mem mb).1])
theorem asc_nodup {l : List Str} (h : l.Pairwise fun a b => cs a < cs b) : l.Nodup := h.imp fun {a b} z e => by
  rw [e] at z
  exact List.lt_irrefl _ z
/-- ascending, of one length: in order -/
theorem ordT_asc {l : List Str} {n : Nat} (h : l.Pairwise fun a b => cs a < cs b) (e : ∀ k ∈ l, k.length = n) : ordT l = l := by
  symm
  refine tLe_ord.one (perm_once (asc_nodup h) fun _ => Iff.rfl) (h.imp_of_mem fun {a b} ma mb z => ?_)
  unfold tLe
  rw [pLe_iff]
  refine .inr ⟨by show ((a.length : Int)) = b.length; rw [e a ma, e b mb], ?_⟩
  unfold sLe
  exact decide_eq_true (List.le_of_lt z)
theorem ordT_unif {x : Str} (h : Asc x) (n : Nat) : ordT (unif x n) = unif x n := ordT_asc (unif_asc h n) fun k m => (unif_mem m).1
theorem pre_same {l : List Str} {n : Nat} (e : ∀ k ∈ l, k.length = n) : NoPre l := fun a ma b mb ne z => ne (cs_inj (List.IsPrefix.eq_of_length z (by rw [cs_len, cs_len, e a ma, e b mb])))
theorem suf_same {l : List Str} {n : Nat} (e : ∀ k ∈ l, k.length = n) : NoSuf l := fun a ma b mb ne z => ne (cs_inj (List.IsSuffix.eq_of_length z (by rw [cs_len, cs_len, e a ma, e b mb])))
theorem strOk_of {x y : Str} (h : PyData.strOk x = true) (e : ∀ c ∈ cs y, c ∈ cs x) : PyData.strOk y = true := by
  unfold PyData.strOk at h ⊢
  rw [Array.all_eq_true'] at h ⊢
  intro c m
  exact h c (Array.mem_toList_iff.mp (e c (Array.mem_toList_iff.mpr m)))
theorem joinL_nil : ∀ ps : List (List Nat), TL.joinL [] ps = ps.flatten
  | [] => rfl
  | [p] => by simp [TL.joinL]
  | p :: q :: r => by
    show p ++ ([] ++ TL.joinL [] (q :: r)) = _
    rw [joinL_nil (q :: r), List.nil_append]
    rfl
theorem joined_list (l : List Str) : (Txt.join ⟨#[]⟩ l).cps.toList = (l.map fun x => x.cps.toList).flatten := by
  rw [TL.join_eq]
  exact (TL.tl_join ⟨#[]⟩ l).trans (joinL_nil _)
theorem join_signs (x : Str) : Txt.join ⟨#[]⟩ (signs x) = x := by
  apply cs_inj
  have y := joined_list (signs x)
  show (Txt.join ⟨#[]⟩ (signs x)).cps.toList = _
  rw [y]
  unfold signs cs
  rw [List.map_map]
  induction x.cps.toList with
  | nil => rfl
  | cons c l ih =>
    rw [List.map_cons, List.flatten_cons, ih]
    rfl
theorem letters_asc {x : Str} (h : Asc x) (h1 : 1 ≤ x.length) (h3 : x.length ≤ 3) (lo : ∀ c ∈ cs x, 97 ≤ c ∧ c ≤ 122) : lettersV (.str x) = true := by
  have sa := signs_asc h
  have e : (once (signs x)).mergeSort sLe = signs x := by
    symm
    exact sLe_ord.one (perm_once (asc_nodup sa) fun _ => Iff.rfl) (sa.imp fun {a b} z => decide_eq_true (List.le_of_lt z))
  have ne : cs x ≠ [] := fun z => by
    have y := cs_len x
    rw [z] at y
    simp only [List.length_nil] at y
    omega
  show (decide (1 ≤ x.length ∧ x.length ≤ 3) && (decide (x = Txt.join ⟨#[]⟩ ((once (signs x)).mergeSort sLe)) && (decide (97 ≤ (cs x).headD 0) && decide ((cs x).getLastD 0 ≤ 122)))) = true
  rw [e, join_signs, decide_eq_true ⟨h1, h3⟩, decide_eq_true rfl, Bool.true_and, Bool.true_and, Bool.and_eq_true, decide_eq_true_eq, decide_eq_true_eq]
  cases q : cs x with
  | nil => exact absurd q ne
  | cons c l =>
    rw [q] at lo
    refine ⟨(lo c (List.mem_cons_self ..)).1, ?_⟩
    rw [List.getLastD_eq_getLast?, List.getLast?_eq_some_getLast (List.cons_ne_nil c l)]
    exact (lo _ (List.getLast_mem _)).2
end XSt
namespace XSt
open PySem PySem.Spec PyProof.Rows L2 NX
theorem cs_mk (l : List Nat) : cs ⟨l.toArray⟩ = l := by
  unfold cs
  simp
theorem cut_pre {z : Str} {n : Nat} (h : n ≤ z.length) : cs (cutS z none (some (n : Int))) = (cs z).take n := by
  unfold cutS
  rw [cs_mk, HT.sIx_none, HT.sIx_nat, Nat.min_eq_left h, List.drop_zero, Nat.sub_zero]
  rfl
theorem cut_suf {z : Str} {n : Nat} (h : n ≤ z.length) : cs (cutS z (some (n : Int)) none) = (cs z).drop n := by
  unfold cutS
  rw [cs_mk, HT.sIx_none, HT.sIx_nat, Nat.min_eq_left h]
  refine List.take_of_length_le ?_
  have y := cs_len z
  unfold cs at y
  rw [List.length_drop, y]
  exact Nat.le_refl _
theorem cut_starts {l s : Str} (h : s.length ≤ l.length) : decide (V.str (cutS l none (some (s.length : Int))) = V.str s) = Txt.startswith l s := by
  apply Bool.eq_iff_iff.mpr
  rw [decide_eq_true_eq, starts_iff, List.prefix_iff_eq_take, cs_len]
  constructor
  · intro e
    have z := congrArg cs (V.str.inj e)
    rw [cut_pre h] at z
    exact z.symm
  · intro e
    congr 1
    apply cs_inj
    rw [cut_pre h]
    exact e.symm
theorem cut_ends {l s : Str} (h : s.length ≤ l.length) : decide (V.str (cutS l (some ((l.length : Int) - (s.length : Int))) none) = V.str s) = Txt.endswith l s := by
  have e0 : ((l.length : Int) - (s.length : Int)) = ((l.length - s.length : Nat) : Int) := by omega
  rw [e0]
  apply Bool.eq_iff_iff.mpr
  rw [decide_eq_true_eq, ends_iff, List.suffix_iff_eq_drop, cs_len, cs_len]
  constructor
  · intro e
    have z := congrArg cs (V.str.inj e)
    rw [cut_suf (by omega)] at z
    exact z.symm
  · intro e
    congr 1
    apply cs_inj
    rw [cut_suf (by omega)]
    exact e.symm
/-- the shorter one begins or ends the longer one -/
def meetB (a b : Str) : Bool := if a.length ≤ b.length then (Txt.startswith b a || Txt.endswith b a) else (Txt.startswith a b || Txt.endswith a b)
theorem meet_free {a b : Str} (h : meetB a b = false) : (¬ cs a <+: cs b ∧ ¬ cs b <+: cs a) ∧ ¬ cs a <:+ cs b ∧ ¬ cs b <:+ cs a := by
  have la := cs_len a
  have lb := cs_len b
  unfold meetB at h
  split at h
  · rename_i c
    rw [Bool.or_eq_false_iff] at h
    have n1 : ¬ cs a <+: cs b := fun z => by rw [starts_iff.mpr z] at h; cases h.1
    have n2 : ¬ cs a <:+ cs b := fun z => by rw [ends_iff.mpr z] at h; cases h.2
    refine ⟨⟨n1, fun z => ?_⟩, n2, fun z => ?_⟩
    · have e := List.IsPrefix.eq_of_length z (by have := z.length_le; omega)
      exact n1 (by rw [e]; exact List.prefix_rfl)
    · have e := List.IsSuffix.eq_of_length z (by have := z.length_le; omega)
      exact n2 (by rw [e]; exact List.suffix_rfl)
  · rename_i c
    rw [Bool.or_eq_false_iff] at h
    have n1 : ¬ cs b <+: cs a := fun z => by rw [starts_iff.mpr z] at h; cases h.1
    have n2 : ¬ cs b <:+ cs a := fun z => by rw [ends_iff.mpr z] at h; cases h.2
    refine ⟨⟨fun z => ?_, n1⟩, fun z => ?_, n2⟩
    · have := z.length_le
      omega
    · have := z.length_le
      omega
theorem NoPre.snoc {l : List Str} {k : Str} (h : NoPre l) (e : ∀ a ∈ l, meetB a k = false) : NoPre (l ++ [k]) := by
  intro x mx y my ne
  rcases List.mem_append.mp mx with mx | mx <;> rcases List.mem_append.mp my with my | my
  · exact h x mx y my ne
  · rw [List.mem_singleton.mp my]
    exact (meet_free (e x mx)).1.1
  · rw [List.mem_singleton.mp mx]
    exact (meet_free (e y my)).1.2
  · exact absurd ((List.mem_singleton.mp mx).trans (List.mem_singleton.mp my).symm) ne
theorem NoSuf.snoc {l : List Str} {k : Str} (h : NoSuf l) (e : ∀ a ∈ l, meetB a k = false) : NoSuf (l ++ [k]) := by
  intro x mx y my ne
  rcases List.mem_append.mp mx with mx | mx <;> rcases List.mem_append.mp my with my | my
  · exact h x mx y my ne
  · rw [List.mem_singleton.mp my]
    exact (meet_free (e x mx)).2.1
  · rw [List.mem_singleton.mp mx]
    exact (meet_free (e y my)).2.2
  · exact absurd ((List.mem_singleton.mp mx).trans (List.mem_singleton.mp my).symm) ne
theorem ordT_twice (l : List Str) : ordT (ordT l) = ordT l := ordT_same fun _ => ordT_mem
end XSt

namespace XSt
open PySem PySem.Spec PyProof.Rows L2 NX
def Grows (H H' : Hp) : Prop := ∀ b o, H b = some o → H' b = some o
theorem grows_new {H : Hp} {p : Addr} {o : HO} (h : H p = none) : Grows H (upd H p o) := fun b u e => by
  rw [upd_ne (ne_of_none e h)]
  exact e
/-- a slice of a tuple that is tracked: a tuple, new or not -/
def rSlX2 : V → Option Int → Option Int → Hp → VK → Prop := fun x lo hi H Q => ∃ a xs, x = .ref a ∧ H a = some (.tup xs) ∧ ∀ p H', Grows H H' → H' p = some (.tup (cutV xs lo hi)) → Q (.ref p) H'
theorem sl_tupX {X : Cx} : SlR X rSlX2 := by
  intro pins s σ H x v vl vu lo hi sl Q I rx hs pl pu h
  obtain ⟨a, xs, rfl, ea, q⟩ := h
  refine sl_tupA pins s σ H _ v vl vu lo hi sl Q I rx hs pl pu ⟨a, xs, rfl, SqT.of ea, fun c => ?_, fun _ p hp => q p _ (grows_new hp) upd_same⟩
  refine q a H (fun _ _ e => e) ?_
  unfold cutV
  rw [c.1, c.2, List.drop_zero, Nat.sub_zero, List.take_length]
  exact ea
def rCatX : R2 := fun x y H Q => ∃ a b xs ys, x = .ref a ∧ y = .ref b ∧ H a = some (.tup xs) ∧ H b = some (.tup ys) ∧ xs.length + ys.length ≤ sizeLine ∧ ∀ p H', Grows H H' → H' p = some (.tup (xs ++ ys)) → Q (.ref p) H'
theorem op_catX {X : Cx} : OpR X (binaryOp .Add) rCatX := by
  intro pins s σ H x y v u Q I rx ry h
  obtain ⟨a, b, xs, ys, rfl, rfl, ea, eb, few, q⟩ := h
  refine op_catA pins s σ H _ _ v u Q I rx ry ⟨a, b, xs, ys, rfl, rfl, SqT.of ea, SqT.of eb, few, fun e => ?_, fun _ e => ?_, fun _ _ p hp => q p _ (grows_new hp) upd_same⟩
  · refine q b H (fun _ _ e => e) ?_
    rw [e]
    exact eb
  · refine q a H (fun _ _ e => e) ?_
    rw [e, List.append_nil]
    exact ea
theorem cut_mem {xs : List V} {lo hi : Option Int} {v : V} (h : v ∈ cutV xs lo hi) : v ∈ xs := List.mem_of_mem_drop (List.mem_of_mem_take h)
theorem cut_sub (xs : List V) (lo hi : Option Int) : (cutV xs lo hi).Sublist xs := (List.take_sublist _ _).trans (List.drop_sublist _ _)
theorem ordT_sub {l m : List Str} (h : l.Sublist m) (o : ordT m = m) : ordT l = l := by
  have srt : m.Pairwise (fun a b => XSt.tLe a b = true) := by
    rw [← o]
    exact List.pairwise_mergeSort tLe_ord.tr tLe_ord.tot _
  have nd : m.Nodup := by
    rw [← o]
    exact ordT_nodup m
  symm
  exact tLe_ord.one (perm_once (nd.sublist h) fun _ => Iff.rfl) (srt.sublist h)
theorem NoPre.sub {l m : List Str} (h : NoPre m) (e : ∀ k ∈ l, k ∈ m) : NoPre l := fun a ma b mb n => h a (e a ma) b (e b mb) n
theorem NoSuf.sub {l m : List Str} (h : NoSuf m) (e : ∀ k ∈ l, k ∈ m) : NoSuf l := fun a ma b mb n => h a (e a ma) b (e b mb) n
end XSt

/-! uniform books -/
namespace B3
open PySem PySem.Spec PyProof.Rows L2 XSt NX XB
open PySem.W (Frag)
abbrev sUniform : Stmt := inClass sBook 1
structure Abc (x : Str) : Prop where
  good : GoodL x
  asc : Asc x
  one : 1 ≤ x.length
  few : x.length ≤ 3
  ok : PyData.strOk x = true
  small : ∀ c ∈ cs x, 97 ≤ c ∧ c ≤ 122
theorem abc_of {x : Str} (asc : Asc x) (one : 1 ≤ x.length) (few : x.length ≤ 3) (small : ∀ c ∈ cs x, 97 ≤ c ∧ c ≤ 122) : Abc x := by
  have ok : PyData.strOk x = true := by
    unfold PyData.strOk
    rw [Array.all_eq_true']
    intro c m
    have z := small c (Array.mem_toList_iff.mpr m)
    exact decide_eq_true (by omega)
  exact ⟨⟨by omega, ok, letters_asc asc one few small⟩, asc, one, few, ok, small⟩
theorem goodW_of {x y : Str} (a : Abc x) (h : ∀ c ∈ cs y, c ∈ cs x) (one : 1 ≤ y.length) (few : y.length ≤ 400) : GoodW x y := by
  refine ⟨few, strOk_of a.ok h, ?_⟩
  show (decide (Txt.stripChars y x = ⟨#[]⟩) && (decide (1 ≤ y.length) && decide (y.length ≤ 400))) = true
  rw [strip_in, decide_eq_true one, decide_eq_true few, Bool.and_self, Bool.and_true, List.all_eq_true]
  exact fun c m => decide_eq_true (h c m)
def spUniform (K : Frag) (C : Addr) : Sp := fun vs H Q _ => ∃ (x : Str) (n : Nat), vs = [.ref C, .str x, .int (n : Int)] ∧ Abc x ∧ 1 ≤ n ∧ n ≤ 5 ∧ ∀ b H', H b = none → Ext H H' → BookAt H' b C x (unif x n) → Q (.ref b) H'
def rAddS : R2 := fun x y H Q => ∃ i j, x = .str i ∧ y = .str j ∧ i.length + j.length ≤ sizeLine ∧ Q (.str (i ++ j)) H
theorem op_addS {X : Cx} : OpR X (binaryOp .Add) rAddS := op_add_str
theorem pow_few {a n : Nat} (h : a ≤ 3) (hn : n ≤ 5) : a ^ n ≤ 243 := Nat.le_trans (Nat.pow_le_pow_left h n) (Nat.le_trans (Nat.pow_le_pow_right (by decide) hn) (by decide))
section
variable {P : Program} {w : World} {K : Frag} {mg : Str → Option Value} {base : Heap} {f fL fN fI C : Addr} {fd dL dN dI : FuncData}
theorem scUniform : FnScope ["cls", "letters", "size", "words", "_", "word", "letter"] ["cls", "letters", "size"] (defScope sUniform) := ⟨rfl, rfl, rfl, by decide +kernel, rfl, by decide +kernel, by decide +kernel⟩
theorem ok_uniform (F : FnM K "uniform" "Book.uniform" sUniform f fd) (MK : Mk K C fI) (M : Free mg) (Z : Sizes mg) (mR : mg "range" = none) (gW : ∃ t, mg "MAX_WORDS" = some (.int 400 t))
    (FL : FnOk P w K mg base CX0 2 fL dL ["letters"] spCheckLetters) (gL : mg "check_letters" = some (.ref fL)) (kL : PySem.W.keepIn K (.ref fL) = true) (bL : Binds K dL ["letters"] [])
    (FN : FnOk P w K mg base CX0 2 fN dN ["value", "low", "high"] spCheckNumber) (gN : mg "check_number" = some (.ref fN)) (kN : PySem.W.keepIn K (.ref fN) = true) (bN : Binds K dN ["value", "low", "high"] [])
    (FI : FnOk P w K mg base CX0 6 fI dI ["self", "letters", "words"] (spInit K C)) (bI : Binds K dI ["self", "letters", "words"] []) : FnOk P w K mg base CX0 8 f fd ["cls", "letters", "size"] (spUniform K C) := by
  obtain ⟨tk, gW⟩ := gW
  obtain ⟨tz, gZ⟩ := Z.word
  refine F.ok scUniform (fun vs H Q E h => ?_) (fun cdv A outer s H vs Q E hr h => ?_)
  · obtain ⟨x, n, rfl, _⟩ := h
    rfl
  · obtain ⟨x, n, rfl, abc, n1, n5, q⟩ := h
    have hs : sizeLine = 16777216 := sizeLine_eq
    refine ⟨_, PSs.nox (pss_cons (ps_expr (pe_call FL (hr.mono (by decide)) (by rfl) gL kL bL .nil pass0 (pa_cons (pv 1) pa_nil)))
      (pss_cons (ps_expr (pe_call FN (hr.mono (by decide)) (by rfl) gN kN bN .nil pass0 (pa_cons (pv 2) (pa_cons pe_int (pa_cons (pe_glob (v := .int 400) (by rfl) gZ ⟨tz, rfl⟩) pa_nil)))))
      (pss_cons (ps_set (i := 3) scUniform.nd rfl (.inl rfl) (pe_lst (pa_cons pe_str pa_nil)))
      (pss_cons (ps_for PassesOwn.never rfl (pi_range1 (by rfl) mR (pa_cons (pv 2) pa_nil)) (pg_name (i := 4) scUniform.nd rfl (.inl rfl))
        (pss_cons (ps_setLc2 (i := 3) (own := [("word", 5), ("letter", 6)]) (vs1 := [6]) (g := gName 5) (g1 := gName 6) (tt := tYes) (tt1 := tYes) (te := tOp rAddS (tVar 5) (tVar 6)) rfl scUniform.nd rfl rfl (sw_true rfl rfl rfl (by decide +kernel)) (pi_list (pv 3))
          (blkOk_by (N := ["cls", "letters", "size", "words", "_", "word", "letter"]) (sc := defScope sUniform) (by decide +kernel)) (by decide)
          (fun _ _ _ _ _ => pg_name (i := 5) scUniform.nd rfl (Or.inl rfl)) (fun _ _ _ _ _ => pts_nil) (fun _ _ _ _ _ => by exact pi_str (pv 1)) (fun _ _ _ _ _ => pg_name (i := 6) scUniform.nd rfl (Or.inl rfl)) (fun _ _ _ _ _ => pts_nil)
          (fun _ _ _ _ _ => by exact pe_op op_addS (pv 5) (pv 6)))
        (pss_one (ps_if (pt_cmpR op_gt (pe_callB call_len_seq (by rfl) M.len PySem.boot_len (pa_cons (pv 3) pa_nil)) (pe_glob (v := .int 400) (by rfl) gW ⟨tk, rfl⟩) (nomark _)) (pss_one ps_never) pss_nil))))
      (pss_one (ps_ret (pe_makeL (i := 0) MK FI hr rfl (.inl rfl) bI (pa_cons (pv 1) (pa_cons (pe_callTy call_tuple_of (by rfl) M.tuple (by decide +kernel) (pa_cons (pv 3) pa_nil)) pa_nil))))))))), ?_⟩
    refine ⟨_, rfl, _, rfl, abc.good, fun H1 k1 => ?_⟩
    refine ⟨_, rfl, (n : Int), 1, 400, rfl, by omega, by omega, by decide, by decide, ?_⟩
    refine ⟨by show 1 ≤ sizeLine; decide, fun w0 hw0 => ?_⟩
    refine ⟨_, rfl, _, rfl, by omega, by omega, ?_⟩
    refine for_range (n := n) (fun i σ H2 => ∃ o4 o5 o6 l, σ = [some (.ref C), some (.str x), some (.int (n : Int)), some (.ref l), o4, o5, o6] ∧ H2 l = some (.lst ((unif x i).map V.str)) ∧ Ext H H2) ⟨_, _, _, w0, rfl, upd_same, k1.new hw0⟩ ?_ ?_
    · rintro i σ H2 hi ⟨o4, o5, o6, l, rfl, el, k2⟩
      have lenI : (unif x i).length ≤ 243 := by
        rw [unif_len]
        exact pow_few abc.few (by omega)
      have lenJ : (unif x (i + 1)).length ≤ 243 := by
        rw [unif_len]
        exact pow_few abc.few (by omega)
      have few3 := abc.few
      refine ⟨_, rfl, l, rfl, ⟨_, SqL.of el⟩, fun D hD => ?_⟩
      refine walk_it walk_list (fun a H3 => H3 D = some (.lst ((((unif x i).take a).flatMap fun k => (XSt.signs x).map fun c => k ++ c).map V.str)) ∧ Ext H2 H3) ⟨upd_same, (Ext.refl _).new hD⟩ (fun a H3 _ z => SqL.of (z.2 _ _ el)) ?_ ?_
      · rintro a v H3 H4 ha ⟨f1, f2⟩ ⟨rfl, ex⟩
        rw [List.getElem?_map] at ex
        cases g : (unif x i)[a]? with
        | none => rw [g] at ex; cases ex
        | some k =>
          rw [g] at ex
          obtain rfl : V.str k = v := Option.some.inj ex
          have lk := (unif_mem (List.mem_of_getElem? g)).1
          have lp : (((unif x i).take a).flatMap fun k => (XSt.signs x).map fun c => k ++ c).length ≤ 729 := by
            rw [flat_len]
            have z := List.length_take_le a (unif x i)
            have z2 : ((unif x i).take a).length ≤ 243 := Nat.le_trans (List.length_take_le' a (unif x i)) lenI
            exact Nat.le_trans (Nat.mul_le_mul z2 few3) (by decide)
          generalize eP : (((unif x i).take a).flatMap fun k => (XSt.signs x).map fun c => k ++ c) = prev at f1 lp
          refine ⟨rfl, _, rfl, _, rfl, ?_⟩
          refine walk_it walk_str (fun j H5 => H5 D = some (.lst ((prev ++ ((XSt.signs x).take j).map fun c => k ++ c).map V.str)) ∧ Ext H2 H5) ⟨by simpa using f1, f2⟩ (fun _ _ _ _ => trivial) ?_ ?_
          · rintro j v H5 H6 hj ⟨f3, f4⟩ ⟨rfl, c, hc, rfl⟩
            have gs : (XSt.signs x)[j]? = some ⟨#[c]⟩ := by
              unfold XSt.signs
              rw [List.getElem?_map, Array.getElem?_toList, hc]
              rfl
            refine ⟨rfl, _, rfl, _, rfl, k, _, rfl, rfl, by show k.length + 1 ≤ sizeLine; omega, ?_⟩
            refine ⟨_, f3, ?_, ?_, fun b u e => ?_⟩
            · have z := List.length_take_le j (XSt.signs x)
              have hj' : j < x.length := hj
              rw [List.length_map, List.length_append, List.length_map]
              omega
            · have e9 : (prev ++ ((XSt.signs x).take (j + 1)).map fun c => k ++ c).map V.str = (prev ++ ((XSt.signs x).take j).map fun c => k ++ c).map V.str ++ [V.str (k ++ ⟨#[c]⟩)] := by
                rw [take_more gs]
                simp only [List.map_append, List.map_cons, List.map_nil, List.append_assoc]
              rw [e9]
              exact upd_same
            · rw [upd_ne (ne_of_none e hD)]
              exact f4 b u e
          · rintro H5 ⟨f3, f4⟩
            refine ⟨?_, f4⟩
            rw [take_more g, List.flatMap_append, eP, List.flatMap_singleton]
            have all : (XSt.signs x).take x.cps.size = XSt.signs x := List.take_of_length_le (by rw [signs_count]; exact Nat.le_refl _)
            rw [all] at f3
            exact f3
      · rintro H3 ⟨f1, f2⟩
        rw [List.length_map, List.take_length] at f1
        have f1 : H3 D = some (.lst ((unif x (i + 1)).map V.str)) := f1
        refine ⟨_, rfl, D, _, rfl, .inl (SqL.of f1), _, _, rfl, rfl, _, rfl, ?_⟩
        rw [List.length_map, decide_eq_false (show ¬ (((unif x (i + 1)).length : Int) > 400) by omega)]
        exact iteF ⟨_, _, _, D, rfl, f1, k2.trans f2⟩
    · rintro σ H2 ⟨o4, o5, o6, l, rfl, el, k2⟩
      have lenN : (unif x n).length ≤ 243 := by
        rw [unif_len]
        exact pow_few abc.few n5
      refine ⟨rfl, _, rfl, _, rfl, l, _, rfl, .inl ⟨SqL.of el, fun tp htp => ?_⟩⟩
      intro b dx hb hdx ndx
      have e3 : (upd H2 tp (.tup ((unif x n).map V.str))) tp = some (.tup ((unif x n).map V.str)) := upd_same
      have ntb : tp ≠ b := ne_of_none e3 hb
      have ntd : tp ≠ dx := ne_of_none e3 hdx
      have k3 : Ext H (upd H2 tp (.tup ((unif x n).map V.str))) := k2.new htp
      refine ⟨b, dx, tp, x, unif x n, rfl, upd_same, abc.good, SqT.of (by rw [upd_ne ntb, upd_ne ntd]; exact e3), ntb, fun y my => ?_, by omega, ?_, pre_same fun k m => (unif_mem m).1, suf_same fun k m => (unif_mem m).1, fun H' off bk => ⟨rfl, q b H' (free_back k3 hb) (fun c o e => ?_) ?_⟩⟩
      · obtain ⟨e1, e2⟩ := unif_mem my
        exact goodW_of abc e2 (by omega) (by omega)
      · have := ordT_len (unif x n)
        omega
      · have z := k3 _ _ e
        have n1 : c ≠ b := ne_of_none z hb
        have n2 : c ≠ dx := ne_of_none z hdx
        exact off c o n1 (by rw [upd_ne n1, upd_ne n2]; exact z)
      · rw [ordT_unif abc.asc] at bk
        exact bk
end
end B3

/-! the law's own order, its draws -/
namespace B3
open PySem PySem.Spec PyProof.Rows L2 XSt NX XB
open PySem.W (Frag)
abbrev sSorted : Stmt := top 34
abbrev sLine : Stmt := top 33
def spSorted (K : Frag) : Sp := fun vs H Q _ => ∃ (l : Addr) (ys : List Str), vs = [.ref l] ∧ SqL K H l (ys.map V.str) ∧ ys.length < 64 ∧ (∀ y ∈ ys, y.length ≤ 8000) ∧ ∀ q H', H q = none → Ext H H' → H' q = some (.tup ((ordT ys).map V.str)) → Q (.ref q) H'
section
variable {P : Program} {w : World} {K : Frag} {mg : Str → Option Value} {base : Heap} {f fB fS : Addr} {fd dB dS : FuncData}
theorem scSorted : FnScope ["lot", "pair", "piece"] ["lot"] (defScope sSorted) := ⟨rfl, rfl, rfl, by decide +kernel, rfl, by decide +kernel, by decide +kernel⟩
theorem ok_law_sorted (F : FnP K "_law_sorted" sSorted f fd) (M : Free mg) : FnOk P w K mg base CX0 1 f fd ["lot"] (spSorted K) := by
  refine F.ok scSorted (fun vs H Q E h => ?_) (fun cdv A outer s H vs Q E hr h => ?_)
  · obtain ⟨l, ys, rfl, _⟩ := h
    rfl
  · obtain ⟨l, ys, rfl, sq, few, short, q⟩ := h
    have hs : sizeLine = 16777216 := sizeLine_eq
    refine ⟨_, PSs.nox (pss_one (ps_ret (pe_callTy call_tuple_of (by rfl) M.tuple (by decide +kernel) (pa_cons (pe_lc (own := [("pair", 1)]) (g := gName 1) (tt := tYes) (te := tOp (rIxT K) (tVar 1) (tC (.int 1))) rfl scSorted.nd
        (pi_list (pe_callB (cr_sortedP rfl hr.units) (by rfl) M.sorted (by decide +kernel) (pa_cons (pe_callTy (cr_setP rfl hr.units) (by rfl) M.set (by decide +kernel)
          (pa_cons (pe_lc (own := [("piece", 2)]) (g := gName 2) (tt := tYes) (te := tTup (tCons (tCB (rLen K) (tCons (tVar 2) tNil)) (tCons (tVar 2) tNil))) rfl scSorted.nd (pi_list (pv 0)) (blkOk_by (N := ["lot", "pair", "piece"]) (sc := defScope sSorted) (by decide +kernel))
            (fun _ _ _ _ _ => pg_name (i := 2) scSorted.nd rfl (Or.inl rfl)) (fun _ _ _ _ _ => pts_nil) (fun _ _ _ _ _ => by exact pe_tup (pa_cons (pe_callB call_len (by rfl) M.len PySem.boot_len (pa_cons (pv 2) pa_nil)) (pa_cons (pv 2) pa_nil)))) pa_nil)) pa_nil)))
        (blkOk_by (N := ["lot", "pair", "piece"]) (sc := defScope sSorted) (by decide +kernel))
        (fun _ _ _ _ _ => pg_name (i := 1) scSorted.nd rfl (Or.inl rfl)) (fun _ _ _ _ _ => pts_nil) (fun _ _ _ _ _ => by exact pe_ix ix_tup (pv 1) pe_int (fun _ _ => rfl))) pa_nil)))), ?_⟩
    refine ⟨_, rfl, l, rfl, ⟨_, sq⟩, fun D hD => ?_⟩
    refine lc_it walk_list (fun i H2 => ∃ ks : List (Addr × Int × Str), H2 D = some (.lst (ks.map fun p => V.ref p.1)) ∧ ks.map (·.2) = (ys.take i).map lenOf ∧ (∀ p ∈ ks, H2 p.1 = some (.tup [.int p.2.1, .str p.2.2])) ∧ Ext H H2)
      ⟨[], upd_same, rfl, fun _ z => (by cases z), (Ext.refl H).new hD⟩ (fun i H2 _ z => by obtain ⟨ks, _, _, _, k⟩ := z; exact sqL_ext k sq) ?_ ?_
    · rintro i x H2 H3 hi ⟨ks, e1, e2, e3, e4⟩ ⟨rfl, ex⟩
      rw [List.getElem?_map] at ex
      cases g : ys[i]? with
      | none => rw [g] at ex; cases ex
      | some y =>
        rw [g] at ex
        obtain rfl : V.str y = x := Option.some.inj ex
        have sy := short y (List.mem_of_getElem? g)
        refine ⟨rfl, _, rfl, _, y.length, rfl, ⟨by omega, rfl⟩, _, rfl, by show 2 ≤ sizeLine; omega, fun T hT => ?_⟩
        have nTD : D ≠ T := ne_of_none e1 hT
        have kl : ks.length = ((ys.take i).map lenOf).length := by rw [← e2, List.length_map]
        refine ⟨ks.map fun p => V.ref p.1, by rw [upd_ne nTD]; exact e1, by rw [List.length_map, kl, List.length_map]; have := List.length_take_le i ys; rw [List.length_map] at hi; omega, ks ++ [(T, lenOf y)], ?_, ?_, fun p m => ?_, fun b u e => ?_⟩
        · rw [List.map_append]
          exact upd_same
        · rw [List.map_append, e2, take_more g, List.map_append]
          rfl
        · rcases List.mem_append.mp m with m | m
          · have z := e3 p m
            have n1 : p.1 ≠ D := fun n => by
              rw [n, e1] at z
              cases z
            rw [upd_ne n1, upd_ne (ne_of_none z hT)]
            exact z
          · rw [List.mem_singleton.mp m]
            rw [upd_ne (Ne.symm nTD)]
            exact upd_same
        · have z := e4 b u e
          rw [upd_ne (ne_of_none e hD), upd_ne (ne_of_none z hT)]
          exact z
    · rintro H2 ⟨ks, e1, e2, e3, e4⟩
      rw [List.length_map, List.take_length] at e2
      have klen : ks.length = ys.length := by
        have z := congrArg List.length e2
        simpa using z
      refine ⟨D, ks, rfl, SqL.of e1, fun p m => SqT.of (e3 p m), by omega, fun a L ha sub pL => ?_⟩
      refine ⟨a, L, rfl, upd_same, fun p m => SqT.of (by rw [upd_ne (ne_of_none (e3 p (sub p m)) ha)]; exact e3 p (sub p m)), fun p L' hp pm eL => ?_⟩
      have told : L'.map (fun z => z.2.2) = ordT ys := by
        have z := congrArg (List.map Prod.snd) eL
        rw [List.map_map] at z
        rw [e2] at pL
        rw [← pairs_sorted pL, ← z]
        rfl
      have here : ∀ z ∈ L', (upd (upd H2 a (SO (prKit P w) a L)) p (.lst (L'.map fun q => V.ref q.1))) z.1 = some (.tup [.int z.2.1, .str z.2.2]) := fun z m => by
        have y := e3 z (sub z (pm.mem_iff.mp m))
        have y2 : (upd H2 a (SO (prKit P w) a L)) z.1 = some (.tup [.int z.2.1, .str z.2.2]) := by
          rw [upd_ne (ne_of_none y ha)]
          exact y
        rw [upd_ne (ne_of_none y2 hp)]
        exact y2
      have ext : Ext H (upd (upd H2 a (SO (prKit P w) a L)) p (.lst (L'.map fun q => V.ref q.1))) := (e4.new ha).new hp
      have lenL : L'.length ≤ 64 := by
        have z := congrArg List.length told
        rw [List.length_map] at z
        rw [z]
        unfold ordT
        rw [List.length_mergeSort]
        have := once_len ys
        omega
      obtain ⟨H3, eH⟩ : ∃ H3, upd (upd H2 a (SO (prKit P w) a L)) p (.lst (L'.map fun q => V.ref q.1)) = H3 := ⟨_, rfl⟩
      have at_ : H3 p = some (.lst (L'.map fun q => V.ref q.1)) := by rw [← eH]; exact upd_same
      rw [eH] at here ext
      refine ⟨_, rfl, ⟨_, SqL.of upd_same⟩, fun D2 hD2 => ?_⟩
      have hD2 : H3 D2 = none := by rw [← eH]; exact hD2
      refine lc_it walk_list (fun i H4 => H4 D2 = some (.lst (((L'.take i).map fun z => z.2.2).map V.str)) ∧ Ext H3 H4) ⟨upd_same, by rw [← eH] at hD2 ⊢; exact (Ext.refl _).new hD2⟩ (fun i H4 _ z => SqL.of (z.2 _ _ at_)) ?_ ?_
      · rintro i x H4 H5 hi ⟨f1, f2⟩ ⟨rfl, ex⟩
        rw [List.getElem?_map] at ex
        cases g : L'[i]? with
        | none => rw [g] at ex; cases ex
        | some z =>
          rw [g] at ex
          obtain rfl : V.ref z.1 = x := Option.some.inj ex
          have hz := f2 _ _ (here z (List.mem_of_getElem? g))
          refine ⟨rfl, _, rfl, z.1, _, _, _, rfl, rfl, SqT.of hz, atI_nat (j := 1) rfl, ?_⟩
          refine ⟨_, f1, by rw [List.length_map, List.length_map]; have := List.length_take_le i L'; have z9 := (List.getElem?_eq_some_iff.mp g).1; omega, ?_, fun b u e => ?_⟩
          · rw [take_more g, List.map_append, List.map_append]
            exact upd_same
          · rw [upd_ne (ne_of_none e hD2)]
            exact f2 b u e
      · rintro H4 ⟨f1, f2⟩
        rw [List.length_map, List.take_length, told] at f1
        refine ⟨D2, _, rfl, Or.inl ⟨SqL.of f1, fun t ht => ?_⟩⟩
        have e5 := (ext.trans f2)
        refine q t _ ?_ (e5.new ht) upd_same
        cases z : H t with
        | none => rfl
        | some o =>
          have y := ht.symm.trans (e5 _ _ z)
          cases y
end
def spPickS (K : Frag) : Sp := fun vs H Q _ => ∃ (j : Addr) (x : V), vs = [.ref j, x] ∧ JugAt H j ∧
  ((∃ p xs, x = .ref p ∧ SqL K H p xs ∧ p ≠ j ∧ xs ≠ [] ∧ xs.length ≤ 1000 ∧ ∀ y H', y ∈ xs → Kj j H H' → Q y H') ∨
   ∃ z : Str, x = .str z ∧ 1 ≤ z.length ∧ z.length ≤ 1000 ∧ ∀ c H', c ∈ z.cps.toList → Kj j H H' → Q (.str ⟨#[c]⟩) H')
def spLine : Sp := fun vs H Q _ => ∃ (j : Addr) (z : Str) (n : Nat), vs = [.ref j, .str z, .int (n : Int)] ∧ JugAt H j ∧ 1 ≤ z.length ∧ z.length ≤ 1000 ∧ n ≤ 1000 ∧
  ∀ x H', (∀ c ∈ x.cps.toList, c ∈ z.cps.toList) → x.length ≤ n → Kj j H H' → Q (.str x) H'
section
variable {P : Program} {w : World} {K : Frag} {mg : Str → Option Value} {base : Heap} {f fB fP : Addr} {fd dB dP : FuncData}
theorem scLine : FnScope ["jug", "signs", "most", "turn"] ["jug", "signs", "most"] (defScope sLine) := ⟨rfl, rfl, rfl, by decide +kernel, rfl, by decide +kernel, by decide +kernel⟩
theorem ok_pickS (F : FnP K "_law_pick" sPick f fd) (FB : FnOk P w K mg base CX0 1 fB dB ["jug", "much"] spBit) (gB : mg "_law_bit" = some (.ref fB)) (kB : PySem.W.keepIn K (.ref fB) = true) (bB : Binds K dB ["jug", "much"] []) (M : Free mg) :
    FnOk P w K mg base CX0 2 f fd ["jug", "items"] (spPickS K) := by
  refine F.ok scPick (fun vs H Q E h => ?_) (fun cdv A outer s H vs Q E hr h => ?_)
  · obtain ⟨j, x, rfl, _⟩ := h
    rfl
  · obtain ⟨j, x, rfl, hj, way⟩ := h
    have hs : sizeLine = 16777216 := sizeLine_eq
    refine ⟨_, PSs.nox (pss_one (ps_ret (pe_ix ix_seq (pv 1) (pe_call FB hr rfl gB kB bB .nil pass0 (pa_cons (pv 0) (pa_cons (pe_callB call_len (by rfl) M.len PySem.boot_len (pa_cons (pv 1) pa_nil)) pa_nil))) (fun _ _ => rfl)))), ?_⟩
    rcases way with ⟨p, xs, rfl, sq, hpj, ne, few, q⟩ | ⟨z, rfl, one, few, q⟩
    · have h0 : 0 < xs.length := List.length_pos_iff.mpr ne
      refine ⟨_, rfl, _, rfl, _, rfl, _, xs.length, rfl, Or.inl ⟨xs, sq, rfl⟩, j, _, rfl, hj, by omega, by omega, fun r H' r0 r1 hk => ?_⟩
      have hi : r.toNat < xs.length := by omega
      have er : r = ((r.toNat : Nat) : Int) := by omega
      rw [er]
      exact Or.inl ⟨_, _, _, _, rfl, rfl, hk.sqL hpj sq, atI_nat (List.getElem?_eq_getElem hi), q _ _ (List.getElem_mem hi) hk⟩
    · refine ⟨_, rfl, _, rfl, _, rfl, _, z.length, rfl, ⟨by omega, rfl⟩, j, _, rfl, hj, by omega, by omega, fun r H' r0 r1 hk => ?_⟩
      have len : z.cps.toList.length = z.length := by rw [Array.length_toList]; rfl
      have hi : r.toNat < z.cps.toList.length := by omega
      have er : r = ((r.toNat : Nat) : Int) := by omega
      rw [er]
      exact Or.inr (Or.inr ⟨_, _, _, rfl, rfl, by omega, atI_nat (List.getElem?_eq_getElem hi), q _ _ (List.getElem_mem hi) hk⟩)

theorem ok_line (F : FnP K "_law_line" sLine f fd) (M : Free mg) (mR : mg "range" = none) (FB : FnOk P w K mg base CX0 1 fB dB ["jug", "much"] spBit) (gB : mg "_law_bit" = some (.ref fB)) (kB : PySem.W.keepIn K (.ref fB) = true) (bB : Binds K dB ["jug", "much"] [])
    (FP : FnOk P w K mg base CX0 2 fP dP ["jug", "items"] (spPickS K)) (gP : mg "_law_pick" = some (.ref fP)) (kP : PySem.W.keepIn K (.ref fP) = true) (bP : Binds K dP ["jug", "items"] []) :
    FnOk P w K mg base CX0 3 f fd ["jug", "signs", "most"] spLine := by
  refine F.ok scLine (fun vs H Q E h => ?_) (fun cdv A outer s H vs Q E hr h => ?_)
  · obtain ⟨j, z, n, rfl, _⟩ := h
    rfl
  · obtain ⟨j, z, n, rfl, hj, one, few, lim, q⟩ := h
    have hs : sizeLine = 16777216 := sizeLine_eq
    refine ⟨_, PSs.nox (pss_one (ps_ret (pe_bm PySem.F.plainAttrs_str PySem.F.slot_str_join PySem.F.type_str_join mt_join pe_str
      (pa_cons (pe_lc (own := [("turn", 3)]) (g := gName 3) (tt := tYes) (te := tCall (spPickS K) [] E0 (tCons (tVar 0) (tCons (tVar 1) tNil))) rfl scLine.nd
        (pi_range1 (by rfl) mR (pa_cons (pe_call FB (hr.mono (by decide)) (by rfl) gB kB bB .nil pass0 (pa_cons (pv 0) (pa_cons (pe_op op_add (pv 2) pe_int) pa_nil))) pa_nil))
        (blkOk_by (N := ["jug", "signs", "most", "turn"]) (sc := defScope sLine) (by decide +kernel)) (fun _ _ _ _ _ => pg_name (i := 3) scLine.nd rfl (Or.inl rfl)) (fun _ _ _ _ _ => pts_nil)
        (fun _ _ _ _ _ => by exact pe_call FP hr (by rfl) gP kP bP .nil pass0 (pa_cons (pv 0) (pa_cons (pv 1) pa_nil)))) pa_nil)))), ?_⟩
    refine ⟨rfl, _, rfl, _, rfl, _, _, rfl, rfl, j, _, rfl, hj, by omega, by omega, fun r H1 r0 r1 hk => ?_⟩
    refine ⟨_, rfl, by omega, by omega, fun D hD => ?_⟩
    have nDj : D ≠ j := fun z => by
      obtain ⟨a, b, c, e, _⟩ := hk.2
      rw [z, e] at hD
      cases hD
    have hDH : H D = none := by
      cases e : H D with
      | none => rfl
      | some o =>
        rw [hk.1 D o nDj e] at hD
        cases hD
    refine lc_range (n := r.toNat) (fun i H2 => ∃ l : List Str, H2 D = some (.lst (l.map V.str)) ∧ l.length = i ∧ (∀ y ∈ l, ∃ c, y = ⟨#[c]⟩ ∧ c ∈ z.cps.toList) ∧ Kj j H H2) ⟨[], upd_same, rfl, fun _ y => (by cases y), hk.new hDH nDj⟩ ?_ ?_
    · rintro i H2 hi ⟨l, e1, e2, e3, k2⟩
      refine ⟨rfl, _, rfl, _, rfl, j, _, rfl, k2.2, Or.inr ⟨z, rfl, one, few, fun c H3 mc k3 => ?_⟩⟩
      have e4 := k3.1 D _ nDj e1
      refine ⟨_, e4, by rw [List.length_map]; omega, l ++ [⟨#[c]⟩], ?_, by rw [List.length_append, e2]; rfl, fun y my => ?_, (k2.trans k3).new hDH nDj⟩
      · rw [List.map_append]
        exact upd_same
      · rcases List.mem_append.mp my with my | my
        · exact e3 y my
        · exact ⟨c, List.mem_singleton.mp my, mc⟩
    · rintro H2 ⟨l, e1, e2, e3, k2⟩
      have ones : (l.map (·.length)).sum ≤ l.length := sum_ones l fun y my => by
        obtain ⟨c, rfl, _⟩ := e3 y my
        exact Nat.le_refl _
      have e0 : (Str.ofString "").length = 0 := rfl
      refine ⟨_, D, l, rfl, rfl, Or.inl (SqL.of e1), by rw [e0]; omega, q _ H2 (fun c mc => ?_) ?_ k2⟩
      · have y : (Txt.join (Str.ofString "") l).cps.toList = (l.map fun x => x.cps.toList).flatten := joined_list l
        rw [y] at mc
        obtain ⟨t, mt, mc⟩ := List.mem_flatten.mp mc
        obtain ⟨y, my, rfl⟩ := List.mem_map.mp mt
        obtain ⟨d, rfl, md⟩ := e3 y my
        obtain rfl : c = d := List.mem_singleton.mp mc
        exact md
      · have y : (Txt.join (Str.ofString "") l).cps.toList = (l.map fun x => x.cps.toList).flatten := joined_list l
        have len : (Txt.join (Str.ofString "") l).cps.toList.length = (Txt.join (Str.ofString "") l).length := by rw [Array.length_toList]; rfl
        have sum : ∀ l : List Str, (l.map fun x => x.cps.toList).flatten.length = (l.map (·.length)).sum := by
          intro l
          induction l with
          | nil => rfl
          | cons a l ih =>
            rw [List.map_cons, List.flatten_cons, List.length_append, ih, List.map_cons, List.sum_cons, Array.length_toList]
            rfl
        rw [← len, y, sum]
        omega
end
end B3

/-! letters that are drawn, texts that meet, sets of words that don't -/
namespace B3
open PySem PySem.Spec PyProof.Rows L2 XSt NX XB
open PySem.W (Frag)
abbrev sSigns : Stmt := top 32
abbrev sMeet : Stmt := top 35
abbrev sLot : Stmt := top 36
def fourS : List Str := [Str.ofString "ab", Str.ofString "ab", Str.ofString "ab", Str.ofString "xy", Str.ofString "a", Str.ofString "abc"]
theorem four_abc : ∀ x ∈ fourS, Abc x := by
  have a : ∀ x ∈ fourS, Asc x := by unfold Asc; decide +kernel
  have b : ∀ x ∈ fourS, 1 ≤ x.length ∧ x.length ≤ 3 ∧ ∀ c ∈ cs x, 97 ≤ c ∧ c ≤ 122 := by decide +kernel
  exact fun x m => abc_of (a x m) (b x m).1 (b x m).2.1 (b x m).2.2
theorem jug_none {H : Hp} {j p : Addr} (h : JugAt H j) (n : H p = none) : p ≠ j := fun z => by
  obtain ⟨a, b, c, e, _⟩ := h
  rw [z, e] at n
  cases n
theorem Kj.none {H H' : Hp} {j p : Addr} (k : Kj j H H') (n : H' p = none) : H p = none := by
  have d := jug_none k.2 n
  cases e : H p with
  | none => rfl
  | some o =>
    rw [k.1 _ _ d e] at n
    cases n
theorem Kj.ext {H H1 H2 : Hp} {j : Addr} (k : Kj j H H1) (e : Ext H1 H2) : Kj j H H2 := ⟨fun b o n h => e _ _ (k.1 b o n h), by
  obtain ⟨a, b, c, h, z⟩ := k.2
  exact ⟨a, b, c, e _ _ h, z⟩⟩
def spSigns : Sp := fun vs H Q _ => ∃ j, vs = [.ref j] ∧ JugAt H j ∧ ∀ x H', x ∈ fourS → Kj j H H' → Q (.str x) H'
def spMeet : Sp := fun vs H Q _ => ∃ a b : Str, vs = [.str a, .str b] ∧ a.length ≤ 8000 ∧ b.length ≤ 8000 ∧ ∀ H', Ext H H' → Q (.bl (meetB a b)) H'
/-- a drawn set: words over x, of at most n letters, no two of which meet, in order -/
structure LotOk (x : Str) (n : Nat) (ws : List Str) : Prop where
  one : ∀ k ∈ ws, 1 ≤ k.length ∧ k.length ≤ n ∧ ∀ c ∈ cs k, c ∈ cs x
  pre : NoPre ws
  suf : NoSuf ws
  ord : ordT ws = ws
def spLot : Sp := fun vs H Q _ => ∃ (j : Addr) (x : Str) (m n : Nat), vs = [.ref j, .str x, .int (m : Int), .int (n : Int)] ∧ JugAt H j ∧ Abc x ∧ m ≤ 60 ∧ 1 ≤ n ∧ n ≤ 400 ∧
  ∀ p ws H', H p = none → Kj j H H' → H' p = some (.tup (ws.map V.str)) → LotOk x n ws → ws.length ≤ m → Q (.ref p) H'
section
variable {P : Program} {w : World} {K : Frag} {mg : Str → Option Value} {base : Heap} {f fB fP fL fM fS : Addr} {fd dB dP dL dM dS : FuncData}
theorem scSigns : FnScope ["jug"] ["jug"] (defScope sSigns) := ⟨rfl, rfl, rfl, by decide +kernel, rfl, by decide +kernel, by decide +kernel⟩
theorem scMeet : FnScope ["one", "two", "short", "long"] ["one", "two"] (defScope sMeet) := ⟨rfl, rfl, rfl, by decide +kernel, rfl, by decide +kernel, by decide +kernel⟩
theorem scLot : FnScope ["jug", "signs", "much", "most", "found", "turn", "piece", "one"] ["jug", "signs", "much", "most"] (defScope sLot) := ⟨rfl, rfl, rfl, by decide +kernel, rfl, by decide +kernel, by decide +kernel⟩
theorem ok_signs (F : FnP K "_law_signs" sSigns f fd) (FP : FnOk P w K mg base CX0 2 fP dP ["jug", "items"] (spPickS K)) (gP : mg "_law_pick" = some (.ref fP)) (kP : PySem.W.keepIn K (.ref fP) = true) (bP : Binds K dP ["jug", "items"] []) :
    FnOk P w K mg base CX0 3 f fd ["jug"] spSigns := by
  refine F.ok scSigns (fun vs H Q E h => ?_) (fun cdv A outer s H vs Q E hr h => ?_)
  · obtain ⟨j, rfl, _⟩ := h
    rfl
  · obtain ⟨j, rfl, hj, q⟩ := h
    refine ⟨_, PSs.nox (pss_one (ps_ret (pe_call FP hr (by rfl) gP kP bP .nil pass0 (pa_cons (pv 0) (pa_cons (pe_lst (pa_cons pe_str (pa_cons pe_str (pa_cons pe_str (pa_cons pe_str (pa_cons pe_str (pa_cons pe_str pa_nil))))))) pa_nil))))), ?_⟩
    refine ⟨_, rfl, by show 6 ≤ sizeLine; decide, fun p hp => ?_⟩
    have npj := jug_none hj hp
    have k0 := (Kj.refl hj).new hp npj (o := .lst (fourS.map V.str))
    refine ⟨j, _, rfl, k0.2, Or.inl ⟨p, fourS.map V.str, rfl, SqL.of upd_same, npj, by simp [fourS], by simp [fourS], fun y H' my k1 => ?_⟩⟩
    obtain ⟨x, mx, rfl⟩ := List.mem_map.mp my
    exact q x H' mx (k0.trans k1)
theorem ok_meet (F : FnP K "_law_meet" sMeet f fd) (M : Free mg) : FnOk P w K mg base CX0 1 f fd ["one", "two"] spMeet := by
  refine F.ok scMeet (fun vs H Q E h => ?_) (fun cdv A outer s H vs Q E hr h => ?_)
  · obtain ⟨a, b, rfl, _⟩ := h
    rfl
  · obtain ⟨a, b, rfl, la, lb, q⟩ := h
    have hs : sizeLine = 16777216 := sizeLine_eq
    refine ⟨_, PSs.nox (pss_cons (ps_asg (pe_ifExp (pt_cmpR op_le (pe_callB call_len (by rfl) M.len PySem.boot_len (pa_cons (pv 0) pa_nil)) (pe_callB call_len (by rfl) M.len PySem.boot_len (pa_cons (pv 1) pa_nil)) (nomark _))
          (pe_tup (pa_cons (pv 0) (pa_cons (pv 1) pa_nil))) (pe_tup (pa_cons (pv 1) (pa_cons (pv 0) pa_nil))))
        (pg_tup (by rfl) (pgs_cons (pg_name (i := 2) scMeet.nd rfl (.inl rfl)) (pgs_cons (pg_name (i := 3) scMeet.nd rfl (.inl rfl)) pgs_nil))))
      (pss_one (ps_ret (pe_or (pe_cmpR op_eq (pe_slice sl_str (pv 3) po_none (po_some (pe_callB call_len (by rfl) M.len PySem.boot_len (pa_cons (pv 2) pa_nil)))) (pv 2) (nomark _))
        (pe_one (pe_cmpR op_eq (pe_slice sl_str (pv 3) (po_some (pe_op op_sub (pe_callB call_len (by rfl) M.len PySem.boot_len (pa_cons (pv 3) pa_nil)) (pe_callB call_len (by rfl) M.len PySem.boot_len (pa_cons (pv 2) pa_nil)))) po_none) (pv 2) (nomark _))))))), ?_⟩
    refine ⟨_, rfl, _, a.length, rfl, ⟨by omega, rfl⟩, _, rfl, _, b.length, rfl, ⟨by omega, rfl⟩, _, _, rfl, rfl, _, rfl, ?_⟩
    have rest : ∀ (s l : Str) (T : Addr), H T = none → s.length ≤ l.length → l.length ≤ 8000 → meetB a b = (Txt.startswith l s || Txt.endswith l s) → Q (.bl (Txt.startswith l s || Txt.endswith l s)) (upd H T (.tup [.str s, .str l])) := fun s l T hT _ _ e => by
      rw [← e]
      exact q _ ((Ext.refl H).new hT)
    refine ite2 (fun c => ?a) (fun c => ?b)
    case' a =>
      have c := of_decide_eq_true c
      refine ⟨_, rfl, _, rfl, by show 2 ≤ sizeLine; decide, fun T hT => ⟨T, _, rfl, SqT.of upd_same, rfl, _, _, rfl, _, _, rfl, rfl, ?_⟩⟩
      have r := rest a b T hT (by omega) lb (by unfold meetB; rw [if_pos (by omega)])
      have cle : a.length ≤ b.length := by omega
    case' b =>
      have c := of_decide_eq_false (Bool.not_eq_true _ ▸ c)
      refine ⟨_, rfl, _, rfl, by show 2 ≤ sizeLine; decide, fun T hT => ⟨T, _, rfl, SqT.of upd_same, rfl, _, _, rfl, _, _, rfl, rfl, ?_⟩⟩
      have r := rest b a T hT (by omega) la (by unfold meetB; rw [if_neg (by omega)])
      have cle : b.length ≤ a.length := by omega
    all_goals
      refine ⟨_, rfl, _, rfl, _, _, rfl, ⟨by omega, rfl⟩, _, rfl, _, rfl, by omega, _, rfl, rfl, _, rfl, ?_⟩
      rw [cut_starts cle]
      generalize Txt.startswith _ _ = g at r ⊢
      cases g with
      | true => exact iteT r
      | false =>
        refine iteF ⟨_, rfl, _, rfl, _, _, rfl, ⟨by omega, rfl⟩, _, rfl, _, _, rfl, ⟨by omega, rfl⟩, _, _, rfl, rfl, _, rfl, _, rfl, by omega, _, rfl, rfl, ?_⟩
        rw [cut_ends cle]
        exact r
theorem ok_lot (F : FnP K "_law_lot" sLot f fd) (M : Free mg) (mR : mg "range" = none) (FP : FnOk P w K mg base CX0 2 fP dP ["jug", "items"] (spPickS K)) (gP : mg "_law_pick" = some (.ref fP)) (kP : PySem.W.keepIn K (.ref fP) = true) (bP : Binds K dP ["jug", "items"] [])
    (FL : FnOk P w K mg base CX0 3 fL dL ["jug", "signs", "most"] spLine) (gL : mg "_law_line" = some (.ref fL)) (kL : PySem.W.keepIn K (.ref fL) = true) (bL : Binds K dL ["jug", "signs", "most"] [])
    (FM : FnOk P w K mg base CX0 1 fM dM ["one", "two"] spMeet) (gM : mg "_law_meet" = some (.ref fM)) (kM : PySem.W.keepIn K (.ref fM) = true) (bM : Binds K dM ["one", "two"] [])
    (FS : FnOk P w K mg base CX0 1 fS dS ["lot"] (spSorted K)) (gS : mg "_law_sorted" = some (.ref fS)) (kS : PySem.W.keepIn K (.ref fS) = true) (bS : Binds K dS ["lot"] []) :
    FnOk P w K mg base CX0 4 f fd ["jug", "signs", "much", "most"] spLot := by
  refine F.ok scLot (fun vs H Q E h => ?_) (fun cdv A outer s H vs Q E hr h => ?_)
  · obtain ⟨j, x, m, n, rfl, _⟩ := h
    rfl
  · obtain ⟨j, x, m, n, rfl, hj, abc, m60, n1, n400, q⟩ := h
    have hs : sizeLine = 16777216 := sizeLine_eq
    refine ⟨_, PSs.nox (pss_cons (ps_set (i := 4) scLot.nd rfl (.inl rfl) (pe_lst pa_nil))
      (pss_cons (ps_for PassesOwn.never rfl (pi_range1 (by rfl) mR (pa_cons (pv 2) pa_nil)) (pg_name (i := 5) scLot.nd rfl (.inl rfl))
        (pss_cons (ps_set (i := 6) scLot.nd rfl (.inr rfl) (pe_op op_addS (pe_call FP (hr.mono (by decide)) (by rfl) gP kP bP .nil pass0 (pa_cons (pv 0) (pa_cons (pv 1) pa_nil))) (pe_call FL hr (by rfl) gL kL bL .nil pass0 (pa_cons (pv 0) (pa_cons (pv 1) (pa_cons (pe_op op_sub (pv 3) pe_int) pa_nil))))))
        (pss_one (ps_if (pt_cmpR (op_eqD hr.units) (pe_lc (own := [("one", 7)]) (g := gName 7) (tt := tB (tCall spMeet [] E0 (tCons (tVar 7) (tCons (tVar 6) tNil)))) (te := tVar 7) rfl scLot.nd (pi_list (pv 4)) (blkOk_by (N := ["jug", "signs", "much", "most", "found", "turn", "piece", "one"]) (sc := defScope sLot) (by decide +kernel))
            (fun _ _ _ _ _ => pg_name (i := 7) scLot.nd rfl (Or.inl rfl)) (fun _ _ _ _ _ => by exact pts_one (pt_val (pe_call FM (hr.mono (by decide)) (by rfl) gM kM bM .nil pass0 (pa_cons (pv 7) (pa_cons (pv 6) pa_nil))))) (fun _ _ _ _ _ => by exact pv 7)) (pe_lst pa_nil) (nomark _))
          (pss_one (ps_expr (pe_bm PySem.F.plainAttrs_list PySem.F.slot_list_append PySem.F.type_list_append mt_append (pv 4) (pa_cons (pv 6) pa_nil)))) pss_nil))))
      (pss_one (ps_ret (pe_call FS (hr.mono (by decide)) (by rfl) gS kS bS .nil pass0 (pa_cons (pv 4) pa_nil)))))), ?_⟩
    refine ⟨Nat.zero_le _, fun l hl => ?_⟩
    have nlj := jug_none hj hl
    refine ⟨_, rfl, _, rfl, by omega, by omega, ?_⟩
    have en : ((n : Int) - 1) = ((n - 1 : Nat) : Int) := by omega
    refine for_range (n := m) (fun i σ H2 => ∃ o5 o6 o7 ws, σ = [some (.ref j), some (.str x), some (.int (m : Int)), some (.int (n : Int)), some (.ref l), o5, o6, o7] ∧ H2 l = some (.lst (ws.map V.str)) ∧ ws.length ≤ i ∧
      (∀ k ∈ ws, 1 ≤ k.length ∧ k.length ≤ n ∧ ∀ c ∈ cs k, c ∈ cs x) ∧ NoPre ws ∧ NoSuf ws ∧ Kj j H H2) ⟨_, _, _, [], rfl, upd_same, Nat.le_refl _, fun _ z => (by cases z), fun _ z => (by cases z), fun _ z => (by cases z), (Kj.refl hj).new hl nlj⟩ ?_ ?_
    · rintro i σ H2 hi ⟨o5, o6, o7, ws, rfl, el, lw, fine, np, ns, hk⟩
      refine ⟨_, rfl, _, rfl, j, _, rfl, hk.2, Or.inr ⟨x, rfl, abc.one, Nat.le_trans abc.few (by decide), fun c H3 mc k3 => ?_⟩⟩
      refine ⟨_, rfl, _, rfl, _, rfl, _, _, rfl, rfl, j, x, n - 1, by show [V.ref j, V.str x, V.int ((n : Int) - 1)] = _; rw [en], k3.2, abc.one, Nat.le_trans abc.few (by decide), by omega, fun y H4 my ly k4 => ?_⟩
      have few : (⟨#[c]⟩ : Str).length + y.length ≤ sizeLine := by
        show 1 + y.length ≤ sizeLine
        omega
      refine ⟨_, _, rfl, rfl, few, ?_⟩
      obtain ⟨k, ek⟩ : ∃ k, (⟨#[c]⟩ : Str) ++ y = k := ⟨_, rfl⟩
      rw [ek]
      have lk : k.length = 1 + y.length := by
        rw [← ek, app_len]
        rfl
      have mk : ∀ d ∈ cs k, d ∈ cs x := fun d md => by
        rw [← ek, cs_app] at md
        rcases List.mem_append.mp md with md | md
        · obtain rfl : d = c := List.mem_singleton.mp md
          exact mc
        · exact my d md
      have k34 := k3.trans k4
      have el4 := k34.1 l _ nlj el
      have hk4 := hk.trans k34
      refine ⟨_, rfl, l, rfl, ⟨_, SqL.of el4⟩, fun D hD => ?_⟩
      have okw : ∀ z ∈ ws, PyData.strOk z = true := fun z m => strOk_of abc.ok (fine z m).2.2
      refine walk_it walk_list (fun a H5 => H5 D = some (.lst (((ws.take a).filter fun z => meetB z k).map V.str)) ∧ Ext H4 H5) ⟨upd_same, (Ext.refl _).new hD⟩ (fun a H5 _ z => SqL.of (z.2 _ _ el4)) ?_ ?_
      · rintro a v H5 H6 ha ⟨f1, f2⟩ ⟨rfl, ex⟩
        rw [List.getElem?_map] at ex
        cases g : ws[a]? with
        | none => rw [g] at ex; cases ex
        | some z =>
          rw [g] at ex
          obtain rfl : V.str z = v := Option.some.inj ex
          have lz := fine z (List.mem_of_getElem? g)
          refine ⟨rfl, _, rfl, _, rfl, z, k, rfl, by omega, by omega, fun H7 k7 => ⟨_, rfl, ?_⟩⟩
          have nx : ((ws.take (a + 1)).filter fun z => meetB z k) = ((ws.take a).filter fun z => meetB z k) ++ (if meetB z k = true then [z] else []) := by
            rw [take_more g, List.filter_append]
            cases hz : meetB z k <;> simp [hz]
          rw [nx]
          cases hz : meetB z k with
          | true =>
            refine iteT ⟨_, rfl, _, k7 _ _ f1, ?_, ?_, fun b u e => ?_⟩
            · have z1 := List.length_filter_le (fun z => meetB z k) (ws.take a)
              have z2 := List.length_take_le a ws
              have z3 : a < ws.length := (List.getElem?_eq_some_iff.mp g).1
              rw [List.length_map]
              omega
            · rw [List.map_append]
              exact upd_same
            · rw [upd_ne (ne_of_none e hD)]
              exact k7 _ _ (f2 b u e)
          | false =>
            refine iteF ⟨?_, f2.trans k7⟩
            rw [if_neg (by simp), List.append_nil]
            exact k7 _ _ f1
      · rintro H5 ⟨f1, f2⟩
        rw [List.length_map, List.take_length] at f1
        refine ⟨by show 0 ≤ sizeLine; decide, fun N hN => ⟨_, .list [], .lst (SqL.of (by rw [upd_ne (ne_of_none f1 hN)]; exact f1)) (dpa_txt _), .lst (SqL.of upd_same) .nil, txt_shaped (fun z m => okw z (List.mem_filter.mp m).1), by decide +kernel, _, rfl, ?_⟩⟩
        rw [txt_nil]
        have x6 : Ext H4 (upd H5 N (.lst [])) := f2.new hN
        have el6 := x6 _ _ el4
        have hk6 := hk4.ext x6
        generalize upd H5 N (.lst []) = H6 at el6 hk6 ⊢
        cases hz : (ws.filter fun z => meetB z k).isEmpty with
        | false => exact iteF ⟨_, _, _, ws, rfl, el6, by omega, fine, np, ns, hk6⟩
        | true =>
          have none_ : ∀ z ∈ ws, meetB z k = false := fun z m => by
            cases hb : meetB z k with
            | false => rfl
            | true =>
              have y := List.isEmpty_iff.mp hz
              have y2 : z ∈ ws.filter fun z => meetB z k := List.mem_filter.mpr ⟨m, hb⟩
              rw [y] at y2
              cases y2
          refine iteT ⟨_, rfl, .inl ⟨rfl, _, .inl (.inl el6)⟩, _, rfl, l, _, _, rfl, rfl, el6, by rw [List.length_map]; omega, ?_⟩
          refine ⟨_, _, _, ws ++ [k], rfl, by rw [List.map_append]; exact upd_same, by rw [List.length_append]; show ws.length + 1 ≤ i + 1; omega, fun z m => ?_, np.snoc none_, ns.snoc none_, ?_⟩
          · rcases List.mem_append.mp m with m | m
            · exact fine z m
            · rw [List.mem_singleton.mp m]
              exact ⟨by omega, by omega, mk⟩
          · refine ⟨fun b o nb e => ?_, ?_⟩
            · rw [upd_ne (ne_of_none e hl)]
              exact hk6.1 b o nb e
            · obtain ⟨a1, a2, a3, e, z⟩ := hk6.2
              exact ⟨a1, a2, a3, by rw [upd_ne (Ne.symm nlj)]; exact e, z⟩
    · rintro σ H2 ⟨o5, o6, o7, ws, rfl, el, lw, fine, np, ns, hk⟩
      refine ⟨_, rfl, l, ws, rfl, SqL.of el, by omega, fun k mk => by have := (fine k mk).2.1; omega, fun p H' hp k1 e1 => ?_⟩
      refine q p (ordT ws) H' (hk.none hp) (hk.ext k1) e1 ⟨fun k mk => fine k (ordT_mem.mp mk), np.perm fun _ => ordT_mem, ns.perm fun _ => ordT_mem, ordT_twice ws⟩ ?_
      have := ordT_len ws
      omega
end
end B3

/-! the rules of books, together; what a book tells -/
namespace B3
open PySem PySem.Spec PyProof.Rows L2 XSt NX XB
open PySem.W (Frag)
abbrev sIsTold : Stmt := top 37
structure BookRules (P : Program) (w : World) (K : Frag) (mg : Str → Option Value) (base : Heap) (C : Addr) : Prop where
  B : BookK K C
  gB : mg "Book" = some (.ref C)
  lt : ∃ p g fd, PropOf K C "letters" p g ∧ FnOk P w K mg base CX0 1 g fd ["self"] (spLetters C) ∧ Binds K fd ["self"] []
  wd : ∃ p g fd, PropOf K C "words" p g ∧ FnOk P w K mg base CX0 1 g fd ["self"] (spWords C) ∧ Binds K fd ["self"] []
  lo : ∃ p g fd, PropOf K C "longest" p g ∧ FnOk P w K mg base CX0 1 g fd ["self"] (spLongest C) ∧ Binds K fd ["self"] []
  len : ∃ g fd, Own K C "__len__" g ∧ FnOk P w K mg base CX0 1 g fd ["self"] (spLen C) ∧ Binds K fd ["self"] []
  has : ∃ g fd, Own K C "__contains__" g ∧ FnOk P w K mg base CX0 1 g fd ["self", "value"] (spHas K C) ∧ Binds K fd ["self", "value"] []
  at_ : ∃ g fd, Own K C "__getitem__" g ∧ PySem.W.fnIn K g = true ∧ FnOk P w K mg base CX0 3 g fd ["self", "index"] (spAt C) ∧ Binds K fd ["self", "index"] []
  eq : ∃ g fd, Own K C "__eq__" g ∧ FnOk P w K mg base CX0 1 g fd ["self", "other"] (spEq K C) ∧ Binds K fd ["self", "other"] []
  ne : PySem.W.findIn K (.ref C) "__ne__" = some (some (.builtin "object.__ne__")) ∧ PySem.W.subIn K (.ref C) (.type "object") = some true
  str : ∃ g fd, Own K C "__str__" g ∧ FnOk P w K mg base CX0 1 g fd ["self"] (spStr C) ∧ Binds K fd ["self"] []
  make : ∃ g fd, Mk K C g ∧ FnOk P w K mg base CX0 6 g fd ["self", "letters", "words"] (spInit K C) ∧ Binds K fd ["self", "letters", "words"] []
  uni : ∃ p g fd, ClX.CMet K C (.type "type") "uniform" p g ∧ ClX.CRead K C (.type "type") ∧ FnOk P w K mg base CX0 8 g fd ["cls", "letters", "size"] (spUniform K C) ∧ Binds K fd ["cls", "letters", "size"] []
theorem raw0 {P : Program} {w : World} {K : Frag} {mg : Str → Option Value} {base : Heap} {k : Nat} {f : Addr} {fd : FuncData} {ps : List Str} {sp : Sp} (F : FnOk P w K mg base CX0 k f fd ps sp) (hb : Binds K fd ps []) : FnR P w K mg base CX0 k f sp :=
  (F.raw hb .nil).imp fun vs H Q E h => by rw [List.append_nil]; exact h
theorem empty_app (a : Str) : Str.empty ++ a = a := by
  apply cs_inj
  rw [cs_app]
  rfl
theorem told_eq (n : Nat) (x : Str) : told n x = Str.ofString "book of " ++ numS n ++ Str.ofString " words over " ++ x := by
  unfold told
  rw [empty_app]
theorem last_max {ws : List Str} {m : Int} (ord : ordT ws = ws) (h : m ∈ ws.map (fun k : Str => (k.length : Int)) ++ [0]) (top_ : ∀ y ∈ ws.map (fun k : Str => (k.length : Int)) ++ [0], y ≤ m) : m = (lastLen ws : Nat) := by
  cases g : ws.getLast? with
  | none =>
    have e : ws = [] := List.getLast?_eq_none_iff.mp g
    subst e
    simpa [lastLen] using h
  | some k =>
    have e : lastLen ws = k.length := by
      unfold lastLen
      rw [g]
      rfl
    have mk : k ∈ ws := List.mem_of_getLast? g
    have le : ∀ a ∈ ws, a.length ≤ k.length := by
      have srt : ws.Pairwise (fun a b => XSt.tLe a b = true) := by
        rw [← ord]
        exact List.pairwise_mergeSort tLe_ord.tr tLe_ord.tot _
      obtain ⟨l, rfl⟩ := List.getLast?_eq_some_iff.mp g
      intro a ma
      rcases List.mem_append.mp ma with ma | ma
      · have z := (List.pairwise_append.mp srt).2.2 a ma k (List.mem_singleton_self _)
        have z2 := pLe_iff.mp (show pLe (lenOf a) (lenOf k) = true from z)
        simp only [lenOf] at z2
        rcases z2 with z2 | ⟨z2, _⟩ <;> omega
      · rw [List.mem_singleton.mp ma]
        exact Nat.le_refl _
    have k1 : (k.length : Int) ≤ m := top_ _ (List.mem_append_left _ (List.mem_map.mpr ⟨k, mk, rfl⟩))
    rw [e]
    rcases List.mem_append.mp h with h | h
    · obtain ⟨a, ma, rfl⟩ := List.mem_map.mp h
      have := le a ma
      omega
    · have := List.mem_singleton.mp h
      omega
theorem three_shaped {x : Str} {ws : List Str} {n : Int} (hx : PyData.strOk x = true) (h : ∀ k ∈ ws, PyData.strOk k = true) : SeqAt.shaped (.list [.str x, .tuple (ws.map PyData.str), .int n]) = true := by
  unfold SeqAt.shaped
  rw [Bool.and_eq_true, decide_eq_true_eq]
  refine ⟨?_, ?_⟩
  · simp [PyData.canLay0, PyData.canLayAll0, hx, txt_can ws h]
  · simp [PyData.depth, PyData.depthAll, txt_depth]
theorem shaped_refl {d : PyData} (h : SeqAt.shaped d = true) : PyData.eqv d d = true := by
  unfold SeqAt.shaped at h
  rw [Bool.and_eq_true] at h
  exact SeqAt.eqv_refl d h.1
def spIsTold (K : Frag) (C : Addr) : Sp := fun vs H Q _ => ∃ (b p : Addr) (x : Str) (ws : List Str), vs = [.ref b, .str x, .ref p] ∧ BookAt H b C x ws ∧ SqT K H p (ws.map V.str) ∧ ws.length ≤ 400 ∧ ordT ws = ws ∧ x.length ≤ 8000 ∧ PyData.strOk x = true ∧ (∀ k ∈ ws, k.length ≤ 400 ∧ PyData.strOk k = true) ∧ ∀ H', Ext H H' → Q (.bl true) H'
def rOkI : R2 := fun x y H Q => ∃ i j : Int, x = .int i ∧ y = .int j ∧ Q (.int (i + j)) H
section
variable {P : Program} {w : World} {K : Frag} {mg : Str → Option Value} {base : Heap} {f C : Addr} {fd : FuncData}
theorem scIsTold : FnScope ["made", "signs", "lot", "at", "piece"] ["made", "signs", "lot"] (defScope sIsTold) := ⟨rfl, rfl, rfl, by decide +kernel, rfl, by decide +kernel, by decide +kernel⟩
theorem ok_is_told (F : FnP K "_law_is_told" sIsTold f fd) (R : BookRules P w K mg base C) (M : Free mg) (mR : mg "range" = none) (mL : mg "list" = none) (mX : mg "max" = none) : FnOk P w K mg base CX0 5 f fd ["made", "signs", "lot"] (spIsTold K C) := by
  have B := R.B
  obtain ⟨p1, g1, d1, P1, F1, b1⟩ := R.lt
  obtain ⟨p2, g2, d2, P2, F2, b2⟩ := R.wd
  obtain ⟨p3, g3, d3, P3, F3, b3⟩ := R.lo
  obtain ⟨g4, d4, O4, F4, b4⟩ := R.len
  obtain ⟨g5, d5, O5, F5, b5⟩ := R.has
  obtain ⟨g6, d6, O6, n6, F6, b6⟩ := R.at_
  obtain ⟨g7, d7, O7, F7, b7⟩ := R.str
  refine F.ok scIsTold (fun vs H Q E h => ?_) (fun cdv A outer s H vs Q E hr h => ?_)
  · obtain ⟨b, p, x, ws, rfl, _⟩ := h
    rfl
  · obtain ⟨b, p, x, ws, rfl, bk, sq, few, ord, lx, okx, fine, q⟩ := h
    have hs : sizeLine = 16777216 := sizeLine_eq
    refine ⟨_, PSs.nox (pss_cons (ps_if (pt_cmpR (op_neD hr.units) (pe_lst (pa_cons (pe_prop (pv 0) B.cls P1 F1 (hr.mono (by decide)) b1 .nil pass0 rfl) (pa_cons (pe_prop (pv 0) B.cls P2 F2 (hr.mono (by decide)) b2 .nil pass0 rfl)
          (pa_cons (pe_callB (call_lenO F4 (hr.mono (by decide)) O4 b4) (by rfl) M.len PySem.boot_len (pa_cons (pv 0) pa_nil)) pa_nil))))
          (pe_lst (pa_cons (pv 1) (pa_cons (pv 2) (pa_cons (pe_callB call_len_seq (by rfl) M.len PySem.boot_len (pa_cons (pv 2) pa_nil)) pa_nil)))) (nomark _)) (pss_one (ps_ret pe_bl)) pss_nil)
      (pss_cons (ps_if (PW.pt (pw_or (pt_cmpR (op_neD hr.units) (pe_lc (own := [("at", 3)]) (g := gName 3) (tt := tYes) (te := tOp (rIxO C (spAt C)) (tVar 0) (tVar 3)) rfl scIsTold.nd (pi_range1 (by rfl) mR (pa_cons (pe_callB call_len_seq (by rfl) M.len PySem.boot_len (pa_cons (pv 2) pa_nil)) pa_nil))
            (blkOk_by (N := ["made", "signs", "lot", "at", "piece"]) (sc := defScope sIsTold) (by decide +kernel)) (fun _ _ _ _ _ => pg_name (i := 3) scIsTold.nd rfl (Or.inl rfl)) (fun _ _ _ _ _ => pts_nil) (fun _ _ _ _ _ => by exact pe_ixO F6 hr O6 n6 b6 (pv 0) (pv 3)))
            (pe_callTy call_list_of (by rfl) mL (by decide +kernel) (pa_cons (pv 2) pa_nil)) (nomark _))
          (pw_or1 (pt_cmpR (op_neD hr.units) (pe_lc (own := [("piece", 4)]) (g := gName 4) (tt := tTest (tOp (rInO C (spHas K C) fun b => !b) (tVar 4) (tVar 0))) (te := tVar 4) rfl scIsTold.nd (pi_tup (pv 2))
            (blkOk_by (N := ["made", "signs", "lot", "at", "piece"]) (sc := defScope sIsTold) (by decide +kernel)) (fun _ _ _ _ _ => pg_name (i := 4) scIsTold.nd rfl (Or.inl rfl)) (fun _ _ _ _ _ => by exact pts_one (pt_cmpR (op_notInO F5 (hr.mono (by decide)) O5 b5) (pv 4) (pv 0) rfl)) (fun _ _ _ _ _ => by exact pv 4))
            (pe_lst pa_nil) (nomark _))))) (pss_one (ps_ret pe_bl)) pss_nil)
      (pss_cons (ps_if (pt_cmpR op_ne (pe_prop (pv 0) B.cls P3 F3 (hr.mono (by decide)) b3 .nil pass0 rfl) (pe_callB (cr_max rfl) (by rfl) mX (by decide +kernel) (pa_cons (pe_op op_cat
            (pe_lc (own := [("piece", 4)]) (g := gName 4) (tt := tYes) (te := tCB (rLen K) (tCons (tVar 4) tNil)) rfl scIsTold.nd (pi_tup (pv 2)) (blkOk_by (N := ["made", "signs", "lot", "at", "piece"]) (sc := defScope sIsTold) (by decide +kernel))
              (fun _ _ _ _ _ => pg_name (i := 4) scIsTold.nd rfl (Or.inl rfl)) (fun _ _ _ _ _ => pts_nil) (fun _ _ _ _ _ => by exact pe_callB call_len (by rfl) M.len PySem.boot_len (pa_cons (pv 4) pa_nil)))
            (pe_lst (pa_cons pe_int pa_nil))) pa_nil)) (nomark _)) (pss_one (ps_ret pe_bl)) pss_nil)
      (pss_one (ps_ret (pe_cmpR op_eq (pe_callTy (call_strO F7 (hr.mono (by decide)) O7 b7) (by rfl) M.str (by decide +kernel) (pa_cons (pv 0) pa_nil))
        (pe_op op_addS (pe_op op_addS (pe_op op_addS pe_str (pe_callTy call_str_int (by rfl) M.str (by decide +kernel) (pa_cons (pe_callB call_len_seq (by rfl) M.len PySem.boot_len (pa_cons (pv 2) pa_nil)) pa_nil))) pe_str) (pv 1)) (nomark _))))))), ?_⟩
    have bk0 := bk
    obtain ⟨dx, p0, d0, h1, h2, h3⟩ := bk0
    have okw : ∀ k ∈ ws, PyData.strOk k = true := fun k m => (fine k m).2
    have lenW : (ws.map V.str).length = ws.length := List.length_map ..
    refine ⟨_, rfl, b, dx, _, rfl, h1, b, x, ws, rfl, bk, _, rfl, b, dx, _, rfl, h1, b, x, ws, rfl, bk, fun wp ewp => ⟨_, rfl, b, dx, _, rfl, h1, b, x, ws, rfl, bk, by omega, ws.length, rfl, by omega, by show 3 ≤ sizeLine; decide, fun l1 hl1 => ?_⟩⟩
    have x1 : Ext H (upd H l1 (.lst [.str x, .ref wp, .int (ws.length : Nat)])) := (Ext.refl H).new hl1
    have el1 : (upd H l1 (.lst [.str x, .ref wp, .int (ws.length : Nat)])) l1 = some (.lst [.str x, .ref wp, .int (ws.length : Nat)]) := upd_same
    generalize upd H l1 (.lst [.str x, .ref wp, .int (ws.length : Nat)]) = H1 at x1 el1 ⊢
    refine ⟨_, rfl, _, rfl, _, rfl, p, _, rfl, .inr (sqT_ext x1 sq), by show 3 ≤ sizeLine; decide, fun l2 hl2 => ?_⟩
    rw [lenW]
    have x2 : Ext H1 (upd H1 l2 (.lst [.str x, .ref p, .int (ws.length : Nat)])) := (Ext.refl H1).new hl2
    have el2 : (upd H1 l2 (.lst [.str x, .ref p, .int (ws.length : Nat)])) l2 = some (.lst [.str x, .ref p, .int (ws.length : Nat)]) := upd_same
    generalize upd H1 l2 (.lst [.str x, .ref p, .int (ws.length : Nat)]) = H2 at x2 el2 ⊢
    have x02 := x1.trans x2
    have sh3 := three_shaped (n := (ws.length : Nat)) okx okw
    refine ⟨_, _, .lst (SqL.of (x2 _ _ el1)) (.cons (.str x) (.cons (.tup (SqT.of (x02 _ _ ewp)) (dpa_txt ws)) (.cons (.int _) .nil))), .lst (SqL.of el2) (.cons (.str x) (.cons (.tup (sqT_ext x02 sq) (dpa_txt ws)) (.cons (.int _) .nil))), sh3, sh3, _, rfl, ?_⟩
    rw [shaped_refl sh3]
    refine iteF ?_
    refine ⟨_, rfl, p, _, rfl, .inr (sqT_ext x02 sq), _, rfl, by omega, by omega, fun D hD => ?_⟩
    refine walk_it (walk_range (lo := 0) (n := (ws.map V.str).length)) (fun a H3 => H3 D = some (.lst ((ws.take a).map V.str)) ∧ Ext H2 H3) ⟨upd_same, (Ext.refl _).new hD⟩ (fun _ _ _ _ => trivial) ?_ ?_
    · rintro a v H3 H4 ha ⟨f1, f2⟩ ⟨rfl, rfl⟩
      rw [lenW] at ha
      have g : ws[a]? = some ws[a] := List.getElem?_eq_getElem ha
      have x03 := x02.trans f2
      refine ⟨rfl, _, rfl, _, rfl, b, dx, _, rfl, x03 _ _ h1, b, x, ws, ws[a], a, by show [V.ref b, V.int (0 + (a : Int))] = _; rw [Int.zero_add], bk.ext x03, by omega, g, _, f1, by rw [List.length_map]; have := List.length_take_le a ws; omega, ?_, fun c o e => ?_⟩
      · rw [take_more g, List.map_append]
        exact upd_same
      · rw [upd_ne (ne_of_none e hD)]
        exact f2 c o e
    rintro H3 ⟨f1, f2⟩
    rw [lenW, List.take_length] at f1
    have x03 := x02.trans f2
    refine ⟨_, rfl, p, _, rfl, .inr (sqT_ext x03 sq), fun l3 hl3 => ?_⟩
    have x4 : Ext H3 (upd H3 l3 (.lst (ws.map V.str))) := (Ext.refl H3).new hl3
    have el3 : (upd H3 l3 (.lst (ws.map V.str))) l3 = some (.lst (ws.map V.str)) := upd_same
    generalize upd H3 l3 (.lst (ws.map V.str)) = H4 at x4 el3 ⊢
    have x04 := x03.trans x4
    refine ⟨_, _, .lst (SqL.of (x4 _ _ f1)) (dpa_txt ws), .lst (SqL.of el3) (dpa_txt ws), txt_shaped okw, txt_shaped okw, _, rfl, ?_⟩
    rw [shaped_refl (txt_shaped okw)]
    refine iteF ?_
    refine ⟨_, rfl, p, rfl, ⟨_, sqT_ext x04 sq⟩, fun D2 hD2 => ?_⟩
    refine walk_it walk_tup (fun a H5 => H5 D2 = some (.lst []) ∧ Ext H4 H5) ⟨upd_same, (Ext.refl _).new hD2⟩ (fun a H5 _ z => sqT_ext (x04.trans z.2) sq) ?_ ?_
    · rintro a v H5 H6 ha ⟨e1, e2⟩ ⟨rfl, ex⟩
      obtain ⟨k, mk, rfl⟩ := List.mem_map.mp (List.mem_of_getElem? ex)
      have x05 := x04.trans e2
      refine ⟨rfl, _, rfl, _, rfl, b, dx, _, rfl, x05 _ _ h1, b, x, ws, _, rfl, bk.ext x05, Or.inl ⟨Nat.le_trans (fine k mk).1 (by decide), okw k mk⟩, _, rfl, _, rfl, ?_⟩
      rw [show inBook ws (.str k) = true from decide_eq_true mk]
      exact iteF ⟨e1, e2⟩
    rintro H5 ⟨e1, e2⟩
    have x05 := x04.trans e2
    refine ⟨by show 0 ≤ sizeLine; decide, fun N hN => ⟨.list [], .list [], .lst (SqL.of (by rw [upd_ne (ne_of_none e1 hN)]; exact e1)) .nil, .lst (SqL.of upd_same) .nil, by decide +kernel, by decide +kernel, _, rfl, ?_⟩⟩
    rw [show PyData.eqv (.list []) (.list []) = true by decide +kernel]
    refine iteF ?_
    have x06 : Ext H (upd H5 N (.lst [])) := x05.new hN
    generalize upd H5 N (.lst []) = H6 at x06 ⊢
    refine ⟨_, rfl, b, dx, _, rfl, x06 _ _ h1, b, x, ws, rfl, bk.ext x06, fun k m => (fine k m).1, ?_⟩
    refine ⟨_, rfl, p, rfl, ⟨_, sqT_ext x06 sq⟩, fun D3 hD3 => ?_⟩
    refine walk_it walk_tup (fun a H7 => H7 D3 = some (.lst (((ws.take a).map fun k : Str => (k.length : Int)).map V.int)) ∧ Ext H6 H7) ⟨upd_same, (Ext.refl _).new hD3⟩ (fun a H7 _ z => sqT_ext (x06.trans z.2) sq) ?_ ?_
    · rintro a v H7 H8 ha ⟨e3, e4⟩ ⟨rfl, ex⟩
      rw [List.getElem?_map] at ex
      cases g : ws[a]? with
      | none => rw [g] at ex; cases ex
      | some k =>
        rw [g] at ex
        obtain rfl : V.str k = v := Option.some.inj ex
        have lk := (fine k (List.mem_of_getElem? g)).1
        refine ⟨rfl, _, rfl, _, k.length, rfl, ⟨by omega, rfl⟩, _, e3, by rw [List.length_map, List.length_map]; have := List.length_take_le a ws; have := (List.getElem?_eq_some_iff.mp g).1; omega, ?_, fun c o e => ?_⟩
        · rw [take_more g, List.map_append, List.map_append]
          exact upd_same
        · rw [upd_ne (ne_of_none e hD3)]
          exact e4 c o e
    rintro H7 ⟨e3, e4⟩
    rw [lenW, List.take_length] at e3
    have x07 := x06.trans e4
    refine ⟨by show 1 ≤ sizeLine; decide, fun Z hZ => ⟨D3, Z, _, _, rfl, rfl, by rw [upd_ne (ne_of_none e3 hZ)]; exact e3, upd_same, by rw [List.length_map, List.length_map]; show ws.length + 1 ≤ sizeLine; omega, fun L hL => ?_⟩⟩
    have x08 : Ext H (upd (upd H7 Z (.lst [.int 0])) L (.lst (((ws.map fun k : Str => (k.length : Int)).map V.int) ++ [.int 0]))) := (x07.new hZ).new hL
    have eL : (upd (upd H7 Z (.lst [.int 0])) L (.lst (((ws.map fun k : Str => (k.length : Int)).map V.int) ++ [.int 0]))) L = some (.lst ((ws.map (fun k : Str => (k.length : Int)) ++ [0]).map V.int)) := by
      rw [List.map_append]
      exact upd_same
    generalize upd (upd H7 Z (.lst [.int 0])) L (.lst (((ws.map fun k : Str => (k.length : Int)).map V.int) ++ [.int 0])) = H8 at x08 eL ⊢
    refine ⟨L, ws.map (fun k : Str => (k.length : Int)) ++ [0], rfl, SqL.of eL, by rw [List.length_append]; show 0 < _ + 1; omega, fun m hm top_ => ⟨rfl, _, rfl, ?_⟩⟩
    rw [last_max ord hm top_, decide_eq_true rfl]
    refine iteF ?_
    have n1 := numS_len (n := ws.length) (by omega)
    have l1 : (Str.ofString "book of ").length = 8 := by decide +kernel
    have l2' : (Str.ofString " words over ").length = 12 := by decide +kernel
    refine ⟨_, rfl, b, dx, _, rfl, x08 _ _ h1, b, x, ws, rfl, bk.ext x08, by omega, lx, _, rfl, ?_⟩
    refine ⟨_, rfl, p, _, rfl, .inr (sqT_ext x08 sq), ?_⟩
    rw [lenW]
    refine ⟨_, rfl, log_small (by omega), _, _, rfl, rfl, by rw [l1]; show 8 + (numS ws.length).length ≤ sizeLine; omega, _, _, rfl, rfl, by rw [app_len, l1, l2']; show 8 + (numS ws.length).length + 12 ≤ sizeLine; omega, _, rfl, _, _, rfl, rfl, by rw [app_len, app_len, l1, l2']; show 8 + (numS ws.length).length + 12 + x.length ≤ sizeLine; omega, rfl, ?_⟩
    rw [told_eq]
    have same : decide (V.str (Str.ofString "book of " ++ numS ws.length ++ Str.ofString " words over " ++ x) = V.str (Str.ofString "book of " ++ numS ws.length ++ Str.ofString " words over " ++ x)) = true := decide_eq_true rfl
    show Q (.bl (decide (V.str (Str.ofString "book of " ++ numS ws.length ++ Str.ofString " words over " ++ x) = V.str (Str.ofString "book of " ++ numS ws.length ++ Str.ofString " words over " ++ x)))) H8
    rw [same]
    exact q _ x08
end
end B3

/-! the law's own uniform sets -/
namespace B3
open PySem PySem.Spec PyProof.Rows L2 XSt NX XB
open PySem.W (Frag)
abbrev sLawUnif : Stmt := top 38
def spLawUnif : Sp := fun vs H Q _ => ∃ (x : Str) (n : Nat), vs = [.str x, .int (n : Int)] ∧ x.length ≤ 3 ∧ n ≤ 5 ∧ ∀ p H', H p = none → Ext H H' → H' p = some (.tup ((unif x n).map V.str)) → Q (.ref p) H'
section
variable {P : Program} {w : World} {K : Frag} {mg : Str → Option Value} {base : Heap} {f C : Addr} {fd : FuncData}
theorem scLawUnif : FnScope ["signs", "much", "found", "turn", "longer", "line", "sign"] ["signs", "much"] (defScope sLawUnif) := ⟨rfl, rfl, rfl, by decide +kernel, rfl, by decide +kernel, by decide +kernel⟩
theorem ok_law_unif (F : FnP K "_law_uniform" sLawUnif f fd) (M : Free mg) (mR : mg "range" = none) : FnOk P w K mg base CX0 1 f fd ["signs", "much"] spLawUnif := by
  refine F.ok scLawUnif (fun vs H Q E h => ?_) (fun cdv A outer s H vs Q E hr h => ?_)
  · obtain ⟨x, n, rfl, _⟩ := h
    rfl
  · obtain ⟨x, n, rfl, few3, n5, q⟩ := h
    have hs : sizeLine = 16777216 := sizeLine_eq
    refine ⟨_, PSs.nox (pss_cons (ps_set (i := 2) scLawUnif.nd rfl (.inl rfl) (pe_lst (pa_cons pe_str pa_nil)))
      (pss_cons (ps_for PassesOwn.never rfl (pi_range1 (by rfl) mR (pa_cons (pv 1) pa_nil)) (pg_name (i := 3) scLawUnif.nd rfl (.inl rfl))
        (pss_cons (ps_set (i := 4) scLawUnif.nd rfl (.inl rfl) (pe_lst pa_nil))
        (pss_cons (ps_for PassesOwn.never rfl (pi_list (pv 2)) (pg_name (i := 5) scLawUnif.nd rfl (.inr rfl))
          (pss_one (ps_set (i := 4) scLawUnif.nd rfl (.inl rfl) (pe_op op_cat (pv 4) (pe_lc (own := [("sign", 6)]) (g := gName 6) (tt := tYes) (te := tOp rAddS (tVar 5) (tVar 6)) rfl scLawUnif.nd (pi_str (pv 0)) (blkOk_by (N := ["signs", "much", "found", "turn", "longer", "line", "sign"]) (sc := defScope sLawUnif) (by decide +kernel))
            (fun _ _ _ _ _ => pg_name (i := 6) scLawUnif.nd rfl (Or.inl rfl)) (fun _ _ _ _ _ => pts_nil) (fun _ _ _ _ _ => by exact pe_op op_addS (pv 5) (pv 6)))))))
        (pss_one (ps_set (i := 2) scLawUnif.nd rfl (.inl rfl) (pv 4))))))
      (pss_one (ps_ret (pe_callTy call_tuple_of (by rfl) M.tuple (by decide +kernel) (pa_cons (pv 2) pa_nil)))))), ?_⟩
    refine ⟨by show 1 ≤ sizeLine; decide, fun w0 hw0 => ?_⟩
    refine ⟨_, rfl, _, rfl, by omega, by omega, ?_⟩
    refine for_range (n := n) (fun i σ H2 => ∃ o3 o4 o5 o6 l, σ = [some (.str x), some (.int (n : Int)), some (.ref l), o3, o4, o5, o6] ∧ H2 l = some (.lst ((unif x i).map V.str)) ∧ Ext H H2) ⟨_, _, _, _, w0, rfl, upd_same, (Ext.refl H).new hw0⟩ ?_ ?_
    · rintro i σ H2 hi ⟨o3, o4, o5, o6, l, rfl, el, k2⟩
      have lenI : (unif x i).length ≤ 243 := by
        rw [unif_len]
        exact pow_few few3 (by omega)
      refine ⟨Nat.zero_le _, fun l0 hl0 => ?_⟩
      have k3 : Ext H (upd H2 l0 (.lst [])) := k2.new hl0
      have e0 : (upd H2 l0 (.lst [])) l0 = some (.lst []) := upd_same
      have el3 : (upd H2 l0 (.lst [])) l = some (.lst ((unif x i).map V.str)) := by
        rw [upd_ne (ne_of_none el hl0)]
        exact el
      generalize upd H2 l0 (.lst []) = H3 at k3 e0 el3 ⊢
      refine ⟨_, rfl, l, rfl, ⟨_, SqL.of el3⟩, ?_⟩
      refine for_it walk_list (fun a σ H4 => ∃ o5 o6 g, σ = [some (.str x), some (.int (n : Int)), some (.ref l), some (.int (0 + (i : Int))), some (.ref g), o5, o6] ∧ H4 g = some (.lst ((((unif x i).take a).flatMap fun k => (XSt.signs x).map fun c => k ++ c).map V.str)) ∧ Ext H3 H4) ⟨_, _, l0, rfl, e0, Ext.refl _⟩
        (fun a σ H4 _ z => by obtain ⟨_, _, _, _, _, y⟩ := z; exact SqL.of (y _ _ el3)) ?_ ?_
      · rintro a v σ H4 H5 ha ⟨o5, o6, g, rfl, eg, k4⟩ ⟨rfl, ex⟩
        rw [List.getElem?_map] at ex
        cases gk : (unif x i)[a]? with
        | none => rw [gk] at ex; cases ex
        | some k =>
          rw [gk] at ex
          obtain rfl : V.str k = v := Option.some.inj ex
          have lk := (unif_mem (List.mem_of_getElem? gk)).1
          have lp : (((unif x i).take a).flatMap fun k => (XSt.signs x).map fun c => k ++ c).length ≤ 729 := by
            rw [flat_len]
            have z2 : ((unif x i).take a).length ≤ 243 := Nat.le_trans (List.length_take_le' a (unif x i)) lenI
            exact Nat.le_trans (Nat.mul_le_mul z2 few3) (by decide)
          refine ⟨_, rfl, _, rfl, _, rfl, fun D hD => ?_⟩
          have nDg : g ≠ D := ne_of_none eg hD
          refine walk_it walk_str (fun j H6 => H6 D = some (.lst ((((XSt.signs x).take j).map fun c => k ++ c).map V.str)) ∧ Ext H5 H6) ⟨upd_same, (Ext.refl _).new hD⟩ (fun _ _ _ _ => trivial) ?_ ?_
          · rintro j v H6 H7 hj ⟨f3, f4⟩ ⟨rfl, c, hc, rfl⟩
            have gs : (XSt.signs x)[j]? = some ⟨#[c]⟩ := by
              unfold XSt.signs
              rw [List.getElem?_map, Array.getElem?_toList, hc]
              rfl
            refine ⟨rfl, _, rfl, _, rfl, k, _, rfl, rfl, by show k.length + 1 ≤ sizeLine; omega, ?_⟩
            refine ⟨_, f3, ?_, ?_, fun b u e => ?_⟩
            · have z := List.length_take_le j (XSt.signs x)
              have hj' : j < x.length := hj
              rw [List.length_map, List.length_map]
              omega
            · rw [take_more gs, List.map_append, List.map_append]
              exact upd_same
            · rw [upd_ne (ne_of_none e hD)]
              exact f4 b u e
          · rintro H6 ⟨f3, f4⟩
            have all : (XSt.signs x).take x.cps.size = XSt.signs x := List.take_of_length_le (by rw [signs_count]; exact Nat.le_refl _)
            rw [all] at f3
            have eg6 := f4 _ _ eg
            refine ⟨g, D, _, _, rfl, rfl, eg6, f3, ?_, fun L hL => ?_⟩
            · rw [List.length_map, List.length_map, List.length_map, signs_count]
              omega
            · refine ⟨_, _, L, rfl, ?_, (k4.trans f4).new hL⟩
              rw [take_more gk, List.flatMap_append, List.flatMap_singleton, List.map_append]
              exact upd_same
      · rintro σ H4 ⟨o5, o6, g, rfl, eg, k4⟩
        rw [List.length_map, List.take_length] at eg
        exact ⟨_, rfl, _, _, _, _, g, rfl, eg, k3.trans k4⟩
    · rintro σ H2 ⟨o3, o4, o5, o6, l, rfl, el, k2⟩
      exact ⟨_, rfl, l, _, rfl, .inl ⟨SqL.of el, fun p hp => q p _ (free_back k2 hp) (k2.new hp) upd_same⟩⟩
end
end B3

/-! books that are told in two ways, and others -/
namespace B3
open PySem PySem.Spec PyProof.Rows L2 XSt NX XB
open PySem.W (Frag)
abbrev sRight : Stmt := top 39
structure Def (P : Program) (w : World) (K : Frag) (mg : Str → Option Value) (base : Heap) (CX : CXT) (k : Nat) (x : Str) (ps : List Str) (sp : Sp) : Prop where
  ex : ∃ (f : Addr) (fd : FuncData), FnOk P w K mg base CX k f fd ps sp ∧ mg x = some (.ref f) ∧ PySem.W.keepIn K (.ref f) = true ∧ Binds K fd ps []
def spRight : Sp := fun vs H Q _ => ∃ j, vs = [.ref j] ∧ JugAt H j ∧ ∀ H', Kj j H H' → Q (.bl true) H'
section
variable {P : Program} {w : World} {K : Frag} {mg : Str → Option Value} {base : Heap} {f C : Addr} {fd : FuncData}
theorem scRight : FnScope ["jug", "signs", "lot", "made", "again", "near", "far", "turn", "odd", "value"] ["jug"] (defScope sRight) := ⟨rfl, rfl, rfl, by decide +kernel, rfl, by decide +kernel, by decide +kernel⟩
theorem init_facts {H : Hp} {p : Addr} {x : Str} {ys : List Str} (abc : Abc x) (ep : H p = some (.tup (ys.map V.str))) (fine : ∀ k ∈ ys, 1 ≤ k.length ∧ k.length ≤ 400 ∧ ∀ c ∈ cs k, c ∈ cs x) (few : ys.length ≤ 400) {b dx : Addr} (hb : H b = none) (hdx : H dx = none) :
    SqT K (upd (upd H dx (.own b)) b (.ins C dx [])) p (ys.map V.str) ∧ p ≠ b ∧ (∀ y ∈ ys, GoodW x y) ∧ ys.length < 4096 ∧ (ordT ys).length ≤ 400 ∧ ∀ H', (∀ c o, c ≠ b → (upd (upd H dx (.own b)) b (.ins C dx [])) c = some o → H' c = some o) → Ext H H' := by
  have ntb : p ≠ b := ne_of_none ep hb
  have ntd : p ≠ dx := ne_of_none ep hdx
  refine ⟨SqT.of (by rw [upd_ne ntb, upd_ne ntd]; exact ep), ntb, fun y my => goodW_of abc (fine y my).2.2 (fine y my).1 (fine y my).2.1, by omega, by have := ordT_len ys; omega, fun H' off c o e => ?_⟩
  have n1 : c ≠ b := ne_of_none e hb
  have n2 : c ≠ dx := ne_of_none e hdx
  exact off c o n1 (by rw [upd_ne n1, upd_ne n2]; exact e)
theorem tup_jug {H : Hp} {p j : Addr} {xs : List V} (h : H p = some (.tup xs)) (hj : JugAt H j) : p ≠ j := fun z => by
  obtain ⟨a, b, c, e, _⟩ := hj
  rw [z, e] at h
  cases h
theorem jug_ext {H H' : Hp} {j : Addr} (h : JugAt H j) (k : Ext H H') : JugAt H' j := by
  obtain ⟨a, b, c, e, z⟩ := h
  exact ⟨a, b, c, k _ _ e, z⟩
theorem BookAt.kj {H H' : Hp} {j b C : Addr} {x : Str} {ws : List Str} (h : BookAt H b C x ws) (hj : JugAt H j) (k : Kj j H H') : BookAt H' b C x ws := by
  obtain ⟨dx, p, d, h1, h2, h3⟩ := h
  have nb : ∀ {a : Addr} {o : HO}, H a = some o → (∀ l, o ≠ .lst l) → a ≠ j := fun e no z => by
    obtain ⟨c1, c2, c3, e2, _⟩ := hj
    rw [z, e2] at e
    exact no _ (Option.some.inj e).symm
  exact ⟨dx, p, d, k.1 _ _ (nb h1 (fun _ z => nomatch z)) h1, k.1 _ _ (nb h2 (fun _ z => nomatch z)) h2, k.1 _ _ (nb h3 (fun _ z => nomatch z)) h3⟩
theorem strs_of : ∀ {ys : List V}, (∀ v ∈ ys, ∃ k, v = .str k) → ∃ zs : List Str, ys = zs.map V.str
  | [], _ => ⟨[], rfl⟩
  | y :: ys, h => by
    obtain ⟨k, rfl⟩ := h y (List.mem_cons_self ..)
    obtain ⟨zs, rfl⟩ := strs_of fun v m => h v (List.mem_cons_of_mem _ m)
    exact ⟨k :: zs, rfl⟩
theorem LotOk.sub {x : Str} {n : Nat} {ws zs : List Str} (h : LotOk x n ws) (s : zs.Sublist ws) : LotOk x n zs :=
  ⟨fun k m => h.one k (s.subset m), h.pre.sub fun k m => s.subset m, h.suf.sub fun k m => s.subset m, ordT_sub s h.ord⟩
theorem LotOk.ok {x : Str} {n : Nat} {ws : List Str} (h : LotOk x n ws) (abc : Abc x) : ∀ k ∈ ws, PyData.strOk k = true := fun k m => strOk_of abc.ok (h.one k m).2.2
theorem thing_lst {H : Hp} {a : Addr} {xs : List V} (e : H a = some (.lst xs)) : Asked K H (.ref a) := ⟨false, _, .base (.lst e), rfl, rfl, rfl, rfl⟩
theorem thing_tup {H : Hp} {a : Addr} {xs : List V} (e : H a = some (.tup xs)) : Asked K H (.ref a) := ⟨true, _, .base (.tup e), rfl, rfl, rfl, rfl⟩
theorem thing_dct {H : Hp} {a : Addr} {kvs : List (L2.Key × V)} (e : H a = some (.dK kvs)) : Asked K H (.ref a) := ⟨false, _, .base (.dK e), rfl, rfl, rfl, rfl⟩
theorem not_word {x : Str} {n : Nat} {ws : List Str} (h : LotOk x n ws) {z : Str} (bad : z.length = 0 ∨ ∃ c ∈ cs z, ¬ c ∈ cs x) : inBook ws (.str z) = false := by
  refine decide_eq_false fun m => ?_
  obtain ⟨h1, h2, h3⟩ := h.one z m
  rcases bad with bad | ⟨c, mc, bad⟩
  · omega
  · exact bad (h3 c mc)
theorem four_no : ∀ x ∈ fourS, (¬ 65 ∈ cs x) ∧ ¬ 122 ∈ cs x := by decide +kernel
theorem nf_self : PySem.W.notFirst K C (.ref C) = true := by simp [PySem.W.notFirst]
theorem ok_right (F : FnP K "_law_right" sRight f fd) (R : BookRules P w K mg base C) (M : Free mg) (mR : mg "range" = none)
    (DS : Def P w K mg base CX0 3 "_law_signs" ["jug"] spSigns) (DL : Def P w K mg base CX0 4 "_law_lot" ["jug", "signs", "much", "most"] spLot) (DD : Def P w K mg base CX0 2 "_law_dealt" ["jug", "items"] (spDealt K)) (DP : Def P w K mg base CX0 2 "_law_pick" ["jug", "items"] (spPickS K))
    (DT : Def P w K mg base CX0 5 "_law_is_told" ["made", "signs", "lot"] (spIsTold K C)) : FnOk P w K mg base CX0 8 f fd ["jug"] spRight := by
  have B := R.B
  obtain ⟨fS, dS, FS, gS, kS, bS⟩ := DS.ex
  obtain ⟨fL, dL, FL, gL, kL, bL⟩ := DL.ex
  obtain ⟨fD, dD, FD, gD, kD, bD⟩ := DD.ex
  obtain ⟨fP, dP, FP, gP, kP, bP⟩ := DP.ex
  obtain ⟨fT, dT, FT, gT, kT, bT⟩ := DT.ex
  obtain ⟨gh, dh, Oh, Fh, bh⟩ := R.has
  obtain ⟨ge, de, Oe, Fe, be⟩ := R.eq
  obtain ⟨gi, di, MK, FI, bI⟩ := R.make
  obtain ⟨ne1, ne2⟩ := R.ne
  refine F.ok scRight (fun vs H Q E h => ?_) (fun cdv A outer s H vs Q E hr h => ?_)
  · obtain ⟨j, rfl, _⟩ := h
    rfl
  · obtain ⟨j, rfl, hj, q⟩ := h
    have hs : sizeLine = 16777216 := sizeLine_eq
    refine ⟨_, PSs.nox (pss_cons (ps_set (i := 1) scRight.nd rfl (.inl rfl) (pe_call FS (hr.mono (by decide)) (by rfl) gS kS bS .nil pass0 (pa_cons (pv 0) pa_nil)))
      (pss_cons (ps_set (i := 2) scRight.nd rfl (.inl rfl) (pe_call FL (hr.mono (by decide)) (by rfl) gL kL bL .nil pass0 (pa_cons (pv 0) (pa_cons (pv 1) (pa_cons pe_int (pa_cons pe_int pa_nil))))))
      (pss_cons (ps_asg (pe_tup (pa_cons (pe_make MK FI hr (by rfl) R.gB bI .nil pass0 (pa_cons (pv 1) (pa_cons (pv 2) pa_nil)))
          (pa_cons (pe_make MK FI hr (by rfl) R.gB bI .nil pass0 (pa_cons (pv 1) (pa_cons (pe_callTy call_tuple_of (by rfl) M.tuple (by decide +kernel) (pa_cons (pe_call FD (hr.mono (by decide)) (by rfl) gD kD bD .nil pass0 (pa_cons (pv 0) (pa_cons (pe_op op_catX (pv 2) (pe_slice sl_tupX (pv 2) po_none (po_some pe_int))) pa_nil))) pa_nil)) pa_nil))) pa_nil)))
        (pg_tup (by rfl) (pgs_cons (pg_name (i := 3) scRight.nd rfl (.inr rfl)) (pgs_cons (pg_name (i := 4) scRight.nd rfl (.inl rfl)) pgs_nil))))
      (pss_cons (ps_set (i := 5) scRight.nd rfl (.inl rfl) (pe_call FP (hr.mono (by decide)) (by rfl) gP kP bP .nil pass0 (pa_cons (pv 0) (pa_cons (pe_lst (pa_cons (pe_slice sl_tupX (pv 2) (po_some pe_int) po_none) (pa_cons (pv 2)
          (pa_cons (pe_call FL (hr.mono (by decide)) (by rfl) gL kL bL .nil pass0 (pa_cons (pv 0) (pa_cons (pv 1) (pa_cons pe_int (pa_cons pe_int pa_nil))))) pa_nil)))) pa_nil))))
      (pss_cons (ps_set (i := 6) scRight.nd rfl (.inl rfl) (pe_make MK FI hr (by rfl) R.gB bI .nil pass0 (pa_cons (pv 1) (pa_cons (pv 5) pa_nil))))
      (pss_cons (ps_for PassesOwn.never rfl (pi_range1 (by rfl) mR (pa_cons pe_int pa_nil)) (pg_name (i := 7) scRight.nd rfl (.inl rfl))
        (pss_cons (ps_if (PW.pt (pw_or (pt_not (pt_val (pe_call FT (hr.mono (by decide)) (by rfl) gT kT bT .nil pass0 (pa_cons (pv 3) (pa_cons (pv 1) (pa_cons (pv 2) pa_nil)))))) (pw_or1 (pt_not (pt_val (pe_call FT (hr.mono (by decide)) (by rfl) gT kT bT .nil pass0 (pa_cons (pv 4) (pa_cons (pv 1) (pa_cons (pv 2) pa_nil))))))))) (pss_one (ps_ret pe_bl)) pss_nil)
        (pss_one (ps_if (pt_not (pt_val (pe_call FT (hr.mono (by decide)) (by rfl) gT kT bT .nil pass0 (pa_cons (pv 6) (pa_cons (pv 1) (pa_cons (pv 5) pa_nil)))))) (pss_one (ps_ret pe_bl)) pss_nil))))
      (pss_cons (ps_if (PW.pt (pw_or (pt_not (pt_cmpR (op_eqO Fe (hr.mono (by decide)) Oe be) (pv 3) (pv 4) (nomark _))) (pw_or (pt_cmpR (op_neO Fe (hr.mono (by decide)) Oe ne1 ne2 be) (pv 3) (pv 4) (nomark _))
          (pw_or (pt_cmpR op_ne (pe_cmpR (op_eqO Fe (hr.mono (by decide)) Oe be) (pv 3) (pv 6) (nomark _)) (pe_cmpR (op_eqD hr.units) (pv 2) (pv 5) (nomark _)) (nomark _))
          (pw_or1 (pt_cmpR op_eq (pe_cmpR (op_neO Fe (hr.mono (by decide)) Oe ne1 ne2 be) (pv 3) (pv 6) (nomark _)) (pe_cmpR (op_eqD hr.units) (pv 2) (pv 5) (nomark _)) (nomark _))))))) (pss_one (ps_ret pe_bl)) pss_nil)
      (pss_cons (ps_set (i := 8) scRight.nd rfl (.inl rfl) (pe_lst (pa_cons pe_non (pa_cons pe_int (pa_cons pe_str (pa_cons (pe_tup (pa_cons pe_str pa_nil)) (pa_cons (pe_lst (pa_cons pe_str pa_nil)) (pa_cons pe_str (pa_cons pe_str (pa_cons (pv 2) (pa_cons pe_bl (pa_cons pe_dnewK (pa_cons (pv 3) pa_nil)))))))))))))
      (pss_cons (ps_if (pt_cmpR (op_neD hr.units) (pe_lc (own := [("value", 9)]) (g := gName 9) (tt := tTest (tOp (rInO C (spHas K C) fun b => b) (tVar 9) (tVar 3))) (te := tVar 9) rfl scRight.nd (pi_list (pv 8)) (blkOk_by (N := ["jug", "signs", "lot", "made", "again", "near", "far", "turn", "odd", "value"]) (sc := defScope sRight) (by decide +kernel))
          (fun _ _ _ _ _ => pg_name (i := 9) scRight.nd rfl (Or.inl rfl)) (fun _ _ _ _ _ => by exact pts_one (pt_cmpR (op_inO Fh (hr.mono (by decide)) Oh bh) (pv 9) (pv 3) rfl)) (fun _ _ _ _ _ => by exact pv 9)) (pe_lst pa_nil) (nomark _)) (pss_one (ps_ret pe_bl)) pss_nil)
      (pss_one (ps_ret (pe_cmpR (op_eqD hr.units) (pe_lc (own := [("value", 9)]) (g := gName 9) (tt := tOr (tTest (tOp (rEqO K C (spEq K C) fun b => b) (tVar 3) (tVar 9))) (tNot (tTest (tOp (rEqO K C (spEq K C) fun b => !b) (tVar 3) (tVar 9))))) (te := tVar 9) rfl scRight.nd
          (pi_list (pe_op op_cat (pe_slice sl_list (pv 8) po_none (po_some (pe_un un_neg pe_int))) (pe_lst (pa_cons pe_str pa_nil)))) (blkOk_by (N := ["jug", "signs", "lot", "made", "again", "near", "far", "turn", "odd", "value"]) (sc := defScope sRight) (by decide +kernel))
          (fun _ _ _ _ _ => pg_name (i := 9) scRight.nd rfl (Or.inl rfl)) (fun _ _ _ _ _ => by exact pts_one (PW.pt (pw_or (pt_cmpR (op_eqO Fe (hr.mono (by decide)) Oe be) (pv 3) (pv 9) (nomark _)) (pw_or1 (pt_not (pt_cmpR (op_neO Fe (hr.mono (by decide)) Oe ne1 ne2 be) (pv 3) (pv 9) (nomark _))))))) (fun _ _ _ _ _ => by exact pv 9)) (pe_lst pa_nil) (nomark _)))))))))))))
      , ?_⟩
    refine ⟨_, rfl, j, rfl, hj, fun x H1 mx k1 => ?_⟩
    have abc := four_abc x mx
    have lx : x.length ≤ 8000 := by have := abc.few; omega
    refine ⟨_, rfl, _, rfl, j, x, 8, 5, rfl, k1.2, abc, by decide, by decide, by decide, fun pl ws H2 hpl k2 epl lot lw => ?_⟩
    have k02 := k1.trans k2
    have nlj := tup_jug epl k02.2
    have okw := lot.ok abc
    have fine : ∀ k ∈ ws, 1 ≤ k.length ∧ k.length ≤ 400 ∧ ∀ c ∈ cs k, c ∈ cs x := fun k m => ⟨(lot.one k m).1, by have := (lot.one k m).2.1; omega, (lot.one k m).2.2⟩
    -- made
    refine ⟨_, rfl, _, rfl, ?_⟩
    intro b1 dx1 hb1 hdx1 _
    obtain ⟨i1, i2, i3, i4, i5, i6⟩ := init_facts (K := K) (C := C) abc epl fine (by omega) hb1 hdx1
    refine ⟨b1, dx1, pl, x, ws, rfl, upd_same, abc.good, i1, i2, i3, i4, i5, lot.pre, lot.suf, fun H3 off3 bk1 => ⟨rfl, ?_⟩⟩
    have x3 : Ext H2 H3 := i6 H3 off3
    rw [lot.ord] at bk1
    have k03 := k02.ext x3
    have epl3 := x3 _ _ epl
    clear off3 i1 i2 i3 i4 i5 i6
    -- again
    refine ⟨_, rfl, _, rfl, _, rfl, _, rfl, 3, rfl, pl, _, rfl, epl3, fun ps H4 g4 eps => ?_⟩
    have x4 : Ext H3 H4 := g4
    have epl4 := x4 _ _ epl3
    refine ⟨pl, ps, _, _, rfl, rfl, epl4, eps, ?_, fun pc H5 g5 epc => ?_⟩
    · have := cutV_length (ws.map V.str) none (some 3)
      rw [List.length_map] at this ⊢
      omega
    have x5 : Ext H4 H5 := g5
    have k05 := (k03.ext x4).ext x5
    refine ⟨j, pc, _, rfl, k05.2, .inr (SqT.of epc), tup_jug epc k05.2, ?_, fun qd ys H6 hqd eqd pm k6 => ?_⟩
    · have := cutV_length (ws.map V.str) none (some 3)
      rw [List.length_append]
      rw [List.length_map] at this ⊢
      omega
    have k06 := k05.trans k6
    have memY : ∀ v, v ∈ ys ↔ v ∈ ws.map V.str := fun v => by
      rw [pm.mem_iff, List.mem_append]
      exact ⟨fun z => z.elim id cut_mem, Or.inl⟩
    obtain ⟨zs, rfl⟩ := strs_of (ys := ys) fun v m => by
      obtain ⟨k, _, e⟩ := List.mem_map.mp ((memY v).mp m)
      exact ⟨k, e.symm⟩
    have memZ : ∀ k, k ∈ zs ↔ k ∈ ws := fun k => by
      have z := memY (.str k)
      constructor
      · intro m
        obtain ⟨k', m', e⟩ := List.mem_map.mp (z.mp (List.mem_map.mpr ⟨k, m, rfl⟩))
        rw [← V.str.inj e]
        exact m'
      · intro m
        obtain ⟨k', m', e⟩ := List.mem_map.mp (z.mpr (List.mem_map.mpr ⟨k, m, rfl⟩))
        rw [← V.str.inj e]
        exact m'
    have lenZ : zs.length ≤ 16 := by
      have a := pm.length_eq
      have b := cutV_length (ws.map V.str) none (some 3)
      rw [List.length_append, List.length_map] at a
      rw [List.length_map] at b a
      omega
    refine ⟨qd, _, rfl, .inl ⟨SqL.of eqd, fun pt hpt => ?_⟩⟩
    have x7 : Ext H6 (upd H6 pt (.tup (zs.map V.str))) := (Ext.refl H6).new hpt
    have ept : (upd H6 pt (.tup (zs.map V.str))) pt = some (.tup (zs.map V.str)) := upd_same
    have k07 := k06.ext x7
    have x37 : ∀ b o, b ≠ j → H3 b = some o → (upd H6 pt (.tup (zs.map V.str))) b = some o := fun b o n e => x7 _ _ (k6.1 b o n (x5 _ _ (x4 _ _ e)))
    generalize upd H6 pt (.tup (zs.map V.str)) = H7 at x7 ept k07 x37 ⊢
    intro b2 dx2 hb2 hdx2 _
    obtain ⟨i1, i2, i3, i4, i5, i6⟩ := init_facts (K := K) (C := C) abc ept (fun k m => fine k ((memZ k).mp m)) (by omega) hb2 hdx2
    refine ⟨b2, dx2, pt, x, zs, rfl, upd_same, abc.good, i1, i2, i3, i4, i5, lot.pre.sub (fun k m => (memZ k).mp m), lot.suf.sub (fun k m => (memZ k).mp m), fun H8 off8 bk2 => ⟨rfl, ?_⟩⟩
    have x8 : Ext H7 H8 := i6 H8 off8
    rw [ordT_same memZ, lot.ord] at bk2
    have k08 := k07.ext x8
    clear off8 i1 i2 i3 i4 i5 i6
    -- bk1 at H8
    have bk1' : BookAt H8 b1 C x ws := by
      obtain ⟨dx, p, d, h1, h2, h3⟩ := bk1
      have nb : ∀ {a : Addr} {o : HO}, H3 a = some o → (∀ l, o ≠ .lst l) → a ≠ j := fun e no z => by
        obtain ⟨c1, c2, c3, e2, _⟩ := k03.2
        rw [z, e2] at e
        exact no _ (Option.some.inj e).symm
      exact ⟨dx, p, d, x8 _ _ (x37 _ _ (nb h1 (fun _ z => nomatch z)) h1), x8 _ _ (x37 _ _ (nb h2 (fun _ z => nomatch z)) h2), x8 _ _ (x37 _ _ (nb h3 (fun _ z => nomatch z)) h3)⟩
    have epl8 : H8 pl = some (.tup (ws.map V.str)) := x8 _ _ (x37 _ _ nlj epl3)
    refine ⟨by show 2 ≤ sizeLine; decide, fun T hT => ⟨T, _, rfl, SqT.of upd_same, rfl, _, _, rfl, _, _, rfl, rfl, ?_⟩⟩
    have x9 : Ext H8 (upd H8 T (.tup [.ref b1, .ref b2])) := (Ext.refl H8).new hT
    have k09 := k08.ext x9
    have bk1 := bk1'.ext x9
    have bk2 := bk2.ext x9
    have epl9 := x9 _ _ epl8
    generalize upd H8 T (.tup [.ref b1, .ref b2]) = H9 at x9 k09 bk1 bk2 epl9 ⊢
    clear bk1' epl8 x8 x37 x7 k07 k08 ept
    -- near
    refine ⟨_, rfl, _, rfl, 1, rfl, pl, _, rfl, epl9, fun pd H10 g10 epd => ?_⟩
    have x10 : Ext H9 H10 := g10
    have k10 := k09.ext x10
    have bk1 := bk1.ext x10
    have bk2 := bk2.ext x10
    have epl10 := x10 _ _ epl9
    rw [cut_one, ← List.map_drop] at epd
    refine ⟨_, rfl, _, rfl, _, rfl, j, x, 8, 5, rfl, k10.2, abc, by decide, by decide, by decide, fun pl2 ws2 H11 hpl2 k11 epl2 lot2 lw2 => ?_⟩
    have bk1 := bk1.kj k10.2 k11
    have bk2 := bk2.kj k10.2 k11
    have epl11 := k11.1 _ _ nlj epl10
    have epd11 := k11.1 _ _ (tup_jug epd k10.2) epd
    have k011 := k10.trans k11
    refine ⟨by show 3 ≤ sizeLine; decide, fun pn hpn => ?_⟩
    have x12 : Ext H11 (upd H11 pn (.lst [.ref pd, .ref pl, .ref pl2])) := (Ext.refl H11).new hpn
    have epn : (upd H11 pn (.lst [.ref pd, .ref pl, .ref pl2])) pn = some (.lst [.ref pd, .ref pl, .ref pl2]) := upd_same
    have npn := jug_none k011.2 hpn
    generalize upd H11 pn (.lst [.ref pd, .ref pl, .ref pl2]) = H12 at x12 epn ⊢
    have k012 := k011.ext x12
    refine ⟨j, _, rfl, k012.2, Or.inl ⟨pn, _, rfl, SqL.of epn, npn, by simp, by simp, fun y H13 my k13 => ?_⟩⟩
    have bk1 := (bk1.ext x12).kj k012.2 k13
    have bk2 := (bk2.ext x12).kj k012.2 k13
    have epl13 := k13.1 _ _ nlj (x12 _ _ epl11)
    have k013 := k012.trans k13
    obtain ⟨pz, us, rfl, epz, lotZ, lu⟩ : ∃ pz us, y = .ref pz ∧ H13 pz = some (.tup (us.map V.str)) ∧ LotOk x 5 us ∧ us.length ≤ 8 := by
      rcases List.mem_cons.mp my with rfl | my
      · exact ⟨pd, ws.drop 1, rfl, k13.1 _ _ (tup_jug epd k10.2) (x12 _ _ epd11), lot.sub (List.drop_sublist _ _), by rw [List.length_drop]; omega⟩
      rcases List.mem_cons.mp my with rfl | my
      · exact ⟨pl, ws, rfl, epl13, lot, lw⟩
      · obtain rfl := List.mem_singleton.mp my
        exact ⟨pl2, ws2, rfl, k13.1 _ _ (tup_jug epl2 k011.2) (x12 _ _ epl2), lot2, lw2⟩
    clear epn epd11 epl11 epl10 epl9 my epl2 epd
    -- far
    refine ⟨_, rfl, _, rfl, ?_⟩
    intro b3 dx3 hb3 hdx3 _
    have fineZ : ∀ k ∈ us, 1 ≤ k.length ∧ k.length ≤ 400 ∧ ∀ c ∈ cs k, c ∈ cs x := fun k m => ⟨(lotZ.one k m).1, by have := (lotZ.one k m).2.1; omega, (lotZ.one k m).2.2⟩
    obtain ⟨i1, i2, i3, i4, i5, i6⟩ := init_facts (K := K) (C := C) abc epz fineZ (by omega) hb3 hdx3
    refine ⟨b3, dx3, pz, x, us, rfl, upd_same, abc.good, i1, i2, i3, i4, i5, lotZ.pre, lotZ.suf, fun H14 off14 bk3 => ⟨rfl, ?_⟩⟩
    have x14 : Ext H13 H14 := i6 H14 off14
    rw [lotZ.ord] at bk3
    have bk1 := bk1.ext x14
    have bk2 := bk2.ext x14
    have epl := x14 _ _ epl13
    have epz := x14 _ _ epz
    have k014 := k013.ext x14
    clear off14 i1 i2 i3 i4 i5 i6
    have okz := lotZ.ok abc
    -- told
    refine ⟨2, rfl, by decide, by decide, ?_⟩
    refine for_range (n := 2) (fun i σ HH => (∃ o7 o8 o9, σ = [some (.ref j), some (.str x), some (.ref pl), some (.ref b1), some (.ref b2), some (.ref pz), some (.ref b3), o7, o8, o9]) ∧ Ext H14 HH) ⟨⟨_, _, _, rfl⟩, Ext.refl _⟩ ?_ ?_
    · rintro i σ HH hi ⟨⟨o7, o8, o9, rfl⟩, xx⟩
      refine ⟨_, rfl, _, rfl, _, rfl, b1, pl, x, ws, rfl, bk1.ext xx, SqT.of (xx _ _ epl), by omega, lot.ord, lx, abc.ok, fun k m => ⟨(fine k m).2.1, okw k m⟩, fun HA xA => ⟨_, rfl, iteF ?_⟩⟩
      refine ⟨_, rfl, _, rfl, _, rfl, b2, pl, x, ws, rfl, (bk2.ext xx).ext xA, SqT.of (xA _ _ (xx _ _ epl)), by omega, lot.ord, lx, abc.ok, fun k m => ⟨(fine k m).2.1, okw k m⟩, fun HB xB => ⟨_, rfl, iteF ?_⟩⟩
      refine ⟨_, rfl, _, rfl, _, rfl, b3, pz, x, us, rfl, ((bk3.ext xx).ext xA).ext xB, SqT.of (xB _ _ (xA _ _ (xx _ _ epz))), by omega, lotZ.ord, lx, abc.ok, fun k m => ⟨(fineZ k m).2.1, okz k m⟩, fun HC xC => ⟨_, rfl, iteF ?_⟩⟩
      exact ⟨⟨_, _, _, rfl⟩, ((xx.trans xA).trans xB).trans xC⟩
    rintro σ H15 ⟨⟨o7, o8, o9, rfl⟩, x15⟩
    have bk1 := bk1.ext x15
    have bk2 := bk2.ext x15
    have bk3 := bk3.ext x15
    have epl := x15 _ _ epl
    have epz := x15 _ _ epz
    have k015 := k014.ext x15
    clear x15 k014 k013 k012 k011 k10 k09 k02 k03 k05 k06
    have q15 : ∀ H', Ext H15 H' → Q (.bl true) H' := fun H' e => q H' (k015.ext e)
    obtain ⟨dxa, pa, da, h1, h2, h3⟩ := id bk1
    have tyB1 := bk1.ty (K := K) B
    have tyB2 := bk2.ty (K := K) B
    have tyB3 := bk3.ty (K := K) B
    have e1 : (decide (x = x) && decide (ws = ws)) = true := by simp
    refine ⟨_, rfl, _, rfl, b1, dxa, _, _, rfl, h1, tyB2, nf_self, b1, x, ws, _, rfl, bk1, by omega, okw, Or.inr ⟨b2, x, ws, rfl, bk2, by omega, okw, _, rfl, _, rfl, ?_⟩⟩
    rw [e1]
    refine iteF ?_
    refine ⟨_, rfl, _, rfl, b1, dxa, _, _, rfl, h1, tyB2, nf_self, b1, x, ws, _, rfl, bk1, by omega, okw, Or.inr ⟨b2, x, ws, rfl, bk2, by omega, okw, _, rfl, _, rfl, ?_⟩⟩
    rw [e1]
    refine iteF ?_
    refine ⟨_, rfl, _, rfl, b1, dxa, _, _, rfl, h1, tyB3, nf_self, b1, x, ws, _, rfl, bk1, by omega, okw, Or.inr ⟨b3, x, us, rfl, bk3, by omega, okz, _, rfl, ?_⟩⟩
    refine ⟨_, rfl, _, rfl, _, _, .tup (SqT.of epl) (dpa_txt ws), .tup (SqT.of epz) (dpa_txt us), txt_shapedT okw, txt_shapedT okz, rfl, _, rfl, ?_⟩
    rw [txt_eqvT]
    have e2 : (decide (x = x) && decide (ws = us)) = decide (ws = us) := by simp
    have e3 : (!decide (V.bl (decide (x = x) && decide (ws = us)) = V.bl (decide (ws = us)))) = false := by rw [e2]; simp
    rw [e3]
    refine iteF ?_
    refine ⟨_, rfl, _, rfl, b1, dxa, _, _, rfl, h1, tyB3, nf_self, b1, x, ws, _, rfl, bk1, by omega, okw, Or.inr ⟨b3, x, us, rfl, bk3, by omega, okz, _, rfl, ?_⟩⟩
    refine ⟨_, rfl, _, rfl, _, _, .tup (SqT.of epl) (dpa_txt ws), .tup (SqT.of epz) (dpa_txt us), txt_shapedT okw, txt_shapedT okz, rfl, _, rfl, ?_⟩
    rw [txt_eqvT]
    have e4 : decide (V.bl (!(decide (x = x) && decide (ws = us))) = V.bl (decide (ws = us))) = false := by
      rw [e2]
      cases decide (ws = us) <;> rfl
    rw [e4]
    refine iteF ?_
    -- odd
    refine ⟨by show 1 ≤ sizeLine; decide, fun t1 ht1 => ⟨by show 1 ≤ sizeLine; decide, fun l1 hl1 => ⟨_, rfl, fun d1 hd1 => ⟨_, rfl, by show 11 ≤ sizeLine; decide, fun po hpo => ?_⟩⟩⟩⟩
    have xa : Ext H15 (upd H15 t1 (.tup [.str (Str.ofString "a")])) := (Ext.refl H15).new ht1
    have ea : (upd H15 t1 (.tup [.str (Str.ofString "a")])) t1 = some (.tup [.str (Str.ofString "a")]) := upd_same
    generalize upd H15 t1 (.tup [.str (Str.ofString "a")]) = Ha at hl1 hd1 hpo xa ea ⊢
    have xb : Ext Ha (upd Ha l1 (.lst [.str (Str.ofString "a")])) := (Ext.refl Ha).new hl1
    have eb : (upd Ha l1 (.lst [.str (Str.ofString "a")])) l1 = some (.lst [.str (Str.ofString "a")]) := upd_same
    generalize upd Ha l1 (.lst [.str (Str.ofString "a")]) = Hb at hd1 hpo xb eb ⊢
    have xc : Ext Hb (upd Hb d1 (.dK [])) := (Ext.refl Hb).new hd1
    have ec : (upd Hb d1 (.dK [])) d1 = some (.dK []) := upd_same
    generalize upd Hb d1 (.dK []) = Hc at hpo xc ec ⊢
    obtain ⟨odd, eodd⟩ : ∃ odd : List V, odd = [.non, .int 0, .str (Str.ofString ""), .ref t1, .ref l1, .str (Str.ofString "A"), .str (Str.ofString "zz"), .ref pl, .bl true, .ref d1, .ref b1] := ⟨_, rfl⟩
    rw [← eodd]
    have xd : Ext Hc (upd Hc po (.lst odd)) := (Ext.refl Hc).new hpo
    have ed : (upd Hc po (.lst odd)) po = some (.lst odd) := upd_same
    generalize upd Hc po (.lst odd) = Hd at xd ed ⊢
    have x16 : Ext H15 Hd := ((xa.trans xb).trans xc).trans xd
    have et : Hd t1 = some (.tup [.str (Str.ofString "a")]) := xd _ _ (xc _ _ (xb _ _ ea))
    have el : Hd l1 = some (.lst [.str (Str.ofString "a")]) := xd _ _ (xc _ _ eb)
    have ek : Hd d1 = some (.dK []) := xd _ _ ec
    have bk1 := bk1.ext x16
    have epl := x16 _ _ epl
    have h1 := x16 _ _ h1
    have q16 : ∀ H', Ext Hd H' → Q (.bl true) H' := fun H' e => q15 H' (x16.trans e)
    clear xa ea xb eb xc ec xd x16 q15 bk2 bk3 tyB1 tyB2 tyB3 epz
    obtain ⟨no65, no122⟩ := four_no x mx
    have asks : ∀ v ∈ odd, ∀ H', Ext Hd H' → AskB K H' C v ∧ inBook ws v = false := by
      intro v mv H' e
      rw [eodd] at mv
      simp only [List.mem_cons, List.not_mem_nil, or_false] at mv
      rcases mv with rfl | rfl | rfl | rfl | rfl | rfl | rfl | rfl | rfl | rfl | rfl
      · exact ⟨Or.inl trivial, rfl⟩
      · exact ⟨Or.inl trivial, rfl⟩
      · exact ⟨Or.inl ⟨by decide +kernel, by decide +kernel⟩, not_word lot (Or.inl (by decide +kernel))⟩
      · exact ⟨Or.inl (thing_tup (e _ _ et)), rfl⟩
      · exact ⟨Or.inl (thing_lst (e _ _ el)), rfl⟩
      · exact ⟨Or.inl ⟨by decide +kernel, by decide +kernel⟩, not_word lot (Or.inr ⟨65, by decide +kernel, no65⟩)⟩
      · exact ⟨Or.inl ⟨by decide +kernel, by decide +kernel⟩, not_word lot (Or.inr ⟨122, by decide +kernel, no122⟩)⟩
      · exact ⟨Or.inl (thing_tup (e _ _ epl)), rfl⟩
      · exact ⟨Or.inl trivial, rfl⟩
      · exact ⟨Or.inl (thing_dct (e _ _ ek)), rfl⟩
      · exact ⟨Or.inr ⟨b1, x, ws, rfl, bk1.ext e⟩, rfl⟩
    refine ⟨_, rfl, po, rfl, ⟨_, SqL.of ed⟩, fun D hD => ?_⟩
    refine walk_it walk_list (fun a H5 => H5 D = some (.lst []) ∧ Ext Hd H5) ⟨upd_same, (Ext.refl _).new hD⟩ (fun a H5 _ z => SqL.of (z.2 _ _ ed)) ?_ ?_
    · rintro a v H5 H6 ha ⟨f1, f2⟩ ⟨rfl, ex⟩
      obtain ⟨ask, no⟩ := asks v (List.mem_of_getElem? ex) _ f2
      refine ⟨rfl, _, rfl, _, rfl, b1, dxa, _, rfl, f2 _ _ h1, b1, x, ws, v, rfl, bk1.ext f2, ask, _, rfl, _, rfl, ?_⟩
      rw [no]
      exact iteF ⟨f1, f2⟩
    rintro H17 ⟨f1, f2⟩
    refine ⟨by show 0 ≤ sizeLine; decide, fun N hN => ⟨.list [], .list [], .lst (SqL.of (by rw [upd_ne (ne_of_none f1 hN)]; exact f1)) .nil, .lst (SqL.of upd_same) .nil, by decide +kernel, by decide +kernel, _, rfl, ?_⟩⟩
    have nil_ : PyData.eqv (.list []) (.list []) = true := by decide +kernel
    rw [nil_]
    refine iteF ?_
    have x18 : Ext Hd (upd H17 N (.lst [])) := f2.new hN
    generalize upd H17 N (.lst []) = H18 at x18 ⊢
    refine ⟨_, rfl, 1, rfl, -1, rfl, po, _, rfl, SqL.of (x18 _ _ ed), fun po2 hpo2 => ⟨by show 1 ≤ sizeLine; decide, fun lb hlb => ?_⟩⟩
    have ecut : cutV odd none (some (-1)) = [.non, .int 0, .str (Str.ofString ""), .ref t1, .ref l1, .str (Str.ofString "A"), .str (Str.ofString "zz"), .ref pl, .bl true, .ref d1] := by
      rw [eodd]
      rfl
    rw [ecut] at hlb ⊢
    obtain ⟨ten, eten⟩ : ∃ ten : List V, ten = [.non, .int 0, .str (Str.ofString ""), .ref t1, .ref l1, .str (Str.ofString "A"), .str (Str.ofString "zz"), .ref pl, .bl true, .ref d1] := ⟨_, rfl⟩
    rw [← eten] at hlb ⊢
    have len10 : ten.length = 10 := by rw [eten]; rfl
    have x19 : Ext Hd (upd H18 po2 (.lst ten)) := x18.new hpo2
    have e19 : (upd H18 po2 (.lst ten)) po2 = some (.lst ten) := upd_same
    generalize upd H18 po2 (.lst ten) = H19 at hlb x19 e19 ⊢
    have x20 : Ext Hd (upd H19 lb (.lst [.str (Str.ofString "book")])) := x19.new hlb
    have e20 : (upd H19 lb (.lst [.str (Str.ofString "book")])) po2 = some (.lst ten) := by
      rw [upd_ne (ne_of_none e19 hlb)]
      exact e19
    have e21 : (upd H19 lb (.lst [.str (Str.ofString "book")])) lb = some (.lst [.str (Str.ofString "book")]) := upd_same
    generalize upd H19 lb (.lst [.str (Str.ofString "book")]) = H20 at x20 e20 e21 ⊢
    refine ⟨po2, lb, _, _, rfl, rfl, e20, e21, by rw [len10]; show 10 + 1 ≤ sizeLine; decide, fun pf hpf => ?_⟩
    have x21 : Ext Hd (upd H20 pf (.lst (ten ++ [.str (Str.ofString "book")]))) := x20.new hpf
    have epf : (upd H20 pf (.lst (ten ++ [.str (Str.ofString "book")]))) pf = some (.lst (ten ++ [.str (Str.ofString "book")])) := upd_same
    generalize upd H20 pf (.lst (ten ++ [.str (Str.ofString "book")])) = H21 at x21 epf ⊢
    have nos : ∀ v ∈ ten ++ [.str (Str.ofString "book")], ∀ H', Ext Hd H' → NoBook K H' v := by
      intro v mv H' e
      rw [eten] at mv
      simp only [List.cons_append, List.nil_append, List.mem_cons, List.not_mem_nil, or_false] at mv
      rcases mv with rfl | rfl | rfl | rfl | rfl | rfl | rfl | rfl | rfl | rfl | rfl
      · exact .non
      · exact .int _
      · exact .str _
      · exact .seq (T := "tuple") (.base (.tup (e _ _ et))) (by simp)
      · exact .seq (T := "list") (.base (.lst (e _ _ el))) (by simp)
      · exact .str _
      · exact .str _
      · exact .seq (T := "tuple") (.base (.tup (e _ _ epl))) (by simp)
      · exact .bl _
      · exact .seq (T := "dict") (.base (.dK (e _ _ ek))) (by simp)
      · exact .str _
    refine ⟨pf, rfl, ⟨_, SqL.of epf⟩, fun D2 hD2 => ?_⟩
    refine walk_it walk_list (fun a H5 => H5 D2 = some (.lst []) ∧ Ext H21 H5) ⟨upd_same, (Ext.refl _).new hD2⟩ (fun a H5 _ z => SqL.of (z.2 _ _ epf)) ?_ ?_
    · rintro a v H5 H6 ha ⟨f3, f4⟩ ⟨rfl, ex⟩
      have xx := x21.trans f4
      have nb := nos v (List.mem_of_getElem? ex) _ xx
      obtain ⟨Ty, mT, ty⟩ := noBook_ty nb
      have nf := (B.others Ty mT).2
      refine ⟨rfl, _, rfl, _, rfl, b1, dxa, _, _, rfl, xx _ _ h1, ty, nf, b1, x, ws, v, rfl, bk1.ext xx, by omega, okw, Or.inl ⟨nb, _, rfl, _, rfl, iteF ?_⟩⟩
      exact ⟨_, rfl, _, rfl, b1, dxa, _, _, rfl, xx _ _ h1, ty, nf, b1, x, ws, v, rfl, bk1.ext xx, by omega, okw, Or.inl ⟨nb, _, rfl, _, rfl, iteF ⟨f3, f4⟩⟩⟩
    rintro H22 ⟨f3, f4⟩
    refine ⟨by show 0 ≤ sizeLine; decide, fun N2 hN2 => ⟨.list [], .list [], .lst (SqL.of (by rw [upd_ne (ne_of_none f3 hN2)]; exact f3)) .nil, .lst (SqL.of upd_same) .nil, by decide +kernel, by decide +kernel, ?_⟩⟩
    rw [nil_]
    exact q16 _ ((x21.trans f4).new hN2)
end
end B3

/-! the law -/
namespace B3
open PySem PySem.Spec PyProof.Rows L2 XSt NX XB
open PySem.W (Frag)
abbrev sLaw : Stmt := top 40
def spLaw (K : Frag) : Sp := fun vs H Q _ => ∃ (a : Addr) (ns : List Int), vs = [.ref a] ∧ SqL K H a (ns.map V.int) ∧ ns.length ≤ 63 ∧ ∀ H', Q (.bl true) H'
theorem ext_kj {H H1 H2 : Hp} {j : Addr} (k : Ext H H1) (n : H j = none) (kj : Kj j H1 H2) : Ext H H2 := fun b o e => kj.1 b o (ne_of_none e n) (k b o e)
def wAB : Str := Str.ofString "ab"
def wordsBA : List Str := [Str.ofString "ba", Str.ofString "aa", Str.ofString "ba"]
def wordsAB : List Str := [Str.ofString "aa", Str.ofString "ba"]
theorem ord_AB : ordT wordsAB = wordsAB := by
  symm
  have z : once wordsAB = wordsAB := by decide +kernel
  refine tLe_ord.one (by rw [z]) ?_
  unfold wordsAB
  simp only [List.pairwise_cons, List.mem_cons, List.not_mem_nil, or_false, forall_eq]
  refine ⟨?_, fun a h => h.elim, List.Pairwise.nil⟩
  decide +kernel
theorem ord_BA : ordT wordsBA = wordsAB := by
  rw [← ord_AB]
  refine ordT_same fun k => ?_
  simp only [wordsBA, wordsAB, List.mem_cons, List.not_mem_nil, or_false]
  constructor
  · rintro (h | h | h) <;> simp [h]
  · rintro (h | h) <;> simp [h]
theorem two_long : ∀ k ∈ wordsBA, k.length = 2 := by decide +kernel
theorem two_long' : ∀ k ∈ wordsAB, k.length = 2 := by decide +kernel
theorem fine_BA : ∀ k ∈ wordsBA, 1 ≤ k.length ∧ k.length ≤ 400 ∧ ∀ c ∈ cs k, c ∈ cs wAB := by decide +kernel
theorem fine_AB : ∀ k ∈ wordsAB, 1 ≤ k.length ∧ k.length ≤ 400 ∧ ∀ c ∈ cs k, c ∈ cs (Str.ofString "abc") := by decide +kernel
def toldD : PyData := .list [.tuple (wordsAB.map PyData.str), .str (Str.ofString "ba"), .int 2, .int 2, .str (Str.ofString "book of 2 words over ab"), .bool true, .bool false]
theorem toldD_ok : SeqAt.shaped toldD = true := by decide +kernel
theorem told_ab : told 2 wAB = Str.ofString "book of 2 words over ab" := by decide +kernel
theorem abc_ab : Abc wAB := four_abc _ (by decide +kernel)
theorem abc_abc : Abc (Str.ofString "abc") := four_abc _ (by decide +kernel)
theorem ok_words : ∀ k ∈ wordsAB, PyData.strOk k = true := by decide +kernel
section
variable {P : Program} {w : World} {K : Frag} {mg : Str → Option Value} {base : Heap} {f C : Addr} {fd : FuncData}
theorem scLaw : FnScope ["script", "at", "jug", "turn", "signs", "much", "made", "told", "due"] ["script"] (defScope sLaw) := ⟨rfl, rfl, rfl, by decide +kernel, rfl, by decide +kernel, by decide +kernel⟩
theorem ok_law (F : FnP K "law" sLaw f fd) (R : BookRules P w K mg base C) (M : Free mg) (mR : mg "range" = none) (mX : mg "max" = none) (mN : mg "min" = none)
    (DJ : Def P w K mg base CX0 1 "_law_jug" ["script", "at"] (spJug K)) (DB : Def P w K mg base CX0 1 "_law_bit" ["jug", "much"] spBit) (DS : Def P w K mg base CX0 3 "_law_signs" ["jug"] spSigns) (DT : Def P w K mg base CX0 5 "_law_is_told" ["made", "signs", "lot"] (spIsTold K C))
    (DU : Def P w K mg base CX0 1 "_law_uniform" ["signs", "much"] spLawUnif) (DR : Def P w K mg base CX0 8 "_law_right" ["jug"] spRight) : FnOk P w K mg base CX0 9 f fd ["script"] (spLaw K) := by
  have B := R.B
  obtain ⟨fJ, dJ, FJ, gJ, kJ, bJ⟩ := DJ.ex
  obtain ⟨fB, dB, FB, gB, kB, bB⟩ := DB.ex
  obtain ⟨fS, dS, FS, gS, kS, bS⟩ := DS.ex
  obtain ⟨fT, dT, FT, gT, kT, bT⟩ := DT.ex
  obtain ⟨fU, dU, FU, gU, kU, bU⟩ := DU.ex
  obtain ⟨fR, dR, FR, gR, kR, bR⟩ := DR.ex
  obtain ⟨p2, g2, d2, P2, F2, b2⟩ := R.wd
  obtain ⟨p3, g3, d3, P3, F3, b3⟩ := R.lo
  obtain ⟨g4, d4, O4, F4, b4⟩ := R.len
  obtain ⟨g5, d5, O5, F5, b5⟩ := R.has
  obtain ⟨g6, d6, O6, n6, F6, b6⟩ := R.at_
  obtain ⟨g7, d7, O7, F7, b7⟩ := R.str
  obtain ⟨ge, de, Oe, Fe, be⟩ := R.eq
  obtain ⟨gi, di, MK, FI, bI⟩ := R.make
  obtain ⟨ne1, ne2⟩ := R.ne
  obtain ⟨pu, gu, du, CM, CR, FU2, bU2⟩ := R.uni
  refine F.ok scLaw (fun vs H Q E h => ?_) (fun cdv A outer s H vs Q E hr h => ?_)
  · obtain ⟨a, ns, rfl, _⟩ := h
    rfl
  · obtain ⟨a, ns, rfl, sq, few, q⟩ := h
    have hs : sizeLine = 16777216 := sizeLine_eq
    refine ⟨_, PSs.nox (pss_cons (ps_for PassesOwn.never rfl (pi_range1 (by rfl) mR (pa_cons (pe_callB (call_max2 rfl) (by rfl) mX (by decide +kernel) (pa_cons pe_int (pa_cons (pe_callB (call_min2 rfl) (by rfl) mN (by decide +kernel) (pa_cons pe_int (pa_cons (pe_callB call_len_seq (by rfl) M.len PySem.boot_len (pa_cons (pv 0) pa_nil)) pa_nil))) pa_nil))) pa_nil)) (pg_name (i := 1) scLaw.nd rfl (.inl rfl))
        (pss_cons (ps_set (i := 2) scLaw.nd rfl (.inl rfl) (pe_call FJ (hr.mono (by decide)) (by rfl) gJ kJ bJ .nil pass0 (pa_cons (pv 0) (pa_cons (pv 1) pa_nil))))
        (pss_cons (ps_for PassesOwn.never rfl (pi_range1 (by rfl) mR (pa_cons pe_int pa_nil)) (pg_name (i := 3) scLaw.nd rfl (.inl rfl))
          (pss_one (ps_if (pt_not (pt_val (pe_call FR hr (by rfl) gR kR bR .nil pass0 (pa_cons (pv 2) pa_nil)))) (pss_one (ps_ret pe_bl)) pss_nil)))
        (pss_cons (ps_par (i := 4) (j := 5) rfl scLaw.nd rfl rfl (by decide) rfl rfl (pa_cons (pe_call FS (hr.mono (by decide)) (by rfl) gS kS bS .nil pass0 (pa_cons (pv 2) pa_nil)) (pa_cons (pe_op op_add pe_int (pe_call FB (hr.mono (by decide)) (by rfl) gB kB bB .nil pass0 (pa_cons (pv 2) (pa_cons pe_int pa_nil)))) pa_nil)) (by rfl))
        (pss_one (ps_if (pt_not (pt_val (pe_call FT (hr.mono (by decide)) (by rfl) gT kT bT .nil pass0 (pa_cons (ClX.pe_cmeth (pe_glob (v := .ref C) (by rfl) R.gB rfl) CR CM (raw0 FU2 bU2) hr pass0 (pa_cons (pv 4) (pa_cons (pv 5) pa_nil)))
          (pa_cons (pv 4) (pa_cons (pe_call FU (hr.mono (by decide)) (by rfl) gU kU bU .nil pass0 (pa_cons (pv 4) (pa_cons (pv 5) pa_nil))) pa_nil)))))) (pss_one (ps_ret pe_bl)) pss_nil))))))
      (pss_cons (ps_set (i := 6) scLaw.nd rfl (.inl rfl) (pe_make MK FI (hr.mono (by decide)) (by rfl) R.gB bI .nil pass0 (pa_cons pe_str (pa_cons (pe_tup (pa_cons pe_str (pa_cons pe_str (pa_cons pe_str pa_nil)))) pa_nil))))
      (pss_cons (ps_set (i := 7) scLaw.nd rfl (.inl rfl) (pe_lst (pa_cons (pe_prop (pv 6) B.cls P2 F2 (hr.mono (by decide)) b2 .nil pass0 rfl) (pa_cons (pe_ixO F6 (hr.mono (by decide)) O6 n6 b6 (pv 6) pe_int) (pa_cons (pe_prop (pv 6) B.cls P3 F3 (hr.mono (by decide)) b3 .nil pass0 rfl)
          (pa_cons (pe_callB (call_lenO F4 (hr.mono (by decide)) O4 b4) (by rfl) M.len PySem.boot_len (pa_cons (pv 6) pa_nil)) (pa_cons (pe_callTy (call_strO F7 (hr.mono (by decide)) O7 b7) (by rfl) M.str (by decide +kernel) (pa_cons (pv 6) pa_nil))
          (pa_cons (pe_cmpR (op_inO F5 (hr.mono (by decide)) O5 b5) pe_str (pv 6) rfl) (pa_cons (pe_cmpR (op_inO F5 (hr.mono (by decide)) O5 b5) pe_str (pv 6) rfl) pa_nil)))))))))
      (pss_cons (ps_set (i := 8) scLaw.nd rfl (.inl rfl) (pe_lst (pa_cons (pe_tup (pa_cons pe_str (pa_cons pe_str pa_nil))) (pa_cons pe_str (pa_cons pe_int (pa_cons pe_int (pa_cons pe_str (pa_cons pe_bl (pa_cons pe_bl pa_nil)))))))))
      (pss_one (ps_ret (pe_and (pe_cmpR (op_eqD hr.units) (pv 7) (pv 8) (nomark _)) (pe_and (pe_cmpR (op_neO Fe (hr.mono (by decide)) Oe ne1 ne2 be) (pv 6) (pe_make MK FI (hr.mono (by decide)) (by rfl) R.gB bI .nil pass0 (pa_cons pe_str (pa_cons (pe_tup (pa_cons pe_str (pa_cons pe_str pa_nil))) pa_nil))) (nomark _))
        (pe_one (pe_cmpR op_eq (pe_prop (pe_make MK FI (hr.mono (by decide)) (by rfl) R.gB bI .nil pass0 (pa_cons pe_str (pa_cons (pe_tup pa_nil) pa_nil))) B.cls P3 F3 (hr.mono (by decide)) b3 .nil pass0 rfl) pe_int (nomark _))))))))))), ?_⟩
    refine ⟨_, rfl, a, _, rfl, .inl sq, _, _, rfl, _, _, rfl, _, rfl, by (repeat' split) <;> omega, by (repeat' split) <;> omega, ?_⟩
    refine for_range (fun i σ H2 => (∃ o1 o2 o3 o4 o5 o6 o7 o8, σ = [some (.ref a), o1, o2, o3, o4, o5, o6, o7, o8]) ∧ Ext H H2) ⟨⟨_, _, _, _, _, _, _, _, rfl⟩, Ext.refl _⟩ ?_ ?_
    · rintro i σ H2 hi ⟨⟨o1, o2, o3, o4, o5, o6, o7, o8, rfl⟩, k2⟩
      refine ⟨_, rfl, _, rfl, a, ns, i, by show [V.ref a, V.int (0 + (i : Int))] = _; rw [Int.zero_add], sqL_ext k2 sq, fun j H3 hj k3 jug3 => ?_⟩
      refine ⟨3, rfl, by decide, by decide, ?_⟩
      refine for_range (n := 3) (fun i2 σ H4 => (∃ o3, σ = [some (.ref a), some (.int (0 + (i : Int))), some (.ref j), o3, o4, o5, o6, o7, o8]) ∧ Ext H2 H4 ∧ JugAt H4 j) ⟨⟨_, rfl⟩, k3, jug3⟩ ?_ ?_
      · rintro i2 σ H4 hi2 ⟨⟨o3, rfl⟩, k4, jug4⟩
        exact ⟨_, rfl, j, rfl, jug4, fun H5 k5 => ⟨_, rfl, iteF ⟨⟨_, rfl⟩, ext_kj k4 hj k5, k5.2⟩⟩⟩
      · rintro σ H4 ⟨⟨o3, rfl⟩, k4, jug4⟩
        refine ⟨_, rfl, j, rfl, jug4, fun x H5 mx k5 => ⟨_, rfl, j, 5, rfl, k5.2, by decide, by decide, fun r H6 r0 r1 k6 => ?_⟩⟩
        obtain ⟨n, hn⟩ : ∃ n : Nat, 1 + r = (n : Int) := ⟨(1 + r).toNat, by omega⟩
        have k26 : Ext H2 H6 := ext_kj (ext_kj k4 hj k5) hj k6
        have abc := four_abc x mx
        have n1 : 1 ≤ n := by omega
        have n5 : n ≤ 5 := by omega
        have lenU : (unif x n).length ≤ 243 := by
          rw [unif_len]
          exact pow_few abc.few n5
        refine ⟨_, _, rfl, rfl, .str x, .int (n : Int), by show [V.str x, V.int (1 + r)] = _; rw [hn], ?_⟩
        refine ⟨rfl, _, rfl, _, rfl, x, n, rfl, abc, n1, n5, fun b H7 hb x7 bk => ⟨_, rfl, _, rfl, _, rfl, x, n, rfl, abc.few, n5, fun p H8 hp x8 ep => ?_⟩⟩
        refine ⟨b, p, x, unif x n, rfl, bk.ext x8, SqT.of ep, by omega, ordT_unif abc.asc n, by have := abc.few; omega, abc.ok, fun k m => ⟨by rw [(unif_mem m).1]; omega, strOk_of abc.ok (unif_mem m).2⟩, fun H9 x9 => ⟨_, rfl, iteF ?_⟩⟩
        exact ⟨⟨_, _, _, _, _, _, _, _, rfl⟩, (((k2.trans k26).trans x7).trans x8).trans x9⟩
    rintro σ H2 ⟨⟨o1, o2, o3, o4, o5, o6, o7, o8, rfl⟩, k2⟩
    have q2 : ∀ H', Q (.bl true) H' := q
    clear k2 sq
    refine ⟨by show 3 ≤ sizeLine; decide, fun tp htp => ?_⟩
    have etp : (upd H2 tp (.tup [.str (Str.ofString "ba"), .str (Str.ofString "aa"), .str (Str.ofString "ba")])) tp = some (.tup (wordsBA.map V.str)) := upd_same
    generalize upd H2 tp (.tup [.str (Str.ofString "ba"), .str (Str.ofString "aa"), .str (Str.ofString "ba")]) = H3 at etp ⊢
    intro b1 dx1 hb1 hdx1 _
    obtain ⟨i1, i2, i3, i4, i5, i6⟩ := init_facts (K := K) (C := C) abc_ab etp fine_BA (by decide) hb1 hdx1
    refine ⟨b1, dx1, tp, wAB, wordsBA, rfl, upd_same, abc_ab.good, i1, i2, i3, i4, i5, pre_same two_long, suf_same two_long, fun H4 _ bk => ⟨rfl, ?_⟩⟩
    rw [ord_BA] at bk
    clear i1 i2 i3 i4 i5 i6 hb1 hdx1 etp htp
    obtain ⟨dx, p0, d0, h1, h2, h3⟩ := id bk
    have short : ∀ k ∈ wordsAB, k.length ≤ 400 := by decide +kernel
    refine ⟨_, rfl, b1, dx, _, rfl, h1, b1, wAB, wordsAB, rfl, bk, fun wp ewp => ?_⟩
    refine ⟨_, rfl, b1, dx, _, rfl, h1, b1, wAB, wordsAB, Str.ofString "ba", 1, rfl, bk, by decide, rfl, ?_⟩
    refine ⟨_, rfl, b1, dx, _, rfl, h1, b1, wAB, wordsAB, rfl, bk, short, ?_⟩
    refine ⟨_, rfl, b1, dx, _, rfl, h1, b1, wAB, wordsAB, rfl, bk, by decide, 2, rfl, by decide, ?_⟩
    refine ⟨_, rfl, b1, dx, _, rfl, h1, b1, wAB, wordsAB, rfl, bk, by decide, by decide +kernel, _, rfl, ?_⟩
    refine ⟨_, rfl, b1, dx, _, rfl, h1, b1, wAB, wordsAB, .str (Str.ofString "ba"), rfl, bk, Or.inl ⟨by decide +kernel, by decide +kernel⟩, _, rfl, ?_⟩
    refine ⟨_, rfl, b1, dx, _, rfl, h1, b1, wAB, wordsAB, .str (Str.ofString ""), rfl, bk, Or.inl ⟨by decide +kernel, by decide +kernel⟩, _, rfl, ?_⟩
    have in1 : inBook wordsAB (.str (Str.ofString "ba")) = true := by decide +kernel
    have in2 : inBook wordsAB (.str (Str.ofString "")) = false := by decide +kernel
    have last2 : lastLen wordsAB = 2 := by decide +kernel
    have len2 : wordsAB.length = 2 := rfl
    rw [in1, in2, last2, len2, told_ab]
    refine ⟨by show 7 ≤ sizeLine; decide, fun lt hlt => ?_⟩
    have x5 : Ext H4 (upd H4 lt (.lst [.ref wp, .str (Str.ofString "ba"), .int (2 : Nat), .int (2 : Nat), .str (Str.ofString "book of 2 words over ab"), .bl true, .bl false])) := (Ext.refl H4).new hlt
    have e5 : (upd H4 lt (.lst [.ref wp, .str (Str.ofString "ba"), .int (2 : Nat), .int (2 : Nat), .str (Str.ofString "book of 2 words over ab"), .bl true, .bl false])) lt = some (.lst [.ref wp, .str (Str.ofString "ba"), .int (2 : Nat), .int (2 : Nat), .str (Str.ofString "book of 2 words over ab"), .bl true, .bl false]) := upd_same
    generalize upd H4 lt (.lst [.ref wp, .str (Str.ofString "ba"), .int (2 : Nat), .int (2 : Nat), .str (Str.ofString "book of 2 words over ab"), .bl true, .bl false]) = H5 at x5 e5 ⊢
    refine ⟨by show 2 ≤ sizeLine; decide, fun dt hdt => ⟨by show 7 ≤ sizeLine; decide, fun ld hld => ?_⟩⟩
    have x6 : Ext H5 (upd H5 dt (.tup [.str (Str.ofString "aa"), .str (Str.ofString "ba")])) := (Ext.refl H5).new hdt
    have e6 : (upd H5 dt (.tup [.str (Str.ofString "aa"), .str (Str.ofString "ba")])) dt = some (.tup (wordsAB.map V.str)) := upd_same
    have hld : (upd H5 dt (.tup [.str (Str.ofString "aa"), .str (Str.ofString "ba")])) ld = none := hld
    have x7 : Ext (upd H5 dt (.tup [.str (Str.ofString "aa"), .str (Str.ofString "ba")])) (upd (upd H5 dt (.tup [.str (Str.ofString "aa"), .str (Str.ofString "ba")])) ld (.lst [.ref dt, .str (Str.ofString "ba"), .int 2, .int 2, .str (Str.ofString "book of 2 words over ab"), .bl true, .bl false])) := (Ext.refl _).new hld
    have e7 : (upd (upd H5 dt (.tup [.str (Str.ofString "aa"), .str (Str.ofString "ba")])) ld (.lst [.ref dt, .str (Str.ofString "ba"), .int 2, .int 2, .str (Str.ofString "book of 2 words over ab"), .bl true, .bl false])) ld = some (.lst [.ref dt, .str (Str.ofString "ba"), .int 2, .int 2, .str (Str.ofString "book of 2 words over ab"), .bl true, .bl false]) := upd_same
    have e6' := x7 _ _ e6
    have e5' := x7 _ _ (x6 _ _ e5)
    have x47 := (x5.trans x6).trans x7
    refine ⟨_, rfl, _, rfl, toldD, toldD, .lst (SqL.of e5') (.cons (.tup (SqT.of (x47 _ _ ewp)) (dpa_txt wordsAB)) (.cons (.str _) (.cons (.int _) (.cons (.int _) (.cons (.str _) (.cons (.bl _) (.cons (.bl _) .nil))))))),
      .lst (SqL.of e7) (.cons (.tup (SqT.of e6') (dpa_txt wordsAB)) (.cons (.str _) (.cons (.int _) (.cons (.int _) (.cons (.str _) (.cons (.bl _) (.cons (.bl _) .nil))))))), toldD_ok, toldD_ok, _, rfl, ?_⟩
    rw [shaped_refl toldD_ok]
    refine iteT ?_
    have bk7 := bk.ext x47
    have h17 := x47 _ _ h1
    generalize upd (upd H5 dt (.tup [.str (Str.ofString "aa"), .str (Str.ofString "ba")])) ld (.lst [.ref dt, .str (Str.ofString "ba"), .int 2, .int 2, .str (Str.ofString "book of 2 words over ab"), .bl true, .bl false]) = H7 at bk7 h17 ⊢
    -- another alphabet
    refine ⟨_, rfl, by show 2 ≤ sizeLine; decide, fun t2 ht2 => ?_⟩
    have et2 : (upd H7 t2 (.tup [.str (Str.ofString "aa"), .str (Str.ofString "ba")])) t2 = some (.tup (wordsAB.map V.str)) := upd_same
    have x8 : Ext H7 (upd H7 t2 (.tup [.str (Str.ofString "aa"), .str (Str.ofString "ba")])) := (Ext.refl H7).new ht2
    generalize upd H7 t2 (.tup [.str (Str.ofString "aa"), .str (Str.ofString "ba")]) = H8 at et2 x8 ⊢
    intro b2 dx2 hb2 hdx2 _
    obtain ⟨i1, i2, i3, i4, i5, i6⟩ := init_facts (K := K) (C := C) abc_abc et2 fine_AB (by decide) hb2 hdx2
    refine ⟨b2, dx2, t2, Str.ofString "abc", wordsAB, rfl, upd_same, abc_abc.good, i1, i2, i3, i4, i5, pre_same two_long', suf_same two_long', fun H9 off9 bk9 => ⟨rfl, ?_⟩⟩
    have x9 : Ext H8 H9 := i6 H9 off9
    have x79 := x8.trans x9
    rw [ord_AB] at bk9
    refine ⟨b1, dx, _, _, rfl, x79 _ _ h17, bk9.ty (K := K) B, nf_self, b1, wAB, wordsAB, _, rfl, bk7.ext x79, by decide, ok_words, Or.inr ⟨b2, _, wordsAB, rfl, bk9, by decide, ok_words, _, rfl, _, rfl, ?_⟩⟩
    have ne : (fun b : Bool => !b) (decide (wAB = Str.ofString "abc") && decide (wordsAB = wordsAB)) = true := by decide +kernel
    rw [ne]
    refine iteT ?_
    -- no words
    refine ⟨by show 0 ≤ sizeLine; decide, fun t3 ht3 => ?_⟩
    have et3 : (upd H9 t3 (.tup [])) t3 = some (.tup (([] : List Str).map V.str)) := upd_same
    generalize upd H9 t3 (.tup []) = H10 at et3 ⊢
    intro b3 dx3 hb3 hdx3 _
    obtain ⟨i1, i2, i3, i4, i5, i6⟩ := init_facts (K := K) (C := C) abc_ab et3 (fun k m => by cases m) (by decide) hb3 hdx3
    refine ⟨b3, dx3, t3, wAB, [], rfl, upd_same, abc_ab.good, i1, i2, i3, i4, i5, (fun k m => by cases m), (fun k m => by cases m), fun H11 _ bk11 => ⟨rfl, ?_⟩⟩
    have none_ : ordT ([] : List Str) = [] := by
      have := ordT_len []
      exact List.length_eq_zero_iff.mp (by simpa using this)
    rw [none_] at bk11
    obtain ⟨dx', p', d', g1, g2, g3⟩ := id bk11
    exact ⟨b3, dx', _, rfl, g1, b3, wAB, [], rfl, bk11, (fun k m => by cases m), rfl, q _⟩
end
end B3

/-! the head's facts, those of getters and classmethods too -/
namespace HP
open PySem PySem.Spec PyProof.Rows L2
open PySem.W (Frag)
/-- a def that stands at an address which is found by K -/
structure GetD where
  addr : Frag → Addr
  name : Str
  qual : Str
  params : Arguments
  body : List Stmt
  scope : Scope
def bare : Value → Bool
  | .none => true
  | _ => false
def fnA (K : Frag) (a : Addr) : He.FnW := match K.lookup a with
  | some ⟨_, _, .func q, _⟩ => some (q.name, q.qualname, q.params, q.body, q.scope, q.globals, q.closure, q.builtins)
  | _ => none
def GetD.val (d : GetD) : He.FnW := some (d.name, d.qual, d.params, FuncBody.stmts d.body, d.scope, mainGlobals, [], builtinsNs)
def GetD.ok (K : Frag) (d : GetD) : Bool := PySem.W.keepIn K (.ref (d.addr K)) && (match K.lookup (d.addr K) with
  | some ⟨_, _, .func q, _⟩ => PySem.W.codeIn K q.code d.qual && bare q.defaults
  | _ => false)
theorem GetD.funD {K : Frag} {d : GetD} (e : fnA K (d.addr K) = d.val) (c : d.ok K = true) : ∃ fd, FunD K d.name d.qual d.params d.body d.scope [] [] (d.addr K) fd := by
  obtain ⟨kp, c2⟩ := He.ba c
  unfold fnA at e
  cases q : K.lookup (d.addr K) with
  | none =>
    rw [q] at e
    cases e
  | some o =>
    obtain ⟨oc, od, dt, osl⟩ := o
    rw [q] at c2 e
    cases dt with
    | func fd =>
      obtain ⟨a1, a2, a3, a4, a5, a6, a7, a8, a9, a10, a11, a12, a13, a14, a15⟩ := fd
      have e2 : (some (a1, a2, a3, a4, a5, a6, a7, a15) : He.FnW) = some (d.name, d.qual, d.params, FuncBody.stmts d.body, d.scope, mainGlobals, [], builtinsNs) := e
      simp only [Option.some.injEq, Prod.mk.injEq] at e2
      obtain ⟨g1, g2, g3, g4, g5, g6, g7, g8⟩ := e2
      subst g1 g2 g3 g4 g5 g6 g7 g8
      obtain ⟨k1, k2⟩ := He.ba (show (PySem.W.codeIn K a13 d.qual && bare a8) = true from c2)
      have k3 : a8 = .none := by
        cases a8 with
        | none => rfl
        | _ => cases k2
      exact ⟨_, ⟨oc, od, a8, a9, a10, a11, a12, a13, a14, osl, rfl, q, k1, .inl ⟨rfl, k3⟩, .inl rfl⟩, kp⟩
    | _ => cases c2
/-- what is told of K -/
structure SaysP (fa : List He.Fa) (fn : List He.DefD) (gs : List GetD) (ex : Frag → Bool) (w : World) (K : Frag) : Prop where
  t : He.SaysT fa fn [] w K
  gets : gs.map (fun g => fnA K (g.addr K)) = gs.map GetD.val
  fine : (gs.all fun g => g.ok K) = true
  more : ex K = true
abbrev AlP : Type := He.AlT × List He.FnW × Bool
def obsP (n : Nat) (fa : List He.Fa) (fn : List He.DefD) (gs : List GetD) (ex : Frag → Bool) (g : Addr → Option Obj) : AlP :=
  (He.obsT fa fn [] (He.frG g (He5.asA g n)), gs.map (fun d => fnA (He.frG g (He5.asA g n)) (d.addr (He.frG g (He5.asA g n)))), (gs.all fun d => d.ok (He.frG g (He5.asA g n))) && ex (He.frG g (He5.asA g n)))
def valP (fn : List He.DefD) (gs : List GetD) (w : World) : AlP := (He.valT fn [] w, gs.map GetD.val, true)
theorem saysP_of {n : Nat} {fa : List He.Fa} {fn : List He.DefD} {gs : List GetD} {ex : Frag → Bool} {w : World} {h : Heap} (e : obsP n fa fn gs ex h.get? = valP fn gs w) : SaysP fa fn gs ex w (He.frG h.get? (He5.asA h.get? n)) := by
  have e1 := congrArg (fun z : AlP => z.1) e
  have e2 := congrArg (fun z : AlP => z.2.1) e
  have e3 := congrArg (fun z : AlP => z.2.2) e
  obtain ⟨h1, h2⟩ := He.ba e3
  exact ⟨e1, e2, h1, h2⟩
def hookP (n : Nat) (fa : List He.Fa) (fn : List He.DefD) (gs : List GetD) (ex : Frag → Bool) : PySem.W.Hook where
  α := AlP
  obs := fun s => obsP n fa fn gs ex s.heap.get?
  val := fun w => valP fn gs w
  says := fun w h => ∃ K : Frag, K.In h ∧ SaysP fa fn gs ex w K
  of := fun _ _ e => ⟨_, He.frG_in, saysP_of e⟩
  keeps := fun _ _ _ ⟨K, hK, c⟩ k => ⟨K, PySem.W.Frag.In.keeps hK k, c⟩
theorem obsP_eq {n : Nat} {fa : List He.Fa} {fn : List He.DefD} {gs : List GetD} {ex : Frag → Bool} {g : Addr → Option Obj} {s : Shared} (h : ∀ a, g a = s.heap.get? a) : obsP n fa fn gs ex g = (hookP n fa fn gs ex).obs s := by
  have e : g = s.heap.get? := funext h
  rw [e] <;> rfl
theorem SaysP.get {fa : List He.Fa} {fn : List He.DefD} {gs : List GetD} {ex : Frag → Bool} {w : World} {K : Frag} (c : SaysP fa fn gs ex w K) (i : Nat) {d : GetD} (h : gs[i]? = some d := by rfl) : ∃ fd, FunD K d.name d.qual d.params d.body d.scope [] [] (d.addr K) fd := by
  have e : (gs.map fun g => fnA K (g.addr K))[i]? = (gs.map GetD.val)[i]? := by rw [c.gets]
  rw [List.getElem?_map, List.getElem?_map, h] at e
  exact GetD.funD (Option.some.inj e) (List.all_eq_true.mp c.fine d (List.mem_of_getElem? h))
/-! ### a property, a classmethod -/
def propB (K : Frag) (C : Addr) (f : Str) : Bool := He.eqO (PySem.W.findIn K (.ref C) f) (some (some (.ref (He.ma K C f)))) && (He.eqO (PySem.W.specialIn K (.ref (He.ma K C f)) "__get__") (some (some (.builtin "property.__get__"))) &&
  (decide (PySem.W.takesIn K (.ref (He.ma K C f)) = some true) && (match PySem.W.recIn K (He.ma K C f) "property" with
    | some (.ref _ :: _) => true
    | _ => false)))
theorem rec_at {K : Frag} {C : Addr} {T : String} {f : Str} (h : (match PySem.W.recIn K (He.ma K C f) T with
    | some (.ref _ :: _) => true
    | _ => false) = true) : ∃ rest, PySem.W.recIn K (He.ma K C f) T = some (.ref (He5.wf K C T f) :: rest) := by
  unfold He5.wf
  split at h
  · rename_i g r e
    exact ⟨r, by rw [e]⟩
  · cases h
theorem propB_ok {K : Frag} {C : Addr} {f : Str} (h : propB K C f = true) : PropOf K C f (He.ma K C f) (He5.wf K C "property" f) := by
  obtain ⟨h1, h⟩ := He.ba h
  obtain ⟨h2, h⟩ := He.ba h
  obtain ⟨h3, h4⟩ := He.ba h
  exact ⟨He.eqO_ok h1, He.eqO_ok h2, of_decide_eq_true h3, rec_at h4⟩
def clsmB (K : Frag) (C : Addr) (m : Str) : Bool := He5.wrapB K C "classmethod" "classmethod.__get__" m && (PySem.W.fnIn K (He5.wf K C "classmethod" m) && (PySem.W.readsIn K C (.type "type") && He.eqO (PySem.W.specialIn K (.ref C) "__getattribute__") (some (some (.builtin "type.__getattribute__")))))
theorem clsmB_ok {K : Frag} {C : Addr} {m : Str} (h : clsmB K C m = true) : ClX.CMet K C (.type "type") m (He.ma K C m) (He5.wf K C "classmethod" m) ∧ ClX.CRead K C (.type "type") := by
  obtain ⟨h1, h⟩ := He.ba h
  obtain ⟨h2, h⟩ := He.ba h
  obtain ⟨h3, h4⟩ := He.ba h
  obtain ⟨a, b⟩ := He5.wrapB_ok h1
  exact ⟨⟨a, b, h2⟩, ⟨h3, He.eqO_ok h4⟩⟩
end HP

/-! the head's facts -/
namespace B3
open PySem PySem.Spec PyProof.Rows L2
open PySem.W (Frag)
def dG (x : Str) (st : Stmt) : He.DefD := ⟨(x, none), x, x, defArgs st, defBody st, defScope st, [], []⟩
def dM (x : Str) (st : Stmt) : He.DefD := ⟨("Book", some x), x, "Book." ++ x, defArgs st, defBody st, defScope st, [], []⟩
def gM (t : String) (x : Str) (st : Stmt) : HP.GetD := ⟨fun K => He5.wf K (He.ga K "Book") t x, x, "Book." ++ x, defArgs st, defBody st, defScope st⟩
def fn : List He.DefD := [dG "is_integer" sIsInteger, dG "is_letters" sIsLetters, dG "_is_word_of" sIsWordOf, dG "_is_spelled" sIsSpelled, dG "ordered" sOrdered, dG "ordered_words" sOrderedWords, dG "check_letters" sCheckLetters, dG "check_number" sCheckNumber, dG "first_clash" sFirstClash, dG "_some_begins" sSomeBegins, dG "_law_jug" sJug, dG "_law_bit" sBit, dG "_law_pick" sPick, dG "_law_dealt" sDealt, dG "_law_signs" sSigns, dG "_law_line" sLine, dG "_law_sorted" sSorted, dG "_law_meet" sMeet, dG "_law_lot" sLot, dG "_law_is_told" sIsTold, dG "_law_uniform" sLawUnif, dG "_law_right" sRight, dG "law" sLaw,
  dM "__init__" sInit, dM "__contains__" sHas, dM "__getitem__" sAt, dM "__len__" sLen, dM "__eq__" sEq, dM "__str__" sStr]
def gs : List HP.GetD := [gM "property" "letters" sGetLetters, gM "property" "words" sGetWords, gM "property" "longest" sGetLongest, gM "classmethod" "uniform" sUniform]
def fa : List He.Fa := [.glo "is_integer", .glo "is_letters", .glo "_is_word_of", .glo "_is_spelled", .glo "ordered", .glo "ordered_words", .glo "check_letters", .glo "check_number", .glo "first_clash", .glo "_some_begins", .glo "_law_jug", .glo "_law_bit", .glo "_law_pick", .glo "_law_dealt", .glo "_law_signs", .glo "_law_line", .glo "_law_sorted", .glo "_law_meet", .glo "_law_lot", .glo "_law_is_told", .glo "_law_uniform", .glo "_law_right", .glo "law", .glo "Book", .int "_TOO_LONG" ((10 ^ 50) ^ 4), .int "MAX_LETTERS" 3, .int "MAX_WORD" 400, .int "MAX_WORDS" 400, .free "isinstance", .free "int", .free "bool", .free "str", .free "tuple", .free "abs", .free "len", .free "sorted", .free "set", .free "any", .free "all", .free "zip", .free "range", .free "max", .free "min", .free "list", .cls "Book", .mkr "Book", .noat "Book" "_letters", .noat "Book" "_words", .noat "Book" "_known", .meth "Book" "__init__", .meth "Book" "__contains__", .meth "Book" "__getitem__", .meth "Book" "__len__", .meth "Book" "__eq__", .meth "Book" "__str__"]
def allN : List String := ["NoneType", "int", "bool", "str", "tuple", "list", "dict"]
def clsChk (K : Frag) (C : Addr) : Bool := He.eqO (PySem.W.findIn K (.ref C) "__class__") (some (some (.builtin "object.__class__"))) && (He.eqO (PySem.W.specialIn K (.builtin "object.__class__") "__get__") (some (some (.builtin "getset_descriptor.__get__"))) &&
  (decide (PySem.W.takesIn K (.builtin "object.__class__") = some true) && (decide (PySem.W.mroIn K C (.type "object") = some true) && (decide (PySem.W.kitOne K (.ref C) (.ref C) = some true) && (decide (PySem.W.kitOne K (.ref C) (.type "str") = some false) &&
  (allN.all fun T => decide (PySem.W.kitOne K (.type T) (.ref C) = some false) && PySem.W.notFirst K C (.type T)))))))
def neChk (K : Frag) (C : Addr) : Bool := He.eqO (PySem.W.findIn K (.ref C) "__ne__") (some (some (.builtin "object.__ne__"))) && (decide (PySem.W.subIn K (.ref C) (.type "object") = some true) && PySem.W.fnIn K (He.ma K C "__getitem__"))
def getChk (K : Frag) (C : Addr) : Bool := HP.propB K C "letters" && (HP.propB K C "words" && (HP.propB K C "longest" && HP.clsmB K C "uniform"))
def ex (K : Frag) : Bool := clsChk K (He.ga K "Book") && (neChk K (He.ga K "Book") && getChk K (He.ga K "Book"))
theorem clsChk_ok {K : Frag} {C : Addr} (c : Cls K C) (nl : NoAttr K C "_letters") (nw : NoAttr K C "_words") (nk : NoAttr K C "_known") (h : clsChk K C = true) : BookK K C := by
  obtain ⟨h1, h⟩ := He.ba h
  obtain ⟨h2, h⟩ := He.ba h
  obtain ⟨h3, h⟩ := He.ba h
  obtain ⟨h4, h⟩ := He.ba h
  obtain ⟨h5, h⟩ := He.ba h
  obtain ⟨h6, h7⟩ := He.ba h
  refine ⟨c, nl, nw, nk, He.eqO_ok h1, He.eqO_ok h2, of_decide_eq_true h3, of_decide_eq_true h4, of_decide_eq_true h5, of_decide_eq_true h6, fun T hT => ?_⟩
  obtain ⟨a, b⟩ := He.ba (List.all_eq_true.mp h7 T hT)
  exact ⟨of_decide_eq_true a, b⟩
abbrev R : PySem.W.OpenRow := PySem.W.OpenLaw.row PySem.Challenge.rw_twowaycuts_k03_books_told
abbrev hk : PySem.W.Hook := HP.hookP 7 fa fn gs ex
def ob (s : PySem.W.SharedT) : HP.AlP := HP.obsP 7 fa fn gs ex (HandSHeadRun.getT s)
theorem ob_eq (s : PySem.W.SharedT) : ob s = hk.obs s.abs := HP.obsP_eq (HandSHeadRun.getT_eq s)
def loose : List Str := (["BookError", "InvalidLetters", "InvalidWord", "InvalidOperation", "InvalidNumber", "TooMany", "Clash", "Book", "MAX_WORD", "MAX_LETTERS", "_TOO_LONG", "MAX_WORDS", "_wall", "do_clash"] : List Str) ++ (["is_integer", "is_letters", "_is_word_of", "_is_spelled", "ordered", "ordered_words", "check_letters", "check_number", "first_clash", "_some_begins", "_law_jug", "_law_bit", "_law_pick", "_law_dealt", "_law_signs", "_law_line", "_law_sorted", "_law_meet", "_law_lot", "_law_is_told", "_law_uniform", "_law_right", "law"] : List Str)
set_option maxHeartbeats 0 in
theorem run (w : World) : HandSHeadRun.RunEq R (PySem.W.view R.prog [40]) hk ob 4000 loose w := by
  intro os
  kernel_rfl
end B3

namespace B3
open PySem PySem.Spec PyProof.Rows L2 XB
open PySem.W (Frag)
set_option maxHeartbeats 0 in
theorem all_facts {P : Program} {w : World} {K : Frag} {h : Heap} {mg : Str → Option Value} {f : Addr} (X : K.In h) (G : h.Ns mainGlobals mg) (hfa : mg ("law" : Str) = some (.ref f)) (c : HP.SaysP fa fn gs ex w K) :
    ∃ fd : FuncData, (∀ (s : Shared) (v : Value), BindsTo s fd ⟨[v], []⟩ [("script", v)]) ∧ ∀ base : Heap, K.In base → base.Ns mainGlobals mg → FnOk P w K mg base CX0 9 f fd ["script"] (spLaw K) := by
  have cd := c.t.d
  obtain ⟨dIsInteger, FIsInteger⟩ := cd.def_ 0 (d := dG "is_integer" sIsInteger) rfl
  have bIsInteger : Binds K dIsInteger ["value"] [] := FunD.bindsN FIsInteger fun _ _ _ _ _ _ us hl => match us, hl with | [_], _ => rfl
  obtain ⟨dIsLetters, FIsLetters⟩ := cd.def_ 1 (d := dG "is_letters" sIsLetters) rfl
  have bIsLetters : Binds K dIsLetters ["value"] [] := FunD.bindsN FIsLetters fun _ _ _ _ _ _ us hl => match us, hl with | [_], _ => rfl
  obtain ⟨dIsWordOf, FIsWordOf⟩ := cd.def_ 2 (d := dG "_is_word_of" sIsWordOf) rfl
  have bIsWordOf : Binds K dIsWordOf ["letters", "value"] [] := FunD.bindsN FIsWordOf fun _ _ _ _ _ _ us hl => match us, hl with | [_, _], _ => rfl
  obtain ⟨dIsSpelled, FIsSpelled⟩ := cd.def_ 3 (d := dG "_is_spelled" sIsSpelled) rfl
  have bIsSpelled : Binds K dIsSpelled ["letters", "value"] [] := FunD.bindsN FIsSpelled fun _ _ _ _ _ _ us hl => match us, hl with | [_, _], _ => rfl
  obtain ⟨dOrdered, FOrdered⟩ := cd.def_ 4 (d := dG "ordered" sOrdered) rfl
  have bOrdered : Binds K dOrdered ["texts"] [] := FunD.bindsN FOrdered fun _ _ _ _ _ _ us hl => match us, hl with | [_], _ => rfl
  obtain ⟨dOrderedWords, FOrderedWords⟩ := cd.def_ 5 (d := dG "ordered_words" sOrderedWords) rfl
  have bOrderedWords : Binds K dOrderedWords ["letters", "words"] [] := FunD.bindsN FOrderedWords fun _ _ _ _ _ _ us hl => match us, hl with | [_, _], _ => rfl
  obtain ⟨dCheckLetters, FCheckLetters⟩ := cd.def_ 6 (d := dG "check_letters" sCheckLetters) rfl
  have bCheckLetters : Binds K dCheckLetters ["letters"] [] := FunD.bindsN FCheckLetters fun _ _ _ _ _ _ us hl => match us, hl with | [_], _ => rfl
  obtain ⟨dCheckNumber, FCheckNumber⟩ := cd.def_ 7 (d := dG "check_number" sCheckNumber) rfl
  have bCheckNumber : Binds K dCheckNumber ["value", "low", "high"] [] := FunD.bindsN FCheckNumber fun _ _ _ _ _ _ us hl => match us, hl with | [_, _, _], _ => rfl
  obtain ⟨dFirstClash, FFirstClash⟩ := cd.def_ 8 (d := dG "first_clash" sFirstClash) rfl
  have bFirstClash : Binds K dFirstClash ["words"] [] := FunD.bindsN FFirstClash fun _ _ _ _ _ _ us hl => match us, hl with | [_], _ => rfl
  obtain ⟨dSomeBegins, FSomeBegins⟩ := cd.def_ 9 (d := dG "_some_begins" sSomeBegins) rfl
  have bSomeBegins : Binds K dSomeBegins ["words"] [] := FunD.bindsN FSomeBegins fun _ _ _ _ _ _ us hl => match us, hl with | [_], _ => rfl
  obtain ⟨dJug, FJug⟩ := cd.def_ 10 (d := dG "_law_jug" sJug) rfl
  have bJug : Binds K dJug ["script", "at"] [] := FunD.bindsN FJug fun _ _ _ _ _ _ us hl => match us, hl with | [_, _], _ => rfl
  obtain ⟨dBit, FBit⟩ := cd.def_ 11 (d := dG "_law_bit" sBit) rfl
  have bBit : Binds K dBit ["jug", "much"] [] := FunD.bindsN FBit fun _ _ _ _ _ _ us hl => match us, hl with | [_, _], _ => rfl
  obtain ⟨dPick, FPick⟩ := cd.def_ 12 (d := dG "_law_pick" sPick) rfl
  have bPick : Binds K dPick ["jug", "items"] [] := FunD.bindsN FPick fun _ _ _ _ _ _ us hl => match us, hl with | [_, _], _ => rfl
  obtain ⟨dDealt, FDealt⟩ := cd.def_ 13 (d := dG "_law_dealt" sDealt) rfl
  have bDealt : Binds K dDealt ["jug", "items"] [] := FunD.bindsN FDealt fun _ _ _ _ _ _ us hl => match us, hl with | [_, _], _ => rfl
  obtain ⟨dSigns, FSigns⟩ := cd.def_ 14 (d := dG "_law_signs" sSigns) rfl
  have bSigns : Binds K dSigns ["jug"] [] := FunD.bindsN FSigns fun _ _ _ _ _ _ us hl => match us, hl with | [_], _ => rfl
  obtain ⟨dLine, FLine⟩ := cd.def_ 15 (d := dG "_law_line" sLine) rfl
  have bLine : Binds K dLine ["jug", "signs", "most"] [] := FunD.bindsN FLine fun _ _ _ _ _ _ us hl => match us, hl with | [_, _, _], _ => rfl
  obtain ⟨dSorted, FSorted⟩ := cd.def_ 16 (d := dG "_law_sorted" sSorted) rfl
  have bSorted : Binds K dSorted ["lot"] [] := FunD.bindsN FSorted fun _ _ _ _ _ _ us hl => match us, hl with | [_], _ => rfl
  obtain ⟨dMeet, FMeet⟩ := cd.def_ 17 (d := dG "_law_meet" sMeet) rfl
  have bMeet : Binds K dMeet ["one", "two"] [] := FunD.bindsN FMeet fun _ _ _ _ _ _ us hl => match us, hl with | [_, _], _ => rfl
  obtain ⟨dLot, FLot⟩ := cd.def_ 18 (d := dG "_law_lot" sLot) rfl
  have bLot : Binds K dLot ["jug", "signs", "much", "most"] [] := FunD.bindsN FLot fun _ _ _ _ _ _ us hl => match us, hl with | [_, _, _, _], _ => rfl
  obtain ⟨dIsTold, FIsTold⟩ := cd.def_ 19 (d := dG "_law_is_told" sIsTold) rfl
  have bIsTold : Binds K dIsTold ["made", "signs", "lot"] [] := FunD.bindsN FIsTold fun _ _ _ _ _ _ us hl => match us, hl with | [_, _, _], _ => rfl
  obtain ⟨dLawUnif, FLawUnif⟩ := cd.def_ 20 (d := dG "_law_uniform" sLawUnif) rfl
  have bLawUnif : Binds K dLawUnif ["signs", "much"] [] := FunD.bindsN FLawUnif fun _ _ _ _ _ _ us hl => match us, hl with | [_, _], _ => rfl
  obtain ⟨dRight, FRight⟩ := cd.def_ 21 (d := dG "_law_right" sRight) rfl
  have bRight : Binds K dRight ["jug"] [] := FunD.bindsN FRight fun _ _ _ _ _ _ us hl => match us, hl with | [_], _ => rfl
  obtain ⟨dLaw, FLaw⟩ := cd.def_ 22 (d := dG "law" sLaw) rfl
  have bLaw : Binds K dLaw ["script"] [] := FunD.bindsN FLaw fun _ _ _ _ _ _ us hl => match us, hl with | [_], _ => rfl
  obtain ⟨dInit, FInit⟩ := cd.def_ 23 (d := dM "__init__" sInit) rfl
  have bInit : Binds K dInit ["self", "letters", "words"] [] := FunD.bindsN FInit fun _ _ _ _ _ _ us hl => match us, hl with | [_, _, _], _ => rfl
  obtain ⟨dHas, FHas⟩ := cd.def_ 24 (d := dM "__contains__" sHas) rfl
  have bHas : Binds K dHas ["self", "value"] [] := FunD.bindsN FHas fun _ _ _ _ _ _ us hl => match us, hl with | [_, _], _ => rfl
  obtain ⟨dAt, FAt⟩ := cd.def_ 25 (d := dM "__getitem__" sAt) rfl
  have bAt : Binds K dAt ["self", "index"] [] := FunD.bindsN FAt fun _ _ _ _ _ _ us hl => match us, hl with | [_, _], _ => rfl
  obtain ⟨dLen, FLen⟩ := cd.def_ 26 (d := dM "__len__" sLen) rfl
  have bLen : Binds K dLen ["self"] [] := FunD.bindsN FLen fun _ _ _ _ _ _ us hl => match us, hl with | [_], _ => rfl
  obtain ⟨dEq, FEq⟩ := cd.def_ 27 (d := dM "__eq__" sEq) rfl
  have bEq : Binds K dEq ["self", "other"] [] := FunD.bindsN FEq fun _ _ _ _ _ _ us hl => match us, hl with | [_, _], _ => rfl
  obtain ⟨dStr, FStr⟩ := cd.def_ 28 (d := dM "__str__" sStr) rfl
  have bStr : Binds K dStr ["self"] [] := FunD.bindsN FStr fun _ _ _ _ _ _ us hl => match us, hl with | [_], _ => rfl
  obtain ⟨dGetLetters, FGetLetters⟩ := c.get 0 (d := gM "property" "letters" sGetLetters) rfl
  have bGetLetters : Binds K dGetLetters ["self"] [] := FunD.bindsN FGetLetters fun _ _ _ _ _ _ us hl => match us, hl with | [_], _ => rfl
  obtain ⟨dGetWords, FGetWords⟩ := c.get 1 (d := gM "property" "words" sGetWords) rfl
  have bGetWords : Binds K dGetWords ["self"] [] := FunD.bindsN FGetWords fun _ _ _ _ _ _ us hl => match us, hl with | [_], _ => rfl
  obtain ⟨dGetLongest, FGetLongest⟩ := c.get 2 (d := gM "property" "longest" sGetLongest) rfl
  have bGetLongest : Binds K dGetLongest ["self"] [] := FunD.bindsN FGetLongest fun _ _ _ _ _ _ us hl => match us, hl with | [_], _ => rfl
  obtain ⟨dUniform, FUniform⟩ := c.get 3 (d := gM "classmethod" "uniform" sUniform) rfl
  have bUniform : Binds K dUniform ["cls", "letters", "size"] [] := FunD.bindsN FUniform fun _ _ _ _ _ _ us hl => match us, hl with | [_, _, _], _ => rfl
  have gIsInteger := He.glo_ok X G (cd.fact 0 (f := .glo "is_integer") rfl)
  have gIsLetters := He.glo_ok X G (cd.fact 1 (f := .glo "is_letters") rfl)
  have gIsWordOf := He.glo_ok X G (cd.fact 2 (f := .glo "_is_word_of") rfl)
  have gIsSpelled := He.glo_ok X G (cd.fact 3 (f := .glo "_is_spelled") rfl)
  have gOrdered := He.glo_ok X G (cd.fact 4 (f := .glo "ordered") rfl)
  have gOrderedWords := He.glo_ok X G (cd.fact 5 (f := .glo "ordered_words") rfl)
  have gCheckLetters := He.glo_ok X G (cd.fact 6 (f := .glo "check_letters") rfl)
  have gCheckNumber := He.glo_ok X G (cd.fact 7 (f := .glo "check_number") rfl)
  have gFirstClash := He.glo_ok X G (cd.fact 8 (f := .glo "first_clash") rfl)
  have gSomeBegins := He.glo_ok X G (cd.fact 9 (f := .glo "_some_begins") rfl)
  have gJug := He.glo_ok X G (cd.fact 10 (f := .glo "_law_jug") rfl)
  have gBit := He.glo_ok X G (cd.fact 11 (f := .glo "_law_bit") rfl)
  have gPick := He.glo_ok X G (cd.fact 12 (f := .glo "_law_pick") rfl)
  have gDealt := He.glo_ok X G (cd.fact 13 (f := .glo "_law_dealt") rfl)
  have gSigns := He.glo_ok X G (cd.fact 14 (f := .glo "_law_signs") rfl)
  have gLine := He.glo_ok X G (cd.fact 15 (f := .glo "_law_line") rfl)
  have gSorted := He.glo_ok X G (cd.fact 16 (f := .glo "_law_sorted") rfl)
  have gMeet := He.glo_ok X G (cd.fact 17 (f := .glo "_law_meet") rfl)
  have gLot := He.glo_ok X G (cd.fact 18 (f := .glo "_law_lot") rfl)
  have gIsTold := He.glo_ok X G (cd.fact 19 (f := .glo "_law_is_told") rfl)
  have gLawUnif := He.glo_ok X G (cd.fact 20 (f := .glo "_law_uniform") rfl)
  have gRight := He.glo_ok X G (cd.fact 21 (f := .glo "_law_right") rfl)
  have gLaw := He.glo_ok X G (cd.fact 22 (f := .glo "law") rfl)
  have gBook := He.glo_ok X G (cd.fact 23 (f := .glo "Book") rfl)
  have i__TOO_LONG := He.int_ok X G (cd.fact 24 (f := .int "_TOO_LONG" ((10 ^ 50) ^ 4)) rfl)
  have i_MAX_LETTERS := He.int_ok X G (cd.fact 25 (f := .int "MAX_LETTERS" 3) rfl)
  have i_MAX_WORD := He.int_ok X G (cd.fact 26 (f := .int "MAX_WORD" 400) rfl)
  have i_MAX_WORDS := He.int_ok X G (cd.fact 27 (f := .int "MAX_WORDS" 400) rfl)
  have m_isinstance := He.free_ok X G (cd.fact 28 (f := .free "isinstance") rfl)
  have m_int := He.free_ok X G (cd.fact 29 (f := .free "int") rfl)
  have m_bool := He.free_ok X G (cd.fact 30 (f := .free "bool") rfl)
  have m_str := He.free_ok X G (cd.fact 31 (f := .free "str") rfl)
  have m_tuple := He.free_ok X G (cd.fact 32 (f := .free "tuple") rfl)
  have m_abs := He.free_ok X G (cd.fact 33 (f := .free "abs") rfl)
  have m_len := He.free_ok X G (cd.fact 34 (f := .free "len") rfl)
  have m_sorted := He.free_ok X G (cd.fact 35 (f := .free "sorted") rfl)
  have m_set := He.free_ok X G (cd.fact 36 (f := .free "set") rfl)
  have m_any := He.free_ok X G (cd.fact 37 (f := .free "any") rfl)
  have m_all := He.free_ok X G (cd.fact 38 (f := .free "all") rfl)
  have m_zip := He.free_ok X G (cd.fact 39 (f := .free "zip") rfl)
  have m_range := He.free_ok X G (cd.fact 40 (f := .free "range") rfl)
  have m_max := He.free_ok X G (cd.fact 41 (f := .free "max") rfl)
  have m_min := He.free_ok X G (cd.fact 42 (f := .free "min") rfl)
  have m_list := He.free_ok X G (cd.fact 43 (f := .free "list") rfl)
  have cBook := He.cls_ok (cd.fact 44 (f := .cls "Book") rfl)
  have mkBook := He.mkr_ok (cd.fact 45 (f := .mkr "Book") rfl)
  have n_letters := He.noat_ok (cd.fact 46 (f := .noat "Book" "_letters") rfl)
  have n_words := He.noat_ok (cd.fact 47 (f := .noat "Book" "_words") rfl)
  have n_known := He.noat_ok (cd.fact 48 (f := .noat "Book" "_known") rfl)
  have wInit := He.meth_ok (cd.fact 49 (f := .meth "Book" "__init__") rfl)
  have wHas := He.meth_ok (cd.fact 50 (f := .meth "Book" "__contains__") rfl)
  have wAt := He.meth_ok (cd.fact 51 (f := .meth "Book" "__getitem__") rfl)
  have wLen := He.meth_ok (cd.fact 52 (f := .meth "Book" "__len__") rfl)
  have wEq := He.meth_ok (cd.fact 53 (f := .meth "Book" "__eq__") rfl)
  have wStr := He.meth_ok (cd.fact 54 (f := .meth "Book" "__str__") rfl)
  have ef := hfa.symm.trans gLaw
  cases ef
  refine ⟨dLaw, fun s v => FunD.bindsA (ps := ["script"]) FLaw (fun _ _ _ _ _ _ us hl => match us, hl with | [_], _ => rfl) s [v] rfl, fun base _ _ => ?_⟩
  have M : Free mg := ⟨m_isinstance, m_int, m_bool, m_str, m_tuple, m_abs, m_len, m_sorted, m_set⟩
  have Z : Sizes mg := ⟨i__TOO_LONG, i_MAX_LETTERS, i_MAX_WORD⟩
  obtain ⟨x1, x2⟩ := He.ba c.more
  obtain ⟨x2, x3⟩ := He.ba x2
  have B : BookK K (He.ga K "Book") := clsChk_ok cBook n_letters n_words n_known x1
  obtain ⟨y1, y2⟩ := He.ba x2
  obtain ⟨y2, y3⟩ := He.ba y2
  obtain ⟨z1, z2⟩ := He.ba x3
  obtain ⟨z2, z3⟩ := He.ba z2
  obtain ⟨z3, z4⟩ := He.ba z3
  obtain ⟨u1, u2⟩ := HP.clsmB_ok z4
  have kBit := ok_bit (P := P) (w := w) (mg := mg) (base := base) FBit m_int
  have kJug := ok_jug (P := P) (w := w) (mg := mg) (base := base) FJug m_int m_len m_abs m_max
  have kIsInteger := ok_is_integer (P := P) (w := w) (mg := mg) (base := base) FIsInteger Z M
  have kIsLetters := ok_is_letters (P := P) (w := w) (mg := mg) (base := base) FIsLetters Z M
  have kIsSpelled := ok_is_spelled (P := P) (w := w) (mg := mg) (base := base) FIsSpelled M
  have kOrdered := ok_ordered (P := P) (w := w) (mg := mg) (base := base) FOrdered M
  have kCheckLetters := ok_check_letters FCheckLetters kIsLetters gIsLetters FIsLetters.kp bIsLetters
  have kIsWordOf := ok_is_word_of (P := P) (w := w) (mg := mg) (base := base) FIsWordOf M Z kIsSpelled gIsSpelled FIsSpelled.kp bIsSpelled
  have kCheckNumber := ok_check_number FCheckNumber kIsInteger gIsInteger FIsInteger.kp bIsInteger
  have kOrderedWords := ok_ordered_words FOrderedWords M m_all kCheckLetters gCheckLetters FCheckLetters.kp bCheckLetters kIsWordOf gIsWordOf FIsWordOf.kp bIsWordOf kOrdered gOrdered FOrdered.kp bOrdered
  have kSomeBegins := ok_some_begins (P := P) (w := w) (mg := mg) (base := base) FSomeBegins M m_any m_zip
  have kFirstClash := ok_no_clash FFirstClash kSomeBegins gSomeBegins FSomeBegins.kp bSomeBegins
  have kInit := ok_init FInit B M i_MAX_WORDS kOrderedWords gOrderedWords FOrderedWords.kp bOrderedWords kFirstClash gFirstClash FFirstClash.kp bFirstClash
  have kGetLetters := ok_get_letters (P := P) (w := w) (mg := mg) (base := base) FGetLetters B
  have kGetWords := ok_get_words (P := P) (w := w) (mg := mg) (base := base) FGetWords B
  have kGetLongest := ok_get_longest (P := P) (w := w) (mg := mg) (base := base) FGetLongest B M
  have kHas := ok_has (P := P) (w := w) (mg := mg) (base := base) FHas B M
  have kAt := ok_at FAt B M kCheckNumber gCheckNumber FCheckNumber.kp bCheckNumber
  have kLen := ok_len (P := P) (w := w) (mg := mg) (base := base) FLen B M
  have kEq := ok_eq (P := P) (w := w) (mg := mg) (base := base) FEq B M gBook
  have kStr := ok_str (P := P) (w := w) (mg := mg) (base := base) FStr B M
  have kUniform := ok_uniform FUniform mkBook M Z m_range i_MAX_WORDS kCheckLetters gCheckLetters FCheckLetters.kp bCheckLetters kCheckNumber gCheckNumber FCheckNumber.kp bCheckNumber kInit bInit
  have R : BookRules P w K mg base (He.ga K "Book") := ⟨B, gBook, ⟨_, _, _, HP.propB_ok z1, kGetLetters, bGetLetters⟩, ⟨_, _, _, HP.propB_ok z2, kGetWords, bGetWords⟩, ⟨_, _, _, HP.propB_ok z3, kGetLongest, bGetLongest⟩,
    ⟨_, _, ⟨wLen.at_, wLen.fn⟩, kLen, bLen⟩, ⟨_, _, ⟨wHas.at_, wHas.fn⟩, kHas, bHas⟩, ⟨_, _, ⟨wAt.at_, wAt.fn⟩, y3, kAt, bAt⟩, ⟨_, _, ⟨wEq.at_, wEq.fn⟩, kEq, bEq⟩,
    ⟨He.eqO_ok y1, of_decide_eq_true y2⟩, ⟨_, _, ⟨wStr.at_, wStr.fn⟩, kStr, bStr⟩, ⟨_, _, mkBook, kInit, bInit⟩, ⟨_, _, _, u1, u2, kUniform, bUniform⟩⟩
  have kSorted := ok_law_sorted (P := P) (w := w) (mg := mg) (base := base) FSorted M
  have kPick := ok_pickS FPick kBit gBit FBit.kp bBit M
  have kDealt := ok_dealt FDealt kBit gBit FBit.kp bBit m_len m_range m_list
  have kSigns := ok_signs FSigns kPick gPick FPick.kp bPick
  have kLine := ok_line FLine M m_range kBit gBit FBit.kp bBit kPick gPick FPick.kp bPick
  have kMeet := ok_meet (P := P) (w := w) (mg := mg) (base := base) FMeet M
  have kLot := ok_lot FLot M m_range kPick gPick FPick.kp bPick kLine gLine FLine.kp bLine kMeet gMeet FMeet.kp bMeet kSorted gSorted FSorted.kp bSorted
  have kIsTold := ok_is_told FIsTold R M m_range m_list m_max
  have kLawUnif := ok_law_unif (P := P) (w := w) (mg := mg) (base := base) FLawUnif M m_range
  have kRight := ok_right FRight R M m_range ⟨⟨_, _, kSigns, gSigns, FSigns.kp, bSigns⟩⟩ ⟨⟨_, _, kLot, gLot, FLot.kp, bLot⟩⟩ ⟨⟨_, _, kDealt, gDealt, FDealt.kp, bDealt⟩⟩ ⟨⟨_, _, kPick, gPick, FPick.kp, bPick⟩⟩ ⟨⟨_, _, kIsTold, gIsTold, FIsTold.kp, bIsTold⟩⟩
  exact ok_law FLaw R M m_range m_max m_min ⟨⟨_, _, kJug, gJug, FJug.kp, bJug⟩⟩ ⟨⟨_, _, kBit, gBit, FBit.kp, bBit⟩⟩ ⟨⟨_, _, kSigns, gSigns, FSigns.kp, bSigns⟩⟩ ⟨⟨_, _, kIsTold, gIsTold, FIsTold.kp, bIsTold⟩⟩ ⟨⟨_, _, kLawUnif, gLawUnif, FLawUnif.kp, bLawUnif⟩⟩ ⟨⟨_, _, kRight, gRight, FRight.kp, bRight⟩⟩
end B3
open PySem PySem.W PySem.Calls PyProof.Rows
set_option maxRecDepth 100000 in
set_option maxHeartbeats 0 in
theorem PySem.Challenge.cw_twowaycuts_k03_books_told_holds : PySem.Challenge.rw_twowaycuts_k03_books_told.Holds := by
  w_on; o_law
  refine HandSHeadRun.head_any (r := OpenLaw.row PySem.Challenge.rw_twowaycuts_k03_books_told) (q := view (OpenLaw.row PySem.Challenge.rw_twowaycuts_k03_books_told).prog [40]) (H := B3.hk) (ob := B3.ob) (M := 4000) (loose := B3.loose) (d := HandSHeadRun.topDef (OpenLaw.row PySem.Challenge.rw_twowaycuts_k03_books_told).prog 40) (kwd := []) B3.ob_eq
    (by kernel_rfl) (fun s => by kernel_rfl) B3.run (by kernel_rfl) (by kernel_rfl) (by kernel_rfl) (by rfl) (by first | assumption | decide +kernel) (by decide +kernel) ⟨rfl, rfl, rfl, rfl, rfl, by decide +kernel⟩ ?hw ?hc
  case hw => w_witness2
  case hc =>
    refine L2.walk_ofE (l := PySem.Challenge.rw_twowaycuts_k03_books_told) (n := 63) (k := 9) (x := "script") (CX := L2.CX0) rfl (by decide) (by kernel_rfl) ⟨rfl, by decide, by decide⟩ ?F (fun _ _ _ _ z => z)
    intro w mg fa h Y G hmg0
    obtain ⟨K, KX, c⟩ := Y
    have hmg : mg ("law" : PySem.Str) = some (.ref fa) := by
      have e : (HandSHeadRun.topDef (OpenLaw.row PySem.Challenge.rw_twowaycuts_k03_books_told).prog 40).name = ("law" : PySem.Str) := by kernel_rfl
      rw [← e]
      exact hmg0
    obtain ⟨fd, hb, hF⟩ := B3.all_facts (P := (PySem.Challenge.rw_twowaycuts_k03_books_told).prog) (w := w) KX G hmg c
    exact ⟨K, fd, B3.spLaw K, KX, hb, fun H a ns hl hO hS => ⟨a, ns, rfl, hS, hl, fun _ => rfl⟩, hF⟩
