import PyProof.Rows.All
import Wide.All
import OpenK.AllK
import Wide.FinOn
import HandS.ForMost
import HandS.Iter
import HandS.Wide
import HandS.Gcd
import HandS.Evl
import HandS.TupAny
import HandS.TupMul
import HandS.IsInst
import KE.GoesEnum
import HandS.WideBits
import HandS.Style
import PyProof.InstNe
import HandS.OwnEq
import HandS.ForExc
import HandS.Small
import HandS.ExcValue
import HandS.Dict
import HandS.TupSets
import HandS.Strs
import HandS.Flow
import HandS.Deep
import HandS.ExcOwn
import HandS.WordsExc
import HandS.Comp
import HandS.SortInts
import HandS.Text
import HandS.TupLen
import HandS.Conv
import HandS.TryMany
import HandS.TryOnly
import HandS.ExcInit
import HandS.Exc
import HandS.Call
import HandS.DictComp
import HandS.SortRule
import HandS.More
import PySem.Challenge.RW_neverleapt_k33_whole_measures_by_nets
set_option Elab.async false
set_option linter.all false
set_option maxRecDepth 100000
set_option maxHeartbeats 8000000
/-! enumerate over a tuple (of mine) -/
namespace EnT
open PySem L2 PyProof.Rows
open AutoSeq1 (wpAny_loadPart')

theorem made_tup (t : Addr) (its : Array Value) (n : Nat) (dd : Option Addr) (sl : Array (Option Value)) :
    Meets (Builtin.«enumerate.__new__» ⟨[.type "enumerate", .ref t], []⟩) (fun _ R s =>
      s.heap.get? t = some { cls := .type "tuple", dict := dd, data := .seq its n, slots := sl } ∧
      R (.ok (.ret (.ref (s.heap.push { cls := .type "tuple_iterator", data := .fields #[.ref t, .int 0 0] }).objs.size)))
        { s with heap := ((s.heap.push { cls := .type "tuple_iterator", data := .fields #[.ref t, .int 0 0] }).push ({ cls := .type "enumerate", data := .fields #[.none, .bool false, .ref s.heap.objs.size, rawInt 0, .none, .none] })) }) :=
  .of_wp fun P w A R s h => by
    obtain ⟨h0, g0, d0, t0, o0⟩ := s
    obtain ⟨ht, h⟩ := h
    have sub := sub_enumerate
    have isT : Heap.IsTuple (Shared.heap ⟨h0, g0, d0, t0, o0⟩) t its := ⟨_, ht, rfl, n, rfl⟩
    wp_walk using wpAny_loadPart' ht
    refine wpAny_stack_any fun z => wpAny_pure ?_
    split
    · rename_i c _ _ _ _ _
      cases (c == Value.type "enumerate") <;>
      · wp_walk using wpAny_loadPart' ht, wpAny_pyIter_tuple isT
        exact ⟨_, rfl, h⟩
    · wp_walk using wpAny_loadPart' ht, wpAny_pyIter_tuple isT
      exact ⟨_, rfl, h⟩

section
variable {prog : Program} {w : World} {A : Around} {E : Value → Shared → Prop} {s : Shared}
theorem call_tup {t : Addr} {its : Array Value} {Q : Value → Shared → Prop} (hT : s.heap.IsTuple t its)
    (h : ∀ h', IsEnum h' (s.heap.objs.size + 1) s.heap.objs.size 0 .none → h'.IsTupleIter s.heap.objs.size t 0 →
      (∀ b o, s.heap.get? b = some o → h'.get? b = some o) → Q (.ref (s.heap.objs.size + 1)) { s with heap := h' }) :
    wpAny (model prog w) A (call (.type "enumerate") [.ref t]) Q E s := by
  obtain ⟨⟨c, dd, dt, sl⟩, ht, hc, n, hd⟩ := hT
  have hc' : c = .type "tuple" := hc
  have hd' : dt = .seq its n := hd
  subst hc' hd'
  refine callType_new F.called_enumerate (by decide) (F.typeCall_enumerate_1 _) (F.newCall_enumerate_1 _) (fun o => F.args_object_init_2 o _) F.entry_enumerate_new
    (made_tup t its n dd sl) ⟨ht, ?_⟩
  have z : (s.heap.push { cls := .type "tuple_iterator", data := .fields #[.ref t, .int 0 0] }).objs.size = s.heap.objs.size + 1 := Heap.size_push ..
  show _ ∧ _
  rw [z]
  have e : IsEnum ((s.heap.push { cls := .type "tuple_iterator", data := .fields #[.ref t, .int 0 0] }).push
      { cls := .type "enumerate", data := .fields #[.none, .bool false, .ref s.heap.objs.size, rawInt 0, .none, .none] }) (s.heap.objs.size + 1) s.heap.objs.size 0 .none := by
    have q := Heap.get?_push_size (s.heap.push { cls := .type "tuple_iterator", data := .fields #[.ref t, .int 0 0] })
      (o := { cls := .type "enumerate", data := .fields #[.none, .bool false, .ref s.heap.objs.size, rawInt 0, .none, .none] }) rfl
    rw [z] at q
    exact q
  exact ⟨⟨_, e, rfl⟩, h _ e ⟨_, Heap.get?_push_of_some _ (Heap.get?_push_size _ rfl), rfl, rfl⟩ fun b o x => Heap.get?_push_of_some _ (Heap.get?_push_of_some _ x)⟩
end

/-- the items of the tuple at a, each in a new pair with its place -/
def Ett (K : PySem.W.Frag) (a : Addr) : It where
  go i H := ∃ (xs : List V) (x : V), SqT K H a xs ∧ xs[i]? = some x
  yld i H v H' := ∃ T x, v = .ref T ∧ H T = none ∧ H' = upd H T (.tup [.int (i : Nat), x]) ∧ ∀ xs, SqT K H a xs → xs[i]? = some x
  stop i H := ∃ xs : List V, SqT K H a xs ∧ xs.length = i

def St (a e it : Addr) (i : Nat) (h : Heap) : Prop := (∃ old, IsEnum h e it ((i : Nat) : Int) old) ∧ h.IsTupleIter it a i ∧ e ≠ it

theorem apart {h : Heap} {it a : Addr} {i : Nat} {its : Array Value} (h1 : h.IsTupleIter it a i) (h2 : h.IsTuple a its) : a ≠ it := by
  obtain ⟨o, e, c, _⟩ := h1
  obtain ⟨o', e', c', _⟩ := h2
  intro z
  rw [z, e] at e'
  cases e'
  rw [c] at c'
  exact absurd c' (by decide)

theorem turn {P : Program} {w : World} {K : PySem.W.Frag} {elts : List Expr} {kk : Nat} {tpos : Pos} (a e it : Addr) :
    Turn P w K (.Tuple elts kk tpos) (Ett K a) [e, it] e (St a e it) where
  mem := by simp
  obj := fun i h st b hb => by
    obtain ⟨⟨old, he⟩, ⟨o, ho, hc, hd⟩, _⟩ := st
    rcases (by simpa using hb : b = e ∨ b = it) with z | z
    · subst z; exact ⟨_, he, fun v q => nomatch q⟩
    · subst z; exact ⟨o, ho, fun v q => by rw [hd] at q; cases q⟩
  keep := fun i h h' st k => by
    obtain ⟨⟨old, he⟩, hi, hne⟩ := st
    exact ⟨⟨old, k e (by simp) _ he⟩, hi.at fun o q => k it (by simp) o q, hne⟩
  item := by
    intro X hP hw hK hc i pins s σ H E I hf st hg
    subst hP hw hK
    obtain ⟨⟨old, he⟩, hit, hne⟩ := st
    obtain ⟨xs, x, hq, hx⟩ := hg
    obtain ⟨its, rv, p, hz⟩ := I.tuple hq
    have isT : s.heap.IsTuple a its.toArray := p
    obtain ⟨u, hu, ru⟩ := rv.get hx
    have hu' : its.toArray[i]? = some u := by simpa using hu
    have hlt : i < its.toArray.size := by
      obtain ⟨q, _⟩ := Array.getElem?_eq_some_iff.mp hu'
      exact q
    have hai := apart hit isT
    have hae : a ≠ e := by
      intro z
      obtain ⟨o', e', c', _⟩ := isT
      have he' : s.heap.get? e = some _ := he
      rw [z, he'] at e'
      cases e'
      exact absurd (show Value.type "enumerate" = Value.type "tuple" from c') (by decide)
    have hel : e < s.heap.objs.size := Heap.lt_size he
    have hil : it < s.heap.objs.size := by obtain ⟨_, q, _⟩ := hit; exact Heap.lt_size q
    refine wpAny_pyNext_enum_itemD (Draws.tuple (prog := X.prog) (w := X.w) (A := X.A.in1) (I.ok.hd hc) it a hai its.toArray) he ⟨hit, isT⟩ hlt hne
      (by simp only [List.mem_cons, List.not_mem_nil, or_false, not_or]; exact ⟨hne, fun z => hae z.symm⟩) fun v h' tk hv ho st' hT hsz hk => ?_
    have ev : v = u := by
      have q : its.toArray[i]? = some v := hv
      rw [hu'] at q
      exact (Option.some.inj q).symm
    subst ev
    refine ⟨_, rfl, wpAny_letOwnedTupleGo_enum (s := { s with heap := h', toks := tk + 1 }) ho fun h'' he' sb => ?_⟩
    have hT2 : h''.get? s.heap.objs.size = some { cls := .type "tuple", data := .seq #[.int i tk, v] } := (sb.2 _ (Nat.ne_of_gt hel)).trans hT
    have new : ObjOk X.prog X.w (upd H s.heap.objs.size (.tup [.int (i : Nat), x])) h'' s.heap.objs.size (.tup [.int (i : Nat), x]) :=
      ⟨(by show 2 ≤ sizeLine; decide), [.int i tk, v], .cons ⟨_, rfl⟩ (.cons ru .nil), ⟨_, hT2, rfl, _, rfl⟩⟩
    have J : Inv X pins σ (upd H s.heap.objs.size (.tup [.int (i : Nat), x])) { s with heap := h'', toks := tk + 1 } :=
      I.turnedNew (ch := [e, it]) (fun b ob hb q => (sb.2 b (fun z => hb (by simp [z]))).trans (hk b ob (fun z => hb (by simp [z])) (fun z => hb (by simp [z])) q)) hf (Nat.le_refl _) new
    refine ⟨.ref s.heap.objs.size, _, J, rfl, ⟨_, x, rfl, I.hok.fresh (Nat.le_refl _), rfl, fun ys hy => by rw [I.tuple_inj hy hq]; exact hx⟩, ⟨⟨v, ?_⟩, st'.1.at fun o q => (sb.2 it (Ne.symm hne)).trans q, hne⟩, fun b hb => ?_⟩
    · have e1 : ((i + 1 : Nat) : Int) = (i : Int) + 1 := by omega
      rw [e1]
      exact he'
    · have hb' : b < s.heap.objs.size := by
        rcases (by simpa using hb : b = e ∨ b = it) with z | z
        · rw [z]; exact hel
        · rw [z]; exact hil
      rw [upd_ne (Nat.ne_of_lt hb')]
      exact (hf b hb).1
  done := by
    intro X hP hw hK hc i pins s σ H E I hf st hg
    subst hP hw hK
    obtain ⟨⟨old, he⟩, hit, hne⟩ := st
    obtain ⟨xs, hq, hx⟩ := hg
    obtain ⟨its, rv, p, hz⟩ := I.tuple hq
    have isT : s.heap.IsTuple a its.toArray := p
    obtain ⟨f0, f1, f2, f3, f4, f5⟩ := hf it (by simp)
    have hl := rv.length
    have hai := apart hit isT
    have hn : i = its.toArray.size := by simp; omega
    subst hn
    exact wpAny_pyNext_enum_endD (Draws.tuple (prog := X.prog) (w := X.w) (A := X.A.in1) (I.ok.hd hc) it a hai its.toArray) he ⟨hit, isT⟩ fun h' eb =>
      ⟨rfl, I.turned (t' := s.toks) (fun b o hb q => eb b o hb q) f0 f1 f3 f4 f5⟩
  self := fun A i s Q E st h => by
    obtain ⟨⟨_, he⟩, _⟩ := st
    exact wpAny_pyIter_enum he h
def iEnT (K : PySem.W.Frag) (ta : TA) : TI := fun σ H R => ta σ H fun vs H1 => ∃ a xs, vs = [.ref a] ∧ SqT K H1 a xs ∧ R (Ett K a) H1
theorem pi_enumT {X : Cx} {e : Expr} {ta : TA} {p pos tpos : Pos} {elts : List Expr} {kk : Nat} (hg : Gl X "enumerate") (hm : X.mg "enumerate" = none) (ha : PA X [e] ta)
    (hs : starEach [e] X.env = [(false, eval e X.env)] := by rfl) : PI X (.Tuple elts kk tpos) (.Call (.Name "enumerate" p) [e] [] pos) (iEnT X.K ta) := by
  refine ⟨fun pins s σ H R I h => ?_⟩
  refine Call_ (ld_blt I hg hm boot_enumerate (PyProof.Rows.callWith_type1 (thn (ha.run pos pins s σ H _ I h) fun us s1 z => ?_) hs rfl))
  obtain ⟨vs, H1, I1, r1, a, xs, ex, hq, q⟩ := z
  subst ex
  cases r1 with
  | cons r rr =>
    cases rr
    cases r
    obtain ⟨its, rv, p', hz⟩ := I1.tuple hq
    refine call_tup (show s1.heap.IsTuple a its.toArray from p') fun h' he hit hk => wpAny_pyIter_enum he ?_
    have J : Inv X pins σ H1 { s1 with heap := h' } := I1.kept (t' := s1.toks) hk
    refine ⟨s1.heap.objs.size + 1, [s1.heap.objs.size + 1, s1.heap.objs.size], _, _, H1, rfl, J, turn a (s1.heap.objs.size + 1) s1.heap.objs.size, ⟨⟨.none, he⟩, hit, Nat.succ_ne_self _⟩, fun b hb => ?_, q⟩
    have le : s1.heap.objs.size ≤ b := by
      rcases (by simpa using hb : b = s1.heap.objs.size + 1 ∨ b = s1.heap.objs.size) with z | z
      · rw [z]; exact Nat.le_succ _
      · rw [z]; exact Nat.le_refl _
    exact I1.fpOk le (I1.hok.fresh le)
/-- for i, x in enumerate(t): an invariant by the turn -/
theorem for_enT {K : PySem.W.Frag} {a : Addr} {xs : List V} {g : TG} {tb : TS} {D : Ends} {σ : L2.St} {H : Hp} (Pv : Nat → L2.St → Hp → Prop) (h0 : Pv 0 σ H) (hl : ∀ i σ H, i ≤ xs.length → Pv i σ H → SqT K H a xs)
    (hs : ∀ i x σ H T, xs[i]? = some x → Pv i σ H → H T = none → g (.ref T) σ (upd H T (.tup [.int (i : Nat), x])) fun σ2 H2 => tb { D with nx := Pv (i + 1), ct := Pv (i + 1), bk := D.nx } σ2 H2) (hd : ∀ σ H, Pv xs.length σ H → D.nx σ H) :
    ∃ W : Nat → Nat → L2.St → Hp → Prop, (∃ m, W 0 m σ H) ∧ ∀ i m σ H, W i m σ H →
      ((Ett K a).stop i H ∧ D.nx σ H) ∨ ((Ett K a).go i H ∧ ∃ N : L2.St → Hp → Prop, (∀ σ' H', N σ' H' → ∃ m', m' < m ∧ W (i + 1) m' σ' H') ∧ ∀ x H', (Ett K a).yld i H x H' → g x σ H' fun σ2 H2 => tb { D with nx := N, ct := N, bk := D.nx } σ2 H2) := by
  refine ⟨fun i m σ H => m = xs.length - i ∧ i ≤ xs.length ∧ Pv i σ H, ⟨xs.length, by simp, Nat.zero_le _, h0⟩, ?_⟩
  rintro i m σ H ⟨rfl, hi, p⟩
  have q := hl i σ H hi p
  by_cases hlt : i < xs.length
  · refine .inr ⟨⟨xs, xs[i], q, by simp [hlt]⟩, Pv (i + 1), fun σ' H' p' => ⟨xs.length - (i + 1), by omega, rfl, hlt, p'⟩, ?_⟩
    rintro v H' ⟨T, x, rfl, hT, rfl, hx⟩
    exact hs i x σ H T (hx xs q) p hT
  · have e : i = xs.length := by omega
    subst e
    exact .inl ⟨⟨xs, q, rfl⟩, hd σ H p⟩
end EnT

/-! what all my proofs use: frames, tuples of ints, the pot -/
namespace My
open PySem L2

theorem hu64 {k : Nat} {A : Around} (hr : Room k A) : A.units + 64 < cLine := by have := hr.un; omega

/-! ### frames -/
/-- an object that never changes in these programs -/
def Im : HO → Bool
  | .tup _ => true
  | .ins _ _ _ => true
  | .frz _ _ => true
  | _ => false
def Keep (H H' : Hp) : Prop := ∀ b o, Im o = true → H b = some o → H' b = some o
/-- all but these addresses is kept -/
def But (l : List Addr) (H H' : Hp) : Prop := ∀ b o, b ∉ l → H b = some o → H' b = some o
theorem Keep.refl (H : Hp) : Keep H H := fun _ _ _ h => h
theorem Keep.trans {H H1 H2 : Hp} (a : Keep H H1) (b : Keep H1 H2) : Keep H H2 := fun c o i h => b c o i (a c o i h)
theorem But.refl (l : List Addr) (H : Hp) : But l H H := fun _ _ _ h => h
theorem But.trans {l : List Addr} {H H1 H2 : Hp} (a : But l H H1) (b : But l H1 H2) : But l H H2 := fun c o i h => b c o i (a c o i h)
theorem But.of {l : List Addr} {H H' : Hp} (a : Same H H') : But l H H' := fun c o _ h => a c o h
theorem Keep.of {H H' : Hp} (a : Same H H') : Keep H H' := fun c o _ h => a c o h
theorem Same.new {H : Hp} {p : Addr} {o : HO} (h : H p = none) : Same H (upd H p o) := fun b u e => by
  rw [upd_ne (ne_of_none e h)]
  exact e
/-- a list may change -/
theorem Keep.lst {H : Hp} {p : Addr} {xs : List V} {o : HO} (h : H p = some (.lst xs)) : Keep H (upd H p o) := fun b u i e => by
  have n : b ≠ p := fun z => by
    rw [z, h] at e
    cases e
    cases i
  rw [upd_ne n]
  exact e
theorem Keep.new {H : Hp} {p : Addr} {o : HO} (h : H p = none) : Keep H (upd H p o) := Keep.of (Same.new h)
theorem But.at {l : List Addr} {H : Hp} {p : Addr} {o : HO} (h : p ∈ l) : But l H (upd H p o) := fun b u i e => by
  rw [upd_ne (fun z => i (by rw [z]; exact h))]
  exact e
theorem But.new {l : List Addr} {H : Hp} {p : Addr} {o : HO} (h : H p = none) : But l H (upd H p o) := But.of (Same.new h)

theorem But.chg {l : List Addr} {H H' : Hp} {p : Addr} {o : HO} (e : But l H H') (h : H p = none) : But l H (upd H' p o) := fun b u i z => by
  rw [upd_ne (ne_of_none z h)]
  exact e b u i z
theorem Same.chg {H H' : Hp} {p : Addr} {o : HO} (e : Same H H') (h : H p = none) : Same H (upd H' p o) := fun b u z => by
  rw [upd_ne (ne_of_none z h)]
  exact e b u z

variable {K : PySem.W.Frag}
theorem SqT.keep {H H' : Hp} {a : Addr} {xs : List V} (e : Keep H H') (h : SqT K H a xs) : SqT K H' a xs := by
  rcases h with (h | ⟨o, h⟩) | h
  · exact .inl (.inl (e _ _ rfl h))
  · exact .inl (.inr ⟨o, e _ _ rfl h⟩)
  · exact .inr h
theorem SqT.lt {H : Hp} {a : Addr} {xs : List V} (h : H a = some (.tup xs)) : SqT K H a xs := .inl (.inl h)
theorem SqL.lt {H : Hp} {a : Addr} {xs : List V} (h : H a = some (.lst xs)) : SqL K H a xs := .inl (.inl h)

/-! ### two lists place by place -/
inductive All2 {α β : Type} (R : α → β → Prop) : List α → List β → Prop
  | nil : All2 R [] []
  | cons {a b as bs} : R a b → All2 R as bs → All2 R (a :: as) (b :: bs)
theorem All2.len {α β : Type} {R : α → β → Prop} {as : List α} {bs : List β} (h : All2 R as bs) : as.length = bs.length := by
  induction h with
  | nil => rfl
  | cons _ _ ih => simp [ih]
theorem All2.get {α β : Type} {R : α → β → Prop} {as : List α} {bs : List β} (h : All2 R as bs) : ∀ {i : Nat} {b : β}, bs[i]? = some b → ∃ a, as[i]? = some a ∧ R a b := by
  induction h with
  | nil => intro i b e; simp at e
  | @cons a b as bs r t ih =>
    intro i y e
    cases i with
    | zero =>
      have e' : b = y := by simpa using e
      subst e'
      exact ⟨a, by simp, r⟩
    | succ i =>
      obtain ⟨x, h1, h2⟩ := ih (i := i) (b := y) (by simpa using e)
      exact ⟨x, by simpa using h1, h2⟩
theorem All2.getL {α β : Type} {R : α → β → Prop} {as : List α} {bs : List β} (h : All2 R as bs) : ∀ {i : Nat} {a : α}, as[i]? = some a → ∃ b, bs[i]? = some b ∧ R a b := by
  induction h with
  | nil => intro i b e; simp at e
  | @cons a b as bs r t ih =>
    intro i y e
    cases i with
    | zero =>
      have e' : a = y := by simpa using e
      subst e'
      exact ⟨b, by simp, r⟩
    | succ i =>
      obtain ⟨x, h1, h2⟩ := ih (i := i) (a := y) (by simpa using e)
      exact ⟨x, by simpa using h1, h2⟩
theorem All2.imp {α β : Type} {R S : α → β → Prop} {as : List α} {bs : List β} (h : All2 R as bs) (f : ∀ a b, R a b → S a b) : All2 S as bs := by
  induction h with
  | nil => exact .nil
  | cons r _ ih => exact .cons (f _ _ r) ih
theorem All2.app {α β : Type} {R : α → β → Prop} {as cs : List α} {bs ds : List β} (h : All2 R as bs) (g : All2 R cs ds) : All2 R (as ++ cs) (bs ++ ds) := by
  induction h with
  | nil => exact g
  | cons r _ ih => exact .cons r ih
theorem All2.snoc {α β : Type} {R : α → β → Prop} {as : List α} {bs : List β} {a : α} {b : β} (h : All2 R as bs) (r : R a b) : All2 R (as ++ [a]) (bs ++ [b]) := h.app (.cons r .nil)
theorem All2.take {α β : Type} {R : α → β → Prop} {as : List α} {bs : List β} (h : All2 R as bs) : ∀ n : Nat, All2 R (as.take n) (bs.take n) := by
  induction h with
  | nil => intro n; simp; exact .nil
  | cons r _ ih =>
    intro n
    cases n with
    | zero => simp; exact .nil
    | succ n => simpa using .cons r (ih n)
theorem All2.map {α β γ : Type} {R : α → β → Prop} (f : γ → α) (g : γ → β) : ∀ (l : List γ), (∀ x ∈ l, R (f x) (g x)) → All2 R (l.map f) (l.map g)
  | [], _ => .nil
  | x :: l, h => .cons (h x (by simp)) (All2.map f g l fun y hy => h y (by simp [hy]))
theorem take_succ {α : Type} {l : List α} {i : Nat} {x : α} (h : l[i]? = some x) : l.take (i + 1) = l.take i ++ [x] := by
  rw [List.take_add_one, h]
  rfl

/-! ### tuples of ints, tuples of such -/
def IT (K : PySem.W.Frag) (H : Hp) (v : V) (ns : List Int) : Prop := ∃ q, v = .ref q ∧ SqT K H q (ns.map V.int)
theorem IT.keep {H H' : Hp} {v : V} {ns : List Int} (e : Keep H H') (h : IT K H v ns) : IT K H' v ns := by
  obtain ⟨q, h1, h2⟩ := h
  exact ⟨q, h1, SqT.keep e h2⟩
theorem IT.new {H : Hp} {p : Addr} {ns : List Int} {xs : List V} (e : xs = ns.map V.int) : IT K (upd H p (.tup xs)) (.ref p) ns := ⟨p, rfl, by
  rw [← e]
  exact SqT.lt upd_same⟩
def ITs (K : PySem.W.Frag) (H : Hp) (v : V) (nss : List (List Int)) : Prop := ∃ q xs, v = .ref q ∧ SqT K H q xs ∧ All2 (IT K H) xs nss
theorem ITs.keep {H H' : Hp} {v : V} {ns : List (List Int)} (e : Keep H H') (h : ITs K H v ns) : ITs K H' v ns := by
  obtain ⟨q, xs, h1, h2, h3⟩ := h
  exact ⟨q, xs, h1, SqT.keep e h2, h3.imp fun _ _ z => z.keep e⟩

/-! ### readings of an item -/
theorem at_ge {α : Type} {xs : List α} {i : Int} {v : α} (h0 : 0 ≤ i) (h : xs[i.toNat]? = some v) : atI xs i = some v := by
  have e := atI_nat h
  rw [Int.toNat_of_nonneg h0] at e
  exact e
/-- an int of a tuple of ints -/
theorem ixI {H : Hp} {x : V} {ns : List Int} {i n : Int} {Q : V → Prop} (h : IT K H x ns) (h0 : 0 ≤ i) (hn : ns[i.toNat]? = some n) (q : Q (.int n)) :
    ∃ p xs j v, x = .ref p ∧ (V.int i) = .int j ∧ SqT K H p xs ∧ atI xs j = some v ∧ Q v := by
  obtain ⟨a, e, s⟩ := h
  exact ⟨a, _, i, .int n, e, rfl, s, at_ge h0 (by rw [List.getElem?_map, hn]; rfl), q⟩
/-- a tuple of a tuple of such -/
theorem ixT {H : Hp} {x : V} {nss : List (List Int)} {i : Int} {ns : List Int} {Q : V → Prop} (h : ITs K H x nss) (h0 : 0 ≤ i) (hn : nss[i.toNat]? = some ns) (q : ∀ v, IT K H v ns → Q v) :
    ∃ p xs j v, x = .ref p ∧ (V.int i) = .int j ∧ SqT K H p xs ∧ atI xs j = some v ∧ Q v := by
  obtain ⟨a, xs, e, s, al⟩ := h
  obtain ⟨v, hv, r⟩ := al.get hn
  exact ⟨a, _, i, v, e, rfl, s, at_ge h0 hv, q v r⟩
/-- len -/
theorem lenT {H : Hp} {x : V} {nss : List (List Int)} {Q : List V → Prop} (h : ITs K H x nss) (q : ∀ ys : List V, ys.length = nss.length → Q ys) : ∃ p ys, [x] = [V.ref p] ∧ (SqL K H p ys ∨ SqT K H p ys) ∧ Q ys := by
  obtain ⟨a, xs, e, s, al⟩ := h
  exact ⟨a, xs, by rw [e], .inr s, q _ al.len⟩
theorem lenI {H : Hp} {x : V} {ns : List Int} {Q : List V → Prop} (h : IT K H x ns) (q : ∀ ys : List V, ys.length = ns.length → Q ys) : ∃ p ys, [x] = [V.ref p] ∧ (SqL K H p ys ∨ SqT K H p ys) ∧ Q ys := by
  obtain ⟨a, e, s⟩ := h
  exact ⟨a, _, by rw [e], .inr s, q _ (List.length_map _)⟩

/-! ### the pot -/
structure Pt where
  a : Addr
  g : Addr
  s : Addr
def Pt.At (p : Pt) (H : Hp) : Prop := p.g ≠ p.s ∧ ∃ (gs ss : List Int) (t n : Int), H p.a = some (.lst [.ref p.g, .ref p.s, .int t, .int n]) ∧ H p.g = some (.lst (gs.map V.int)) ∧ H p.s = some (.lst (ss.map V.int)) ∧ ss ≠ []
def Pt.l (p : Pt) : List Addr := [p.a, p.g]
theorem Pt.At.same {p : Pt} {H H' : Hp} (h : p.At H) (e : Same H H') : p.At H' := by
  obtain ⟨h1, gs, ss, t, n, h2, h3, h4, h5⟩ := h
  exact ⟨h1, gs, ss, t, n, e _ _ h2, e _ _ h3, e _ _ h4, h5⟩
/-- what the pot isn't may change too -/
theorem Pt.At.but {p : Pt} {H H' : Hp} {l : List Addr} (h : p.At H) (e : But l H H') (ha : p.a ∉ l) (hg : p.g ∉ l) (hs : p.s ∉ l) : p.At H' := by
  obtain ⟨h1, gs, ss, t, n, h2, h3, h4, h5⟩ := h
  exact ⟨h1, gs, ss, t, n, e _ _ ha h2, e _ _ hg h3, e _ _ hs h4, h5⟩
theorem Pt.At.keep {p : Pt} {H H' : Hp} (h : p.At H) (e : But p.l H H') : Keep H H' := fun b o i hb => by
  obtain ⟨h1, gs, ss, t, n, h2, h3, h4, h5⟩ := h
  refine e b o (fun z => ?_) hb
  have z' : b = p.a ∨ b = p.g := by simpa [Pt.l] using z
  rcases z' with z | z
  · rw [z, h2] at hb
    cases hb
    cases i
  · rw [z, h3] at hb
    cases hb
    cases i
/-- a new object isn't of the pot -/
theorem Pt.At.fresh {p : Pt} {H : Hp} (h : p.At H) {D : Addr} (n : H D = none) : D ≠ p.a ∧ D ≠ p.g ∧ D ≠ p.s := by
  obtain ⟨h1, gs, ss, t, n', h2, h3, h4, h5⟩ := h
  refine ⟨fun z => ?_, fun z => ?_, fun z => ?_⟩
  · rw [z, h2] at n; cases n
  · rw [z, h3] at n; cases n
  · rw [z, h4] at n; cases n
theorem Pt.out {p : Pt} {D : Addr} (h : D ≠ p.a ∧ D ≠ p.g ∧ D ≠ p.s) : D ∉ p.l := by
  simp [Pt.l]
  exact ⟨h.1, h.2.1⟩
def small (n : Int) : Prop := n.natAbs < 2 ^ 200
/-- a draw: some number below many, whatever the script -/
def spDraw : Sp := fun vs H Q _ => ∃ (p : Pt) (many : Int), vs = [.ref p.a, .int many] ∧ p.At H ∧ 0 < many ∧ small many ∧
  ∀ (r : Int) (H' : Hp), 0 ≤ r → r < many → p.At H' → But p.l H H' → Q (.int r) H'
/-- the pot of a script -/
def spPot (K : PySem.W.Frag) : Sp := fun vs H Q _ => ∃ (a : Addr) (ns : List Int), vs = [.ref a] ∧ SqL K H a (ns.map V.int) ∧ ns.length ≤ 63 ∧
  ∀ (p : Pt) (H' : Hp), p.At H' → Same H H' → H p.a = none → Q (.ref p.a) H'
/-! ### comprehensions from ints to ints -/
theorem lcI {K : PySem.W.Frag} {a D : Addr} {ns : List Int} {g : TG} {tt : L2.TT} {te : TE} {vs : List Nat} {σ : L2.St} {H1 : Hp} {Qd : Hp → Prop} (f : Int → Bool) (e : Int → Int)
    (hS : SqL K H1 a (ns.map V.int)) (hD : H1 D = none) (hl : ns.length < sizeLine)
    (hs : ∀ (n : Int) (H : Hp) (Q1 : Hp → Prop) (Q2 : V → Hp → Prop), n ∈ ns → (f n = true → Q2 (.int (e n)) H) → (f n = false → Q1 H) → g (.int n) (wipe σ vs) H fun σ2 H2 => wipe σ2 vs = wipe σ vs ∧ tt σ2 H2 fun b H3 => if b = true then te σ2 H3 Q2 else Q1 H3)
    (hd : Qd (upd H1 D (.lst (((ns.filter f).map e).map V.int)))) :
    ∃ W : Nat → Nat → Hp → Prop, (∃ m, W 0 m (upd H1 D (.lst []))) ∧ ∀ i m H, W i m H →
      ((Itl K a).stop i H ∧ Qd H) ∨ ((Itl K a).go i H ∧ ∃ Nx : Hp → Prop, (∀ H', Nx H' → ∃ m', m' < m ∧ W (i + 1) m' H') ∧ ∀ x H', (Itl K a).yld i H x H' → g x (wipe σ vs) H' fun σ2 H2 => wipe σ2 vs = wipe σ vs ∧ tt σ2 H2 fun b H3 =>
        if b = true then te σ2 H3 fun y H4 => ∃ acc, H4 D = some (.lst acc) ∧ acc.length < sizeLine ∧ Nx (upd H4 D (.lst (acc ++ [y]))) else Nx H3) := by
  have sub : ∀ (H : Hp) (l : List V), H = upd H1 D (.lst l) → SqL K H a (ns.map V.int) := fun H l q => by
    rw [q]
    exact Same.seq (Same.new hD) hS
  refine lc_list (K := K) (a := a) (xs := ns.map V.int) (fun i H => H = upd H1 D (.lst ((((ns.take i).filter f).map e).map V.int))) rfl (fun i H _ q => sub H _ q) ?_ (fun H q => ?_)
  · intro i x H hi q
    obtain ⟨n, hn, rfl⟩ : ∃ n, ns[i]? = some n ∧ x = V.int n := by
      rw [List.getElem?_map] at hi
      cases z : ns[i]? with
      | none => rw [z] at hi; cases hi
      | some n => rw [z] at hi; exact ⟨n, rfl, (Option.some.inj hi).symm⟩
    have tk := take_succ hn
    have len : (((ns.take i).filter f).map e).length < sizeLine := by
      rw [List.length_map]
      have q1 := List.length_filter_le f (ns.take i)
      have q2 := List.length_take_le i ns
      rw [List.length_take] at q1
      omega
    refine hs n H _ _ (List.mem_of_getElem? hn) (fun c => ⟨_, by rw [q]; exact upd_same, by rw [List.length_map]; exact len, ?_⟩) (fun c => ?_)
    · show upd H D _ = _
      rw [tk, q, upd_upd, List.filter_append, List.map_append, List.map_append]
      simp [c]
    · show H = _
      rw [tk, q, List.filter_append]
      simp [c]
  · rw [List.length_map, List.take_length] at q
    rw [q]
    exact hd
/-! ### events, machines, runs -/
def Four (e : List Int) : Prop := ∃ b a t p, e = [b, a, t, p]
def okEv (n : Int) (e : List Int) : Prop := ∃ b a t p, e = [b, a, t, p] ∧ 0 ≤ b ∧ b < n ∧ 0 ≤ a ∧ a < n ∧ 1 ≤ t ∧ t ≤ 40 ∧ -400 ≤ p ∧ p ≤ 400
theorem okEv.four {n : Int} {e : List Int} (h : okEv n e) : Four e := by
  obtain ⟨b, a, t, p, h, _⟩ := h
  exact ⟨b, a, t, p, h⟩
def evB (e : List Int) : Int := e.getD 0 0
def evA (e : List Int) : Int := e.getD 1 0
def evT (e : List Int) : Int := e.getD 2 0
def evP (e : List Int) : Int := e.getD 3 0
def mf (n : Int) (w : V) : List (Str × V) := putF "events" w (putF "standings" (.int n) [])
theorem es_ : ¬ (("events" : Str) = "standings") := by decide +kernel
theorem se_ : ¬ (("standings" : Str) = "events") := by decide +kernel
theorem mf_st (n : Int) (w : V) : (mf n w).lookup ("standings" : Str) = some (.int n) := by
  unfold mf
  rw [lookup_putF, if_neg se_, lookup_putF, if_pos rfl]
theorem mf_ev (n : Int) (w : V) : (mf n w).lookup ("events" : Str) = some w := by
  unfold mf
  rw [lookup_putF, if_pos rfl]
def MachAt (K : PySem.W.Frag) (C : Addr) (H : Hp) (v : V) (n : Int) (evs : List (List Int)) : Prop :=
  ∃ m dx w, v = .ref m ∧ H m = some (.ins C dx (mf n w)) ∧ ITs K H w evs
theorem MachAt.keep {C : Addr} {H H' : Hp} {v : V} {n : Int} {evs : List (List Int)} (e : Keep H H') (h : MachAt K C H v n evs) : MachAt K C H' v n evs := by
  obtain ⟨m, dx, w, h1, h2, h3⟩ := h
  exact ⟨m, dx, w, h1, e _ _ rfl h2, h3.keep e⟩
/-- machine.events, machine.standings -/
theorem fldE {C : Addr} {H : Hp} {x : V} {n : Int} {evs : List (List Int)} {Q : V → Prop} (h : MachAt K C H x n evs) (c : Cls K C) (na : NoAttr K C "events") (q : ∀ w, ITs K H w evs → Q w) :
    ∃ a C' dx fs v, x = .ref a ∧ H a = some (.ins C' dx fs) ∧ Cls K C' ∧ NoAttr K C' "events" ∧ fs.lookup ("events" : Str) = some v ∧ Q v := by
  obtain ⟨m, dx, w, h1, h2, h3⟩ := h
  exact ⟨m, C, dx, _, w, h1, h2, c, na, mf_ev n w, q w h3⟩
theorem fldS {C : Addr} {H : Hp} {x : V} {n : Int} {evs : List (List Int)} {Q : V → Prop} (h : MachAt K C H x n evs) (c : Cls K C) (na : NoAttr K C "standings") (q : Q (.int n)) :
    ∃ a C' dx fs v, x = .ref a ∧ H a = some (.ins C' dx fs) ∧ Cls K C' ∧ NoAttr K C' "standings" ∧ fs.lookup ("standings" : Str) = some v ∧ Q v := by
  obtain ⟨m, dx, w, h1, h2, h3⟩ := h
  exact ⟨m, C, dx, _, _, h1, h2, c, na, mf_st n w, q⟩
/-- where a row of events leads from a standing, if it is one -/
def walkTo (evs : List (List Int)) : Int → List Int → Option Int
  | s, [] => some s
  | s, k :: r => if 0 ≤ k ∧ k < (evs.length : Int) ∧ evB (evs.getD k.toNat []) = s then walkTo evs (evA (evs.getD k.toNat [])) r else none
theorem walkTo_app (evs : List (List Int)) : ∀ (r q : List Int) (s : Int), walkTo evs s (r ++ q) = (walkTo evs s r).bind fun t => walkTo evs t q
  | [], q, s => rfl
  | k :: r, q, s => by
    show (if _ then walkTo evs _ (r ++ q) else none) = (if _ then walkTo evs _ r else none).bind _
    split
    · exact walkTo_app evs r q _
    · rfl
/-! ### types -/
theorem tyT {H : Hp} {a : Addr} {xs : List V} (h : SqT K H a xs) : TyX K H (.ref a) (.type "tuple") := by
  rcases h with (h | ⟨o, h⟩) | ⟨o, its, n, h, c, _⟩
  · exact .base (.tup h)
  · exact .fTuple h
  · exact .kTuple h c
theorem isT {H : Hp} {x : V} {a : Addr} {xs : List V} {Q : Bool → Prop} (e : x = .ref a) (h : SqT K H a xs) (q : Q true) :
    ∃ (y c : V) (s u : Value) (b : Bool), [x, V.ty "tuple"] = [y, c] ∧ ClsV c u ∧ TyX K H y s ∧ PySem.W.kitOne K s u = some b ∧ Q b := ⟨x, .ty "tuple", .type "tuple", .type "tuple", true, rfl, .ty _, (by rw [e]; exact tyT h), kit_ty (by decide +kernel), q⟩
theorem isI {H : Hp} {n : Int} {Q : Bool → Prop} (q : Q true) : ∃ (y c : V) (s u : Value) (b : Bool), [V.int n, V.ty "int"] = [y, c] ∧ ClsV c u ∧ TyX K H y s ∧ PySem.W.kitOne K s u = some b ∧ Q b := ⟨_, _, _, _, true, rfl, .ty _, .base (.int _), kit_ty (by decide +kernel), q⟩
theorem niB {H : Hp} {n : Int} {Q : Bool → Prop} (q : Q false) : ∃ (y c : V) (s u : Value) (b : Bool), [V.int n, V.ty "bool"] = [y, c] ∧ ClsV c u ∧ TyX K H y s ∧ PySem.W.kitOne K s u = some b ∧ Q b := ⟨_, _, _, _, false, rfl, .ty _, .base (.int _), kit_ty (by decide +kernel), q⟩
theorem isLs {H : Hp} {x : V} {a : Addr} {xs : List V} {Q : Bool → Prop} (e : x = .ref a) (h : H a = some (.lst xs)) (q : Q true) :
    ∃ (y c : V) (s u : Value) (b : Bool), [x, V.ty "list"] = [y, c] ∧ ClsV c u ∧ TyX K H y s ∧ PySem.W.kitOne K s u = some b ∧ Q b := ⟨x, .ty "list", .type "list", .type "list", true, rfl, .ty _, (by rw [e]; exact .base (.lst h)), kit_ty (by decide +kernel), q⟩
/-- a comprehension over a tuple, without a test, each item's value told by a list -/
theorem lcGT {β : Type} {K : PySem.W.Frag} {a D : Addr} {xs : List V} {bs : List β} {R : Hp → V → β → Prop} {g : TG} {tt : L2.TT} {te : TE} {vs : List Nat} {σ : L2.St} {H1 : Hp} {Qd : Hp → Prop}
    (hS : SqT K H1 a xs) (hD : H1 D = none) (hl : bs.length < sizeLine) (el : xs.length = bs.length) (mono : ∀ H H' v b, Keep H H' → R H v b → R H' v b)
    (hs : ∀ (i : Nat) (x : V) (b : β) (H : Hp) (Q1 : Hp → Prop) (Q2 : V → Hp → Prop), xs[i]? = some x → bs[i]? = some b → Same H1 H → (∀ y H', Same H H' → R H' y b → Q2 y H') →
      g x (wipe σ vs) H fun σ2 H2 => wipe σ2 vs = wipe σ vs ∧ tt σ2 H2 fun b H3 => if b = true then te σ2 H3 Q2 else Q1 H3)
    (hd : ∀ H acc, Same H1 H → H D = some (.lst acc) → All2 (R H) acc bs → Qd H) :
    ∃ W : Nat → Nat → Hp → Prop, (∃ m, W 0 m (upd H1 D (.lst []))) ∧ ∀ i m H, W i m H →
      ((Itt K a).stop i H ∧ Qd H) ∨ ((Itt K a).go i H ∧ ∃ Nx : Hp → Prop, (∀ H', Nx H' → ∃ m', m' < m ∧ W (i + 1) m' H') ∧ ∀ x H', (Itt K a).yld i H x H' → g x (wipe σ vs) H' fun σ2 H2 => wipe σ2 vs = wipe σ vs ∧ tt σ2 H2 fun b H3 =>
        if b = true then te σ2 H3 fun y H4 => ∃ acc, H4 D = some (.lst acc) ∧ acc.length < sizeLine ∧ Nx (upd H4 D (.lst (acc ++ [y]))) else Nx H3) := by
  have chg : ∀ {H : Hp} {o : HO}, Same H1 H → Same H1 (upd H D o) := fun {H o} s b u e => by
    rw [upd_ne (ne_of_none e hD)]
    exact s _ _ e
  refine lc_tup (K := K) (a := a) (xs := xs) (fun i H => Same H1 H ∧ ∃ acc, H D = some (.lst acc) ∧ All2 (R H) acc (bs.take i)) ⟨chg (Same.refl _), [], upd_same, .nil⟩ (fun i H _ q => SqT.keep (Keep.of q.1) hS) ?_ (fun H q => ?_)
  · rintro i x H hi ⟨s1, acc, hA, al⟩
    have hb : i < bs.length := by rw [← el]; exact (List.getElem?_eq_some_iff.mp hi).1
    have tk := take_succ (List.getElem?_eq_getElem hb)
    have la := al.len
    rw [List.length_take] at la
    refine hs i x (bs[i]) H _ _ hi (List.getElem?_eq_getElem hb) s1 fun y H' s2 r => ⟨acc, s2 _ _ hA, by omega, chg (s1.trans s2), acc ++ [y], upd_same, ?_⟩
    rw [tk]
    have kp : Keep H' (upd H' D (.lst (acc ++ [y]))) := Keep.lst (s2 _ _ hA)
    exact (al.imp fun v b z => mono _ _ _ _ kp (mono _ _ _ _ (Keep.of s2) z)).snoc (mono _ _ _ _ kp r)
  · obtain ⟨s1, acc, hA, al⟩ := q
    rw [el, List.take_length] at al
    exact hd H acc s1 hA al
/-- a comprehension over a list, without a test, each item's value told by a list -/
theorem lcGL {β : Type} {K : PySem.W.Frag} {a D : Addr} {xs : List V} {bs : List β} {R : Hp → V → β → Prop} {g : TG} {tt : L2.TT} {te : TE} {vs : List Nat} {σ : L2.St} {H1 : Hp} {Qd : Hp → Prop}
    (hS : SqL K H1 a xs) (hD : H1 D = none) (hl : bs.length < sizeLine) (el : xs.length = bs.length) (mono : ∀ H H' v b, Keep H H' → R H v b → R H' v b)
    (hs : ∀ (i : Nat) (x : V) (b : β) (H : Hp) (Q1 : Hp → Prop) (Q2 : V → Hp → Prop), xs[i]? = some x → bs[i]? = some b → Same H1 H → (∀ y H', Same H H' → R H' y b → Q2 y H') →
      g x (wipe σ vs) H fun σ2 H2 => wipe σ2 vs = wipe σ vs ∧ tt σ2 H2 fun b H3 => if b = true then te σ2 H3 Q2 else Q1 H3)
    (hd : ∀ H acc, Same H1 H → H D = some (.lst acc) → All2 (R H) acc bs → Qd H) :
    ∃ W : Nat → Nat → Hp → Prop, (∃ m, W 0 m (upd H1 D (.lst []))) ∧ ∀ i m H, W i m H →
      ((Itl K a).stop i H ∧ Qd H) ∨ ((Itl K a).go i H ∧ ∃ Nx : Hp → Prop, (∀ H', Nx H' → ∃ m', m' < m ∧ W (i + 1) m' H') ∧ ∀ x H', (Itl K a).yld i H x H' → g x (wipe σ vs) H' fun σ2 H2 => wipe σ2 vs = wipe σ vs ∧ tt σ2 H2 fun b H3 =>
        if b = true then te σ2 H3 fun y H4 => ∃ acc, H4 D = some (.lst acc) ∧ acc.length < sizeLine ∧ Nx (upd H4 D (.lst (acc ++ [y]))) else Nx H3) := by
  have chg : ∀ {H : Hp} {o : HO}, Same H1 H → Same H1 (upd H D o) := fun {H o} s b u e => by
    rw [upd_ne (ne_of_none e hD)]
    exact s _ _ e
  refine lc_list (K := K) (a := a) (xs := xs) (fun i H => Same H1 H ∧ ∃ acc, H D = some (.lst acc) ∧ All2 (R H) acc (bs.take i)) ⟨chg (Same.refl _), [], upd_same, .nil⟩ (fun i H _ q => Same.seq q.1 hS) ?_ (fun H q => ?_)
  · rintro i x H hi ⟨s1, acc, hA, al⟩
    have hb : i < bs.length := by rw [← el]; exact (List.getElem?_eq_some_iff.mp hi).1
    have tk := take_succ (List.getElem?_eq_getElem hb)
    have la := al.len
    rw [List.length_take] at la
    refine hs i x (bs[i]) H _ _ hi (List.getElem?_eq_getElem hb) s1 fun y H' s2 r => ⟨acc, s2 _ _ hA, by omega, chg (s1.trans s2), acc ++ [y], upd_same, ?_⟩
    rw [tk]
    have kp : Keep H' (upd H' D (.lst (acc ++ [y]))) := Keep.lst (s2 _ _ hA)
    exact (al.imp fun v b z => mono _ _ _ _ kp (mono _ _ _ _ (Keep.of s2) z)).snoc (mono _ _ _ _ kp r)
  · obtain ⟨s1, acc, hA, al⟩ := q
    rw [el, List.take_length] at al
    exact hd H acc s1 hA al
/-- a comprehension over a range, without a test, each item's value told by a list -/
theorem lcGR {β : Type} {K : PySem.W.Frag} {D : Addr} {lo : Int} {bs : List β} {R : Hp → V → β → Prop} {g : TG} {tt : L2.TT} {te : TE} {vs : List Nat} {σ : L2.St} {H1 : Hp} {Qd : Hp → Prop}
    (hD : H1 D = none) (hl : bs.length < sizeLine) (mono : ∀ H H' v b, Keep H H' → R H v b → R H' v b)
    (hs : ∀ (i : Nat)  (b : β) (H : Hp) (Q1 : Hp → Prop) (Q2 : V → Hp → Prop), bs[i]? = some b → Same H1 H → (∀ y H', Same H H' → R H' y b → Q2 y H') →
      g (.int (lo + i)) (wipe σ vs) H fun σ2 H2 => wipe σ2 vs = wipe σ vs ∧ tt σ2 H2 fun b H3 => if b = true then te σ2 H3 Q2 else Q1 H3)
    (hd : ∀ H acc, Same H1 H → H D = some (.lst acc) → All2 (R H) acc bs → Qd H) :
    ∃ W : Nat → Nat → Hp → Prop, (∃ m, W 0 m (upd H1 D (.lst []))) ∧ ∀ i m H, W i m H →
      ((Itr lo bs.length).stop i H ∧ Qd H) ∨ ((Itr lo bs.length).go i H ∧ ∃ Nx : Hp → Prop, (∀ H', Nx H' → ∃ m', m' < m ∧ W (i + 1) m' H') ∧ ∀ x H', (Itr lo bs.length).yld i H x H' → g x (wipe σ vs) H' fun σ2 H2 => wipe σ2 vs = wipe σ vs ∧ tt σ2 H2 fun b H3 =>
        if b = true then te σ2 H3 fun y H4 => ∃ acc, H4 D = some (.lst acc) ∧ acc.length < sizeLine ∧ Nx (upd H4 D (.lst (acc ++ [y]))) else Nx H3) := by
  have chg : ∀ {H : Hp} {o : HO}, Same H1 H → Same H1 (upd H D o) := fun {H o} s b u e => by
    rw [upd_ne (ne_of_none e hD)]
    exact s _ _ e
  refine lc_range (fun i H => Same H1 H ∧ ∃ acc, H D = some (.lst acc) ∧ All2 (R H) acc (bs.take i)) ⟨chg (Same.refl _), [], upd_same, .nil⟩ ?_ (fun H q => ?_)
  · rintro i H hi ⟨s1, acc, hA, al⟩
    have hb : i < bs.length := by exact hi
    have tk := take_succ (List.getElem?_eq_getElem hb)
    have la := al.len
    rw [List.length_take] at la
    refine hs i  (bs[i]) H _ _ (List.getElem?_eq_getElem hb) s1 fun y H' s2 r => ⟨acc, s2 _ _ hA, by omega, chg (s1.trans s2), acc ++ [y], upd_same, ?_⟩
    rw [tk]
    have kp : Keep H' (upd H' D (.lst (acc ++ [y]))) := Keep.lst (s2 _ _ hA)
    exact (al.imp fun v b z => mono _ _ _ _ kp (mono _ _ _ _ (Keep.of s2) z)).snoc (mono _ _ _ _ kp r)
  · obtain ⟨s1, acc, hA, al⟩ := q
    rw [List.take_length] at al
    exact hd H acc s1 hA al
theorem all2_int {as : List V} {ns : List Int} (h : All2 (fun v n => v = .int n) as ns) : as = ns.map V.int := by
  induction h with
  | nil => rfl
  | cons e _ ih => rw [e, ih]; rfl
/-- a comprehension over a range, from places to ints, with a test -/
theorem lcFR {D : Addr} {lo : Int} {n : Nat} {g : TG} {tt : L2.TT} {te : TE} {vs : List Nat} {σ : L2.St} {H1 : Hp} {Qd : Hp → Prop} (f : Nat → Bool) (e : Nat → Int) (hD : H1 D = none) (hl : n < sizeLine)
    (hs : ∀ (i : Nat) (H : Hp) (Q1 : Hp → Prop) (Q2 : V → Hp → Prop), i < n → Same H1 H → (f i = true → Q2 (.int (e i)) H) → (f i = false → Q1 H) →
      g (.int (lo + i)) (wipe σ vs) H fun σ2 H2 => wipe σ2 vs = wipe σ vs ∧ tt σ2 H2 fun b H3 => if b = true then te σ2 H3 Q2 else Q1 H3)
    (hd : Qd (upd H1 D (.lst ((((List.range n).filter f).map e).map V.int)))) :
    ∃ W : Nat → Nat → Hp → Prop, (∃ m, W 0 m (upd H1 D (.lst []))) ∧ ∀ i m H, W i m H →
      ((Itr lo n).stop i H ∧ Qd H) ∨ ((Itr lo n).go i H ∧ ∃ Nx : Hp → Prop, (∀ H', Nx H' → ∃ m', m' < m ∧ W (i + 1) m' H') ∧ ∀ x H', (Itr lo n).yld i H x H' → g x (wipe σ vs) H' fun σ2 H2 => wipe σ2 vs = wipe σ vs ∧ tt σ2 H2 fun b H3 =>
        if b = true then te σ2 H3 fun y H4 => ∃ acc, H4 D = some (.lst acc) ∧ acc.length < sizeLine ∧ Nx (upd H4 D (.lst (acc ++ [y]))) else Nx H3) := by
  refine lc_range (fun i H => H = upd H1 D (.lst ((((List.range i).filter f).map e).map V.int))) rfl ?_ (fun H q => by rw [q]; exact hd)
  intro i H hi q
  have len : (((List.range i).filter f).map e).length < sizeLine := by
    rw [List.length_map]
    have q1 := List.length_filter_le f (List.range i)
    rw [List.length_range] at q1
    omega
  refine hs i H _ _ hi (by rw [q]; exact Same.new hD) (fun c => ⟨_, by rw [q]; exact upd_same, by rw [List.length_map]; exact len, ?_⟩) (fun c => ?_)
  · show upd H D _ = _
    rw [List.range_succ, q, upd_upd, List.filter_append, List.map_append, List.map_append]
    simp [c]
  · show H = _
    rw [List.range_succ, q, List.filter_append]
    simp [c]
/-! ### rules whose readings name K itself (in a comprehension X is the block's) -/
section
variable {X : Cx} (K' : PySem.W.Frag) (hK : X.K = K')
include hK
theorem ix_tupK : IxR X (rIxT K') := by subst hK; exact ix_tup
theorem ix_listK : IxR X (rIxL K') := by subst hK; exact ix_list
theorem ix_seqK : IxR X (rIx K') := by subst hK; exact ix_seq
theorem sl_listK : SlR X (rSlL K') := by subst hK; exact sl_list
theorem sl_tupK : SlR X (rSlA K') := by subst hK; exact sl_tupA
theorem op_inK : OpR X (compareOp .In) (rIn K' false) := by subst hK; exact op_in_seq
theorem op_notInK : OpR X (compareOp .NotIn) (rIn K' true) := by subst hK; exact op_notIn_seq
theorem op_catTK : OpR X (binaryOp .Add) (rCatA K') := by subst hK; exact op_catA
theorem op_repTK : OpR X (binaryOp .Mult) (rRepT K') := by subst hK; exact op_repT
theorem op_eqDK (hu : X.A.units + 64 < cLine) : OpR X (compareOp .Eq) (rEqD K') := by subst hK; exact op_eqD hu
theorem op_neDK (hu : X.A.units + 64 < cLine) : OpR X (compareOp .NotEq) (rNeD K') := by subst hK; exact op_neD hu
def rLn (K' : PySem.W.Frag) : List V → Hp → VK → Prop := fun xs H Q => ∃ p ys, xs = [.ref p] ∧ (SqL K' H p ys ∨ SqT K' H p ys) ∧ Q (.int ys.length) H
theorem call_lenK : CallR X (.builtin "len") (rLn K') := by subst hK; exact call_len_seq
def rLi (K' : PySem.W.Frag) : List V → Hp → VK → Prop := fun xs H Q => ∃ p ys, xs = [.ref p] ∧ (SqL K' H p ys ∨ SqT K' H p ys) ∧ ∀ l, H l = none → Q (.ref l) (upd H l (.lst ys))
theorem call_listK : CallR X (.type "list") (rLi K') := by subst hK; exact call_list_of
def rTu (K' : PySem.W.Frag) : List V → Hp → VK → Prop := fun xs H Q => ∃ p ys, xs = [.ref p] ∧ ((SqL K' H p ys ∧ ∀ l, H l = none → Q (.ref l) (upd H l (.tup ys))) ∨ (SqT K' H p ys ∧ Q (.ref p) H))
theorem call_tupleK : CallR X (.type "tuple") (rTu K') := by subst hK; exact call_tuple_of
theorem call_isK : CallR X (.builtin "isinstance") (rIsi K') := by subst hK; exact call_isi
theorem cr_sumK (hc : X.calm = true) : CallR X (.builtin "sum") (rSum K') := by subst hK; exact cr_sum hc
theorem cr_anyK (hc : X.calm = true) : CallR X (.builtin "any") (rAny K') := by subst hK; exact cr_any hc
theorem cr_allK (hc : X.calm = true) : CallR X (.builtin "all") (rAll K') := by subst hK; exact cr_all hc
theorem cr_sortedK : CallR X (.builtin "sorted") (rSorted K') := by subst hK; exact cr_sorted
theorem pe_fldK {e : Expr} {f : Str} {pos : Pos} {ta : TE} (he : PE X e ta) (hb : attributeBase e f X.env (eval e X.env) = eval e X.env) : PE X (.Attribute e f pos) (tFld K' ta f) := by subst hK; exact pe_fld he hb
theorem pg_tupK {es : List Expr} {k : Nat} {pos : Pos} {t : TGs} (n : Nat) (hc : X.calm = true) (h : PGs X es t) (hn : (assignEach es X.env).length = n) (hst : (assignEach es X.env).findIdx? (·.1) = none) : PG X (.Tuple es k pos) (gTup K' n t) := by subst hK; exact pg_tup hc h hn hst
end
end My

/-! what steps by themselves want: frames from behind, tests, draws -/
namespace My
open PySem L2
theorem Keep.back {H0 H1 H2 : Hp} (b : Keep H1 H2) (a : Keep H0 H1) : Keep H0 H2 := a.trans b
theorem Same.back {H0 H1 H2 : Hp} (b : Same H1 H2) (a : Same H0 H1) : Same H0 H2 := a.trans b
theorem But.back {l : List Addr} {H0 H1 H2 : Hp} (b : But l H1 H2) (a : But l H0 H1) : But l H0 H2 := a.trans b
theorem Pt.At.back {p : Pt} {H H' : Hp} (e : Same H H') (h : p.At H) : p.At H' := h.same e
theorem iteD {c A B : Prop} [Decidable c] (h1 : c → A) (h2 : ¬ c → B) : if decide c = true then A else B := by
  by_cases h : c
  · rw [decide_eq_true h, if_pos rfl]; exact h1 h
  · rw [decide_eq_false h, if_neg (by decide)]; exact h2 h
theorem iteI {x y : Int} {A B : Prop} (h1 : x = y → A) (h2 : x ≠ y → B) : if decide (V.int x = V.int y) = true then A else B :=
  iteD (fun h => h1 (V.int.inj h)) fun h => h2 fun z => h (congrArg V.int z)
/-- != -/
theorem iteNI {x y : Int} {A B : Prop} (h1 : x ≠ y → A) (h2 : x = y → B) : if (!decide (V.int x = V.int y)) = true then A else B := by
  by_cases h : x = y
  · rw [h, decide_eq_true rfl]; exact iteF (h2 h)
  · rw [decide_eq_false (fun z => h (V.int.inj z))]; exact iteT (h1 h)
theorem IT.new1 {K : PySem.W.Frag} {H : Hp} {p : Addr} {a : Int} : IT K (upd H p (.tup [.int a])) (.ref p) [a] := IT.new rfl
theorem IT.new2 {K : PySem.W.Frag} {H : Hp} {p : Addr} {a b : Int} : IT K (upd H p (.tup [.int a, .int b])) (.ref p) [a, b] := IT.new rfl
theorem IT.new3 {K : PySem.W.Frag} {H : Hp} {p : Addr} {a b c : Int} : IT K (upd H p (.tup [.int a, .int b, .int c])) (.ref p) [a, b, c] := IT.new rfl
theorem IT.new4 {K : PySem.W.Frag} {H : Hp} {p : Addr} {a b c d : Int} : IT K (upd H p (.tup [.int a, .int b, .int c, .int d])) (.ref p) [a, b, c, d] := IT.new rfl
theorem IT.sq {K : PySem.W.Frag} {H : Hp} {p : Addr} {ns : List Int} (h : IT K H (.ref p) ns) : SqT K H p (ns.map V.int) := by
  obtain ⟨q, e, s⟩ := h
  cases e
  exact s
theorem use_draw {p : Pt} {many : Int} {H : Hp} {Q : VK} {E : XK} (hp : p.At H) (hm : 0 < many) (hs : small many)
    (k : ∀ (r : Int) (H' : Hp), 0 ≤ r → r < many → p.At H' → But p.l H H' → Keep H H' → Q (.int r) H') : spDraw [.ref p.a, .int many] H Q E :=
  ⟨p, many, rfl, hp, hm, hs, fun r H' r0 r1 hp' b => k r H' r0 r1 hp' b (hp.keep b)⟩
theorem iteST {a b : Str} {A B : Prop} (h : a = b) (k : A) : if decide (V.str a = V.str b) = true then A else B := by
  rw [decide_eq_true (congrArg V.str h), if_pos rfl]; exact k
theorem iteSF {a b : Str} {A B : Prop} (h : ¬ (a = b)) (k : B) : if decide (V.str a = V.str b) = true then A else B := by
  rw [decide_eq_false (fun z => h (V.str.inj z)), if_neg (by decide)]; exact k
theorem divp_small {i j : Int} (hj : 0 < j) (h : i.natAbs < 2 ^ 1000) : CDivP i j := by
  refine divp_ok hj ?_
  have b : Builtin.Int.intBits i ≤ i.natAbs.log2 + 1 := by
    unfold Builtin.Int.intBits
    split <;> omega
  have := PySem.Flt.log2_lt_of (by decide : 0 < 1000) h
  omega
theorem CMul.l {i j : Int} (h0 : -(2 ^ 64) < i) (h1 : i < 2 ^ 64) : CMul i j := .inl ⟨h0, h1⟩
theorem CMul.r {i j : Int} (h0 : -(2 ^ 64) < j) (h1 : j < 2 ^ 64) : CMul i j := .inr ⟨h0, h1⟩
theorem CMulW.of {i j : Int} (hi : i.natAbs < 2 ^ 400) (hj : j.natAbs < 2 ^ 400) : CMulW i j := wide_mul hi hj (by decide) (by decide) (by decide)
theorem bl_true {Q : VK} {H : Hp} {c : Prop} [Decidable c] (q : Q (.bl true) H) (h : c) : Q (.bl (decide c)) H := by
  rw [decide_eq_true h]; exact q
theorem bl_false {Q : VK} {H : Hp} {c : Prop} [Decidable c] (q : Q (.bl false) H) (h : ¬ c) : Q (.bl (decide c)) H := by
  rw [decide_eq_false h]; exact q
theorem tC_i {v : V} {σ : L2.St} {H : Hp} {Q : VK} (q : Q v H) : tC v σ H Q := q
theorem tNil_i {σ : L2.St} {H : Hp} {Q : List V → Hp → Prop} (q : Q [] H) : tNil σ H Q := q
theorem tCons_i {ta : TE} {t : TA} {σ : L2.St} {H : Hp} {Q : List V → Hp → Prop} (q : ta σ H fun x H1 => t σ H1 fun xs H2 => Q (x :: xs) H2) : tCons ta t σ H Q := q
theorem tCall_i {sp : Sp} {dvs : List V} {E : XK} {t : TA} {σ : L2.St} {H : Hp} {Q : VK} (q : t σ H fun vs H1 => sp (vs ++ dvs) H1 Q E) : tCall sp dvs E t σ H Q := q
theorem tOp_i {r : R2} {ta tb : TE} {σ : L2.St} {H : Hp} {Q : VK} (q : ta σ H fun x H1 => tb σ H1 fun y H2 => r x y H2 Q) : tOp r ta tb σ H Q := q
theorem tVar_i {i : Nat} {v : V} {σ : L2.St} {H : Hp} {Q : VK} (e : σ[i]? = some (some v)) (q : Q v H) : tVar i σ H Q := ⟨v, e, q⟩
theorem iteNEq {x y : Int} {A B : Prop} (h : x = y) (k : B) : if (!decide (V.int x = V.int y)) = true then A else B := iteNI (fun c => absurd h c) fun _ => k
theorem iteFb {c : Bool} {A B : Prop} (h : c = false) (k : B) : if c = true then A else B := by rw [h]; exact iteF k
theorem iteTb {c : Bool} {A B : Prop} (h : c = true) (k : A) : if c = true then A else B := by rw [h]; exact iteT k
theorem IT.flip {K : PySem.W.Frag} {H H' : Hp} {v : V} {ns : List Int} (h : IT K H v ns) (e : Keep H H') : IT K H' v ns := h.keep e
theorem ITs.flip {K : PySem.W.Frag} {H H' : Hp} {v : V} {ns : List (List Int)} (h : ITs K H v ns) (e : Keep H H') : ITs K H' v ns := h.keep e
theorem SqT.flip {K : PySem.W.Frag} {H H' : Hp} {a : Addr} {xs : List V} (h : SqT K H a xs) (e : Keep H H') : SqT K H' a xs := SqT.keep e h
theorem SqL.flip {K : PySem.W.Frag} {H H' : Hp} {a : Addr} {xs : List V} (h : SqL K H a xs) (e : Same H H') : SqL K H' a xs := Same.seq e h
theorem At.flip {H H' : Hp} {a : Addr} {o : HO} (h : H a = some o) (e : Same H H') : H' a = some o := e _ _ h
theorem CDivW.of {i j : Int} (h : 0 < j) (hj : j.natAbs < 2 ^ 400) : CDivW i j := wide_div h hj (by decide) (by decide)
section
variable {K : PySem.W.Frag}
def Parts (K : PySem.W.Frag) (H : Hp) (v : V) (n : Int) (evs : List (List Int)) : Prop := ∃ q w, v = .ref q ∧ SqT K H q [.int n, w] ∧ ITs K H w evs
theorem Parts.keep {H H' : Hp} {v : V} {n : Int} {evs : List (List Int)} (e : Keep H H') (h : Parts K H v n evs) : Parts K H' v n evs := by
  obtain ⟨q, w, h1, h2, h3⟩ := h
  exact ⟨q, w, h1, SqT.keep e h2, h3.keep e⟩
theorem ixP1 {H : Hp} {x : V} {n : Int} {evs : List (List Int)} {Q : V → Prop} (h : Parts K H x n evs) (q : ∀ w, ITs K H w evs → Q w) :
    ∃ p xs j v, x = .ref p ∧ (V.int 1) = .int j ∧ SqT K H p xs ∧ atI xs j = some v ∧ Q v := by
  obtain ⟨a, w, e, s, t⟩ := h
  exact ⟨a, _, 1, w, e, rfl, s, rfl, q w t⟩
theorem ixP0 {H : Hp} {x : V} {n : Int} {evs : List (List Int)} {Q : V → Prop} (h : Parts K H x n evs) (q : Q (.int n)) :
    ∃ p xs j v, x = .ref p ∧ (V.int 0) = .int j ∧ SqT K H p xs ∧ atI xs j = some v ∧ Q v := by
  obtain ⟨a, w, e, s, t⟩ := h
  exact ⟨a, _, 0, _, e, rfl, s, rfl, q⟩
def LTs (K : PySem.W.Frag) (H : Hp) (D : Addr) (nss : List (List Int)) : Prop := ∃ xs, H D = some (.lst xs) ∧ All2 (IT K H) xs nss
theorem LTs.but {H H' : Hp} {l : List Addr} {D : Addr} {nss : List (List Int)} (h : LTs K H D nss) (b : But l H H') (k : Keep H H') (n : D ∉ l) : LTs K H' D nss := by
  obtain ⟨xs, h1, h2⟩ := h
  exact ⟨xs, b _ _ n h1, h2.imp fun _ _ z => z.keep k⟩
end
theorem Keep.ofBut {p : Pt} {H H' : Hp} (b : But p.l H H') (h : p.At H) : Keep H H' := h.keep b
theorem Parts.flip {K : PySem.W.Frag} {H H' : Hp} {v : V} {n : Int} {evs : List (List Int)} (h : Parts K H v n evs) (e : Keep H H') : Parts K H' v n evs := h.keep e
theorem MachAt.flip {K : PySem.W.Frag} {C : Addr} {H H' : Hp} {v : V} {n : Int} {evs : List (List Int)} (h : MachAt K C H v n evs) (e : Keep H H') : MachAt K C H' v n evs := h.keep e
theorem LTs.flip {K : PySem.W.Frag} {H H' : Hp} {D : Addr} {nss : List (List Int)} (h : LTs K H D nss) (s : Same H H') : LTs K H' D nss := h.but (But.of (l := []) s) (Keep.of s) (by simp)
theorem mapI {ns : List Int} {i : Nat} {y : V} (h : (ns.map V.int)[i]? = some y) : ∃ n, ns[i]? = some n ∧ y = .int n := by
  rw [List.getElem?_map] at h
  cases z : ns[i]? with
  | none => rw [z] at h; cases h
  | some n => rw [z] at h; exact ⟨n, rfl, (Option.some.inj h).symm⟩
theorem Parts.open {K : PySem.W.Frag} {H : Hp} {v : V} {n : Int} {evs : List (List Int)} (h : Parts K H v n evs) : ∃ q w xs, v = .ref q ∧ SqT K H q [.int n, .ref w] ∧ SqT K H w xs ∧ All2 (IT K H) xs evs := by
  obtain ⟨q, w, rfl, h1, a, xs, rfl, h2, al⟩ := h
  exact ⟨q, a, xs, rfl, h1, h2, al⟩
theorem MachAt.open {K : PySem.W.Frag} {C : Addr} {H : Hp} {v : V} {n : Int} {evs : List (List Int)} (h : MachAt K C H v n evs) : ∃ m dx w xs, v = .ref m ∧ H m = some (.ins C dx (mf n (.ref w))) ∧ SqT K H w xs ∧ All2 (IT K H) xs evs := by
  obtain ⟨m, dx, w, rfl, h1, a, xs, rfl, h2, al⟩ := h
  exact ⟨m, dx, a, xs, rfl, h1, h2, al⟩
theorem evAt {K : PySem.W.Frag} {H : Hp} {xs : List V} {evs : List (List Int)} {k : Int} {e : List Int} (al : All2 (IT K H) xs evs) (h0 : 0 ≤ k) (h : evs[k.toNat]? = some e) : ∃ z, atI xs k = some (.ref z) ∧ IT K H (.ref z) e := by
  obtain ⟨v, hv, hI⟩ := al.get h
  obtain ⟨z, rfl, _⟩ := id hI
  exact ⟨z, at_ge h0 hv, hI⟩
theorem iteNb {c : Bool} {A B : Prop} (h : c = true) (k : B) : if (!c) = true then A else B := by rw [h]; exact iteF k
theorem cut1 (xs : List V) : cutV xs (some 1) none = xs.drop 1 := by
  unfold cutV
  have e : HT.sIx xs.length 0 (some 1) = min 1 xs.length := by
    show (if (1 : Int) < 0 then ((1 : Int) + (xs.length : Int)).toNat else min (1 : Int).toNat xs.length) = _
    exact if_neg (by decide)
  rw [e, HT.sIx_none, List.take_of_length_le (by rw [List.length_drop]; exact Nat.le_refl _)]
  cases xs with
  | nil => rfl
  | cons x l => rw [Nat.min_eq_left (by simp)]
theorem All2.drop {α β : Type} {R : α → β → Prop} {as : List α} {bs : List β} (h : All2 R as bs) (n : Nat) : All2 R (as.drop n) (bs.drop n) := by
  induction h generalizing n with
  | nil => simp; exact .nil
  | cons r t ih =>
    cases n with
    | zero => exact .cons r t
    | succ n => simpa using ih n
def gcdI (a b : Int) : Int := ((Nat.gcd a.natAbs b.natAbs : Nat) : Int)
def sumT (evs : List (List Int)) (run : List Int) : Int := (run.map fun k => evT (evs.getD k.toNat [])).sum
def sumP (evs : List (List Int)) (run : List Int) : Int := (run.map fun k => evP (evs.getD k.toNat [])).sum
def InEv (evs : List (List Int)) (run : List Int) : Prop := ∀ k ∈ run, 0 ≤ k ∧ k < (evs.length : Int)
structure RunIs (K : PySem.W.Frag) (H : Hp) (v : V) (evs : List (List Int)) (run : List Int) : Prop where
  at_ : IT K H v run
  wk : (walkTo evs 0 run).isSome = true
  inn : InEv evs run
  len : run.length ≤ 1000
theorem RunIs.keep {K : PySem.W.Frag} {H H' : Hp} {v : V} {evs : List (List Int)} {run : List Int} (h : RunIs K H v evs run) (e : Keep H H') : RunIs K H' v evs run := ⟨h.at_.keep e, h.wk, h.inn, h.len⟩
structure ShIs (K : PySem.W.Frag) (H : Hp) (v : V) (a b : Int) : Prop where
  at_ : IT K H v [a, b]
  pos : 1 ≤ b
  low : gcdI a b = 1
theorem ShIs.keep {K : PySem.W.Frag} {H H' : Hp} {v : V} {a b : Int} (h : ShIs K H v a b) (e : Keep H H') : ShIs K H' v a b := ⟨h.at_.keep e, h.pos, h.low⟩
theorem RunIs.flip {K : PySem.W.Frag} {H H' : Hp} {v : V} {evs : List (List Int)} {run : List Int} (h : RunIs K H v evs run) (e : Keep H H') : RunIs K H' v evs run := h.keep e
theorem ShIs.flip {K : PySem.W.Frag} {H H' : Hp} {v : V} {a b : Int} (h : ShIs K H v a b) (e : Keep H H') : ShIs K H' v a b := h.keep e
theorem InEv.take {evs : List (List Int)} {run : List Int} (h : InEv evs run) (n : Nat) : InEv evs (run.take n) := fun k hk => h k (List.mem_of_mem_take hk)
theorem inV_ints (x : Int) : ∀ ns : List Int, inV (.int x) (ns.map V.int) = decide (x ∈ ns)
  | [] => by simp [inV]
  | n :: ns => by
    have ih := inV_ints x ns
    unfold inV at ih ⊢
    rw [List.map_cons, List.any_cons, ih]
    show ((n == x) || decide (x ∈ ns)) = decide (x ∈ n :: ns)
    by_cases c : x = n
    · subst c; simp
    · have c' : ¬ n = x := fun z => c z.symm
      simp [c, c']
theorem flat_ints : ∀ ns : List Int, (ns.map V.int).all flatV = true
  | [] => rfl
  | n :: ns => by rw [List.map_cons, List.all_cons, flat_ints ns]; rfl
theorem Free.flip {H H' : Hp} {p : Addr} (h : H' p = none) (s : Same H H') : H p = none := Same.free s h
theorem Pt.At.flip {p : Pt} {H H' : Hp} (h : p.At H) (e : Same H H') : p.At H' := h.same e
theorem iteCB {c : Bool} {A B : Prop} (h1 : c = true → A) (h2 : c = false → B) : if c = true then A else B := by
  cases h : c
  · exact iteF (h2 h)
  · exact iteT (h1 h)
theorem slTo {K : PySem.W.Frag} {q : Addr} {run : List Int} {i : Nat} {z : Int} {H : Hp} {P : Addr → Hp → Prop} (ez : z = (i : Int)) (h : SqT K H q (run.map V.int)) (k : ∀ v H', Same H H' → IT K H' (.ref v) (run.take i) → P v H') :
    ∃ a xs, V.ref q = .ref a ∧ SqT K H a xs ∧ (HT.sIx xs.length 0 none = 0 ∧ HT.sIx xs.length xs.length (some z) = xs.length → P a H) ∧
      (¬ (HT.sIx xs.length 0 none = 0 ∧ HT.sIx xs.length xs.length (some z) = xs.length) → ∀ p, H p = none → P p (upd H p (.tup (cutV xs none (some z))))) := by
  subst ez
  have cut : cutV (run.map V.int) none (some (i : Int)) = (run.take i).map V.int := by
    unfold cutV
    rw [HT.sIx_none, HT.sIx_nat, List.drop_zero, Nat.sub_zero, List.map_take, List.length_map]
    by_cases c : i ≤ run.length
    · rw [Nat.min_eq_left c]
    · rw [Nat.min_eq_right (by omega), List.take_of_length_le (by rw [List.length_map]; exact Nat.le_refl _), List.take_of_length_le (by rw [List.length_map]; omega)]
  refine ⟨q, _, rfl, h, fun e => ?_, fun _ p hp => ?_⟩
  · rw [HT.sIx_nat, List.length_map] at e
    have le : run.length ≤ i := by omega
    refine k q H (Same.refl H) ⟨q, rfl, ?_⟩
    rw [List.take_of_length_le le]
    exact h
  · rw [cut]
    exact k p _ (Same.new hp) (IT.new rfl)
theorem slQ {K : PySem.W.Frag} {q : Addr} {run : List Int} {i : Nat} {z : Int} {H : Hp} {Q : VK} (ez : z = (i : Int)) (h : SqT K H q (run.map V.int)) (k : ∀ v H', Same H H' → IT K H' (.ref v) (run.take i) → Q (.ref v) H') :
    rSlA K (.ref q) none (some z) H Q := slTo (P := fun v H' => Q (.ref v) H') ez h k
theorem slTake {K : PySem.W.Frag} {q : Addr} {run : List Int} {z : Int} {H : Hp} {Q : VK} (h : IT K H (.ref q) run) (h0 : 0 ≤ z) (k : ∀ v H', Same H H' → IT K H' (.ref v) (run.take z.toNat) → Q (.ref v) H') : rSlA K (.ref q) none (some z) H Q :=
  slQ (i := z.toNat) (by omega) (IT.sq h) k
theorem RunIs.take {K : PySem.W.Frag} {H H' : Hp} {v w : V} {evs : List (List Int)} {run : List Int} (h : RunIs K H v evs run) (n : Nat) (g : IT K H' w (run.take n)) : RunIs K H' w evs (run.take n) := by
  refine ⟨g, ?_, h.inn.take n, by rw [List.length_take]; have := h.len; omega⟩
  have z : walkTo evs 0 run = walkTo evs 0 (run.take n ++ run.drop n) := by rw [List.take_append_drop]
  have w := h.wk
  rw [z, walkTo_app] at w
  cases e : walkTo evs 0 (run.take n) with
  | none => rw [e] at w; cases w
  | some t => rfl
theorem iteTC {c : Bool} {v1 v2 : V} {σ : L2.St} {H : Hp} {Q : VK} (k : ∀ v, (v = v1 ∨ v = v2) → Q v H) : if c = true then tC v1 σ H Q else tC v2 σ H Q := by
  cases c
  · exact iteF (k _ (.inr rfl))
  · exact iteT (k _ (.inl rfl))
/-- what steps don't open -/
structure Wr (P : Prop) : Prop where
  out : P
theorem catJ {K : PySem.W.Frag} {a b : Addr} {xs ys : List V} {H : Hp} {Q : VK} (ha : SqT K H a xs) (hb : SqT K H b ys) (hl : xs.length + ys.length ≤ sizeLine) (k : ∀ (c : Addr) (H' : Hp), Same H H' → SqT K H' c (xs ++ ys) → Q (.ref c) H') : rCatA K (.ref a) (.ref b) H Q :=
  ⟨a, b, xs, ys, rfl, rfl, ha, hb, hl, fun e => k b H (Same.refl H) (by rw [e]; exact hb), fun _ e => k a H (Same.refl H) (by rw [e, List.append_nil]; exact ha), fun _ _ p hp => k p _ (Same.new hp) (SqT.lt upd_same)⟩
theorem LTs.same {K : PySem.W.Frag} {H H' : Hp} {D : Addr} {nss : List (List Int)} (h : LTs K H D nss) (s : Same H H') : LTs K H' D nss := h.flip s
theorem LTs.dp0 {K : PySem.W.Frag} {H : Hp} {D : Addr} {nss : List (List Int)} (h : LTs K H D nss) : ∃ xs, H D = some (.lst xs) ∧ All2 (IT K H) xs nss := h
end My

/-! != of two instances of a class with its own __eq__ and object's __ne__ (of mine) -/
namespace NeK
open PySem PySem.W
section
variable {prog : Program} {w : World} {A : Around} {E : Value → Shared → Prop} {s : Shared} {K : Frag} {x C f : Addr} {h₀ : Heap} {ox : Obj} {od : Option Obj} {b : Value}
/-- the builtin itself -/
theorem objNe {Q : Fin → Shared → Prop} (X : K.In s.heap) (I : InstAt s.heap x ox C od) (he : findIn K (.ref C) "__eq__" = some (some (.ref f))) (hf : isFn K (.ref f) = true) (hu : A.units < cLine)
    (h : wpAny (model prog w) A (call (.ref f) [.ref x, b]) (fun v s' => ∃ r, v = .bool r ∧ Q (.done (.ret (.bool (!r)))) s') E s) :
    wpAny (model prog w) A (Builtin.«object.__ne__» ⟨[.ref x, b], []⟩) Q E s := by
  obtain ⟨hp, g, d, t, os⟩ := s
  unfold Builtin.«object.__ne__»
  repeat (first
    | with_reducible refine wpAny_cRoomFor hu ?_
    | (refine wpAny_bind (m := callSpecialIfBound? (.ref x) (Str.ofString "__eq__") [b])
        (ifBound_K X I he hf (wpAny_mono h (fun r s' hr => by
          obtain ⟨b, rfl, hq⟩ := hr
          repeat (first | exact hq | exact wpAny_pure hq | exact wpAny_truthy_bool hq | (refine wpAny_bind (m := truthy (.bool _)) (wpAny_truthy_bool ?_)) | wp_step)) fun _ _ e => e)))
    | wp_step)
theorem tryNe {Q : Option Value → Shared → Prop} (X : K.In s.heap) (I : InstAt s.heap x ox C od) (hn : findIn K (.ref C) "__ne__" = some (some (.builtin "object.__ne__"))) (he : findIn K (.ref C) "__eq__" = some (some (.ref f))) (hf : isFn K (.ref f) = true)
    (hm : mroIn K C (.type "object") = some true) (hu : A.units + 1 < cLine)
    (h : wpAny (model prog w) A.in1 (call (.ref f) [.ref x, b]) (fun v s' => ∃ r, v = .bool r ∧ Q (some (.bool (!r))) s') E s) :
    wpAny (model prog w) A (tryCompare (.ref x) "__ne__" b) Q E s := by
  have FB := PySem.F.cmp_object
  have sub : Looks (model prog w) s.heap (isInstance (.ref x) (.type "object")) true := I.type.andThen (looks_mroIn X hm)
  have one : ∀ (R : Value → Shared → Prop), (∀ r s', Q (some (.bool (!r))) s' → R (.bool (!r)) s') → wpAny (model prog w) A (call (.builtin "object.__ne__") [.ref x, b]) R E s := fun R hR => by
    refine wpAny_call (codeAny_call_builtin FB.ne.plain PySem.F.cmpEntry_ne (@check_slot (model prog w) _ _ s "object.__ne__" "object" "__ne__" (.ref x) [b] [] _ PySem.F.cmpKind_ne PySem.F.cmpSplit_ne sub (PySem.F.cmpArgs_ne _ _) ?_))
    refine objNe (A := A.in1) X I he hf hu (wpAny_mono h (fun v s' hv => ?_) fun _ _ e => e)
    obtain ⟨r, rfl, hq⟩ := hv
    exact ⟨r, rfl, hR r s' hq⟩
  unfold tryCompare
  refine wpAny_bind ?_
  simp only [callSpecialIfBound?, bindSpecialIfBound?]
  refine wpAny_holding (wpAny_bind (wpAny_bind (wpAny_bind (I.type.here ((looks_findIn X hn).here ?_)))))
  simp only [FB.ne.bind]
  refine wpAny_bind (wpAny_askSetting (wpAny_ite ?_))
  have fin : ∀ (R : Option Value → Shared → Prop), (∀ r s', Q (some (.bool (!r))) s' → R (some (.bool (!r))) s') → wpAny (model prog w) A (call (.builtin "object.__ne__") ([.ref x] ++ [b]) >>= fun v => pure (some v)) R E s := fun R hR =>
    wpAny_bind (one _ fun r s' q => wpAny_pure (hR r s' q))
  split
  · exact wpAny_bind (wpAny_pure (wpAny_pure (fin _ fun r s' q => wpAny_pure q)))
  · exact wpAny_tryCatch (wpAny_bind (wpAny_pure (wpAny_pure (fin _ fun r s' q => wpAny_pure q))))
theorem ne_K {Q : Value → Shared → Prop} (hu : A.units + 1 < cLine) (X : K.In s.heap) (I : InstAt s.heap x ox C od) (hb : Looks (model prog w) s.heap (typeOf b) (.ref C)) (hn : findIn K (.ref C) "__ne__" = some (some (.builtin "object.__ne__")))
    (he : findIn K (.ref C) "__eq__" = some (some (.ref f))) (hf : isFn K (.ref f) = true) (hm : mroIn K C (.type "object") = some true)
    (h : wpAny (model prog w) A.in1 (call (.ref f) [.ref x, b]) (fun v s' => ∃ r, v = .bool r ∧ Q (.bool (!r)) s') E s) : wpAny (model prog w) A (richCompare .NotEq (.ref x) b) Q E s := by
  unfold richCompare
  simp only [oneThing_ref]
  refine wpAny_holding (wpAny_bind (wpAny_cRoomFor (Nat.lt_of_succ_lt hu) ?_))
  refine wpAny_bind (I.type.here (wpAny_bind (hb.here ?_)))
  rw [show (Value.ref C != Value.ref C) = false from by simp]
  simp only [Bool.false_eq_true, if_false]
  refine wpAny_bind (wpAny_pure ?_)
  simp only [Bool.false_eq_true, if_false]
  refine wpAny_bind (tryNe X I hn he hf hm hu (wpAny_mono h (fun v s' hv => ?_) fun _ _ e => e))
  obtain ⟨r, rfl, hq⟩ := hv
  exact ⟨r, rfl, wpAny_pure hq⟩
end
end NeK
namespace L2
open PySem PySem.Spec PyProof.Rows
section
variable {X : Cx} {n : Nat}
/-- x != y of instances of the class at C: its own == says True -/
def rNeI (D : Eqv) : R2 := fun x y H Q => D x y H ∧ ∀ H', Ext H H' → Q (.bl false) H'
theorem op_neIns {CX : CXT} {C f : Addr} {fd : FuncData} {ps : List Str} {R : Addr → Addr → Hp → Prop} {E : XK} (F : FnOk X.prog X.w X.K X.mg X.base CX n f fd ps (spEq R)) (hr : Room (n + 1) X.A)
    (hn : PySem.W.findIn X.K (.ref C) "__ne__" = some (some (.builtin "object.__ne__"))) (hs : PySem.W.findIn X.K (.ref C) "__eq__" = some (some (.ref f))) (hf : PySem.W.isFn X.K (.ref f) = true) (hm : PySem.W.mroIn X.K C (.type "object") = some true)
    (hb : Binds X.K fd ps []) (hx : Passes CX X E) : OpR X (compareOp .NotEq) (rNeI (DIns C R)) := by
  intro pins s σ H x y u v Q I rx ry hq
  obtain ⟨d, q⟩ := hq
  show wpAny (model X.prog X.w) X.A (richCompare .NotEq u v) (EP X pins σ Q) X.xe s
  obtain ⟨a, b, dx, dy, fs, gs, rfl, rfl, ha, hb', hr'⟩ := d
  cases rx
  cases ry
  obtain ⟨mA, J, _⟩ := ins_get I.hok ha
  obtain ⟨mB, J', _⟩ := ins_get I.hok hb'
  obtain ⟨od, J, _⟩ := J.look
  obtain ⟨od', J', _⟩ := J'.look
  have sb : Sub X (n + 1) X.A := ⟨hr, rfl⟩
  have sb1 : Sub X n X.A.in1 := sb.in1
  obtain ⟨m, hF⟩ := I.fr
  refine NeK.ne_K (by have := hr.un; omega) (I.ok.mod.kin.keeps hF.keep) J J'.type hn hs hf hm ?_
  have hsp : spEq R [.ref a, .ref b] H (fun v H' => v = .bl true ∧ Ext H H') E := ⟨a, b, rfl, hr', fun H' e => ⟨rfl, e⟩⟩
  have e0 : Env0 X.prog X.w X.K X.mg X.base X.A.in1 X.stack s H := by
    have e := I.env0
    exact ⟨by rw [sb1.fr]; exact e.frames, e.mod, e.bs, e.bsz, e.funs, e.frf, e.hok, e.bare⟩
  have hl := F.len _ _ _ _ hsp
  have r2 : Vals [V.ref a, V.ref b] [Value.ref a, Value.ref b] := .cons rfl (.cons rfl .nil)
  refine wpAny_call (codeAny_mono (F.run X.A.in1 X.stack s H ⟨[.ref a, .ref b], []⟩ [.ref a, .ref b] [.ref a, .ref b] _ E sb1.room e0 (by
    have := hb s [.ref a, .ref b] I.kIn (by simpa using hl)
    simpa using this) r2 hsp) fun r s' hq => ?_)
  cases r with
  | error e => exact hx pins σ H s e s' I hq
  | ok fl =>
    cases fl with
    | ret w =>
      obtain ⟨z, H', I', rz, ez, ex⟩ := I.after hq
      subst ez
      cases rz
      exact ⟨true, rfl, .bl false, H', I', rfl, q H' ex⟩
    | next => exact False.elim hq
    | brk => exact False.elim hq
    | cont => exact False.elim hq
end
end L2

/-! an own exception made without an argument: raised, and as a value (of mine) -/
namespace L2
open PySem PySem.Spec PyProof.Rows
section
variable {X : Cx}
/-- X(), X an own exception class without own __init__: as what is raised -/
theorem pmk_own0 {C : Addr} {bmB : List Value} {B newId initId : String} {x : Str} {p pos : Pos} (F : ExcBaseFacts B newId initId bmB) (q : PySem.W.excIn X.K C bmB newId = true) (gC : X.mg x = some (.ref C))
    (kC : PySem.W.keepIn X.K (.ref C) = true) (r : Raises X (.ref C)) (hg : Gl X x) (hdb : (x == ("__debug__" : Str)) = false := by decide) :
    PMk X (.Call (.Name x p) [] [] pos) (fun _ H Q => Q (.ref C) none H) := by
  intro pins s σ H Q I h
  refine wpAny_Call_Name_kw (ld_glob I hg gC ?_ hdb)
  refine PySem.W.callWith_K0 I.kIn kC ?_
  show wpAny _ _ (call (.ref C) []) _ _ _
  obtain ⟨bm, N, nm, qn, bs, hdct, sn, sub, ab, col, dd, k0, k1, k2, k3, k5, mN, hC, hN, hni, T⟩ := exc_obj I.kIn q
  refine wpAny_call_exc_subT F T hC hN hni (fun h' e hm => ?_) (by show 0 ≤ sizeLine; exact Nat.zero_le _)
  exact mk_of I hm r h (I.hok.gone hm.new)
/-- X(), such a class, as a value: a new exception object -/
theorem pe_exc0 {C : Addr} {bmB : List Value} {B newId initId : String} {x : Str} {p pos : Pos} (F : ExcBaseFacts B newId initId bmB) (q : PySem.W.excIn X.K C bmB newId = true) (gC : X.mg x = some (.ref C)) (kC : PySem.W.keepIn X.K (.ref C) = true) (hg : Gl X x)
    (hdb : (x == ("__debug__" : Str)) = false := by decide) :
    PE X (.Call (.Name x p) [] [] pos) (fun σ H Q => ∀ a, H a = none → Q (.ref a) (upd H a (ExO (.ref C) a))) := by
  refine ⟨fun pins s σ H Q I h => ?_⟩
  refine wpAny_Call_Name_kw (ld_glob I hg gC ?_ hdb)
  refine PySem.W.callWith_K0 I.kIn kC ?_
  show wpAny _ _ (call (.ref C) []) _ _ _
  obtain ⟨bm, N, nm, qn, bs, hdct, sn, sub, ab, col, dd, k0, k1, k2, k3, k5, mN, hC, hN, hni, T⟩ := exc_obj I.kIn q
  refine wpAny_call_exc_subT F T hC hN hni (fun h' a hm => ?_) (by show 0 ≤ sizeLine; exact Nat.zero_le _)
  have hn : H a = none := I.hok.gone hm.new
  obtain ⟨t, ht, _, _⟩ := hm.there
  exact ⟨.ref a, upd H a (ExO (.ref C) a), I.laidN hm.keeps hm.new hn (exO_ok ht ⟨rfl, rfl⟩ rfl rfl rfl (show 4 < 6 by decide)), rfl, h a hn⟩
end
/-- an exception of the class is what «except» of the class names -/
theorem exm_own {K : PySem.W.Frag} {S : Addr} (h1 : PySem.W.subIn K (.ref S) (.type "BaseException") = some true) (h2 : PySem.W.isClsIn K S = true) (h3 : PySem.W.typeIn K (.ref S) = some (.type "type")) (h4 : PySem.W.subIn K (.ref S) (.ref S) = some true) : PySem.W.exmOne K (.ref S) (.ref S) = some true := by
  have c : (PySem.W.clsIn K S).isSome = true := h2
  unfold PySem.W.exmOne PySem.W.kitCls
  simp [h1, c, h3, h4]
end L2

/-! values without a heap: what a piece of the heap stands for, and how states stand for slots of such values -/
namespace Pl
open PySem L2 My

/-- a value, whole -/
inductive D where
  | non | bl (b : Bool) | int (i : Int) | str (x : Str) | ty (n : String) | ad (a : Addr) | pot
  | tup (ds : List D) | lst (ds : List D)
  /-- a tuple of the module -/
  | gtup (ds : List D)
  | ins (C : Addr) (fs : List (Str × D))
  | dK (kvs : List (Key × D)) | dT (kvs : List (List Key × D))
  /-- a dict that is walked through -/
  | dZ (kvs : List (Key × D)) (xs : List (Key × V)) (o : Obj)

section
variable (K : PySem.W.Frag) (po : Option Pt) (F : Hp)
mutual
inductive Rep : D → V → Prop
  | non : Rep .non .non
  | bl (b : Bool) : Rep (.bl b) (.bl b)
  | int (i : Int) : Rep (.int i) (.int i)
  | str (x : Str) : Rep (.str x) (.str x)
  | ty (n : String) : Rep (.ty n) (.ty n)
  | ad (a : Addr) : Rep (.ad a) (.ref a)
  | pot (p : Pt) : po = some p → Rep .pot (.ref p.a)
  | tup {ds : List D} {a : Addr} {xs : List V} : F a = some (.tup xs) → Reps ds xs → Rep (.tup ds) (.ref a)
  | gtup {ds : List D} {a : Addr} {xs : List V} : SqT K F a xs → Reps ds xs → Rep (.gtup ds) (.ref a)
  | lst {ds : List D} {a : Addr} {xs : List V} : F a = some (.lst xs) → Reps ds xs → Rep (.lst ds) (.ref a)
  | ins {C a dx : Addr} {fs : List (Str × D)} {xs : List (Str × V)} : F a = some (.ins C dx xs) → RepF fs xs → Rep (.ins C fs) (.ref a)
  | dK {a : Addr} {kvs : List (Key × D)} {xs : List (Key × V)} : F a = some (.dK xs) → RepK kvs xs → Rep (.dK kvs) (.ref a)
  | dZ {a : Addr} {kvs : List (Key × D)} {xs : List (Key × V)} {o : Obj} : F a = some (.frz o (.dK xs)) → RepK kvs xs → Rep (.dZ kvs xs o) (.ref a)
  | dT {a : Addr} {kvs : List (List Key × D)} {xs : List (List Key × V)} : F a = some (.dT xs) → RepT kvs xs → Rep (.dT kvs) (.ref a)
inductive Reps : List D → List V → Prop
  | nil : Reps [] []
  | cons {d : D} {v : V} {ds : List D} {vs : List V} : Rep d v → Reps ds vs → Reps (d :: ds) (v :: vs)
inductive RepF : List (Str × D) → List (Str × V) → Prop
  | nil : RepF [] []
  | cons {f : Str} {d : D} {v : V} {ds : List (Str × D)} {vs : List (Str × V)} : Rep d v → RepF ds vs → RepF ((f, d) :: ds) ((f, v) :: vs)
inductive RepK : List (Key × D) → List (Key × V) → Prop
  | nil : RepK [] []
  | cons {f : Key} {d : D} {v : V} {ds : List (Key × D)} {vs : List (Key × V)} : Rep d v → RepK ds vs → RepK ((f, d) :: ds) ((f, v) :: vs)
inductive RepT : List (List Key × D) → List (List Key × V) → Prop
  | nil : RepT [] []
  | cons {f : List Key} {d : D} {v : V} {ds : List (List Key × D)} {vs : List (List Key × V)} : Rep d v → RepT ds vs → RepT ((f, d) :: ds) ((f, v) :: vs)
end
/-- an object that may change -/
inductive RepO : D → HO → Prop
  | lst {ds : List D} {xs : List V} : Reps K po F ds xs → RepO (.lst ds) (.lst xs)
  | dK {kvs : List (Key × D)} {xs : List (Key × V)} : RepK K po F kvs xs → RepO (.dK kvs) (.dK xs)
  | dZ {kvs : List (Key × D)} {xs : List (Key × V)} {o : Obj} : RepK K po F kvs xs → RepO (.dZ kvs xs o) (.frz o (.dK xs))
  | dT {kvs : List (List Key × D)} {xs : List (List Key × V)} : RepT K po F kvs xs → RepO (.dT kvs) (.dT xs)
  | ins {C dx : Addr} {fs : List (Str × D)} {xs : List (Str × V)} : RepF K po F fs xs → RepO (.ins C fs) (.ins C dx xs)
end
section
variable {K : PySem.W.Frag} {po : Option Pt} {F F' : Hp}
theorem SqT.same {a : Addr} {xs : List V} (e : Same F F') (h : SqT K F a xs) : SqT K F' a xs := SqT.keep (Keep.of e) h
mutual
theorem Rep.mono (e : Same F F') : ∀ {d : D} {v : V}, Rep K po F d v → Rep K po F' d v
  | _, _, .non => .non
  | _, _, .bl b => .bl b
  | _, _, .int i => .int i
  | _, _, .str x => .str x
  | _, _, .ty n => .ty n
  | _, _, .ad a => .ad a
  | _, _, .pot p h => .pot p h
  | _, _, .tup h r => .tup (e _ _ h) (Reps.mono e r)
  | _, _, .gtup h r => .gtup (SqT.same e h) (Reps.mono e r)
  | _, _, .lst h r => .lst (e _ _ h) (Reps.mono e r)
  | _, _, .ins h r => .ins (e _ _ h) (RepF.mono e r)
  | _, _, .dK h r => .dK (e _ _ h) (RepK.mono e r)
  | _, _, .dZ h r => .dZ (e _ _ h) (RepK.mono e r)
  | _, _, .dT h r => .dT (e _ _ h) (RepT.mono e r)
theorem Reps.mono (e : Same F F') : ∀ {d : List D} {v : List V}, Reps K po F d v → Reps K po F' d v
  | _, _, .nil => .nil
  | _, _, .cons h r => .cons (Rep.mono e h) (Reps.mono e r)
theorem RepF.mono (e : Same F F') : ∀ {d : List (Str × D)} {v : List (Str × V)}, RepF K po F d v → RepF K po F' d v
  | _, _, .nil => .nil
  | _, _, .cons h r => .cons (Rep.mono e h) (RepF.mono e r)
theorem RepK.mono (e : Same F F') : ∀ {d : List (Key × D)} {v : List (Key × V)}, RepK K po F d v → RepK K po F' d v
  | _, _, .nil => .nil
  | _, _, .cons h r => .cons (Rep.mono e h) (RepK.mono e r)
theorem RepT.mono (e : Same F F') : ∀ {d : List (List Key × D)} {v : List (List Key × V)}, RepT K po F d v → RepT K po F' d v
  | _, _, .nil => .nil
  | _, _, .cons h r => .cons (Rep.mono e h) (RepT.mono e r)
end
theorem RepO.mono (e : Same F F') {d : D} {o : HO} (h : RepO K po F d o) : RepO K po F' d o := by
  cases h with
  | lst r => exact .lst (r.mono e)
  | dK r => exact .dK (r.mono e)
  | dZ r => exact .dZ (r.mono e)
  | dT r => exact .dT (r.mono e)
  | ins r => exact .ins (r.mono e)
theorem RepO.fz {d : D} {o : HO} {a : Addr} (h : RepO K po F d o) (e : F a = some o) : Rep K po F d (.ref a) := by
  cases h with
  | lst r => exact .lst e r
  | dK r => exact .dK e r
  | dZ r => exact .dZ e r
  | dT r => exact .dT e r
  | ins r => exact .ins e r
theorem Reps.len : ∀ {ds : List D} {vs : List V}, Reps K po F ds vs → ds.length = vs.length
  | _, _, .nil => rfl
  | _, _, .cons _ r => by simp [Reps.len r]
theorem Reps.app : ∀ {ds es : List D} {vs us : List V}, Reps K po F ds vs → Reps K po F es us → Reps K po F (ds ++ es) (vs ++ us)
  | _, _, _, _, .nil, s => s
  | _, _, _, _, .cons h r, s => .cons h (Reps.app r s)
theorem Reps.get : ∀ {ds : List D} {vs : List V} {i : Nat} {d : D}, Reps K po F ds vs → ds[i]? = some d → ∃ v, vs[i]? = some v ∧ Rep K po F d v
  | _, _, _, _, .nil, e => by simp at e
  | _, _, 0, _, .cons h _, e => by
    simp at e
    subst e
    exact ⟨_, by simp, h⟩
  | _, _, i + 1, d, .cons _ r, e => by
    obtain ⟨v, h1, h2⟩ := Reps.get (i := i) (d := d) r (by simpa using e)
    exact ⟨v, by simpa using h1, h2⟩
theorem Reps.getV : ∀ {ds : List D} {vs : List V} {i : Nat} {v : V}, Reps K po F ds vs → vs[i]? = some v → ∃ d, ds[i]? = some d ∧ Rep K po F d v
  | _, _, _, _, .nil, e => by simp at e
  | _, _, 0, _, .cons h _, e => by
    simp at e
    subst e
    exact ⟨_, by simp, h⟩
  | _, _, i + 1, v, .cons _ r, e => by
    obtain ⟨d, h1, h2⟩ := Reps.getV (i := i) (v := v) r (by simpa using e)
    exact ⟨d, by simpa using h1, h2⟩
theorem Reps.take : ∀ {ds : List D} {vs : List V} (n : Nat), Reps K po F ds vs → Reps K po F (ds.take n) (vs.take n)
  | _, _, 0, _ => by simp; exact .nil
  | _, _, _ + 1, .nil => by simp; exact .nil
  | _, _, n + 1, .cons h r => by simpa using Reps.cons h (Reps.take n r)
theorem Reps.drop : ∀ {ds : List D} {vs : List V} (n : Nat), Reps K po F ds vs → Reps K po F (ds.drop n) (vs.drop n)
  | _, _, 0, r => r
  | _, _, _ + 1, .nil => by simp; exact .nil
  | _, _, n + 1, .cons _ r => by simpa using Reps.drop n r
theorem Reps.set : ∀ {ds : List D} {vs : List V} {d : D} {v : V} (i : Nat), Reps K po F ds vs → Rep K po F d v → Reps K po F (ds.set i d) (vs.set i v)
  | _, _, _, _, _, .nil, _ => .nil
  | _, _, _, _, 0, .cons _ r, h => .cons h r
  | _, _, _, _, i + 1, .cons q r, h => .cons q (Reps.set i r h)
theorem Reps.ints : ∀ (ns : List Int), Reps K po F (ns.map D.int) (ns.map V.int)
  | [] => .nil
  | n :: ns => .cons (.int n) (Reps.ints ns)
theorem Reps.ofInts : ∀ {ns : List Int} {vs : List V}, Reps K po F (ns.map D.int) vs → vs = ns.map V.int
  | [], _, .nil => rfl
  | n :: ns, _, .cons h r => by
    cases h
    rw [Reps.ofInts r]
    rfl
end

/-! ### slots -/
inductive Sl where
  | no | val (d : D) | own (d : D)
abbrev PEnv := List Sl
/-- what an expression gives: a value that stays, a new object of nobody's, the object of a slot -/
inductive RV where
  | val (d : D) | tmp (d : D) | nm (i : Nat)
def pl (p : Pt) : List Addr := [p.a, p.g, p.s]
/-- the heap H: the frozen part F, the guarded part G -/
structure StA (po : Option Pt) (G F H : Hp) : Prop where
  fh : Same F H
  gh : Same G H
  dj : ∀ b o, G b = some o → F b = none
  pt : ∀ p, po = some p → p.At H ∧ ∀ b ∈ pl p, F b = none ∧ G b = none
/-- an object that one holds -/
structure OwnAt (K : PySem.W.Frag) (po : Option Pt) (G F H : Hp) (a : Addr) (o : HO) (d : D) : Prop where
  at_ : H a = some o
  nf : F a = none
  ng : G a = none
  np : ∀ p, po = some p → a ∉ pl p
  rep : RepO K po F d o
structure St (K : PySem.W.Frag) (po : Option Pt) (G F H : Hp) (σ : L2.St) (env : PEnv) : Prop where
  a : StA po G F H
  len : env.length = σ.length
  vl : ∀ (i : Nat) (d : D), env[i]? = some (.val d) → ∃ v, σ[i]? = some (some v) ∧ Rep K po F d v
  ow : ∀ (i : Nat) (d : D), env[i]? = some (.own d) → ∃ a o, σ[i]? = some (some (.ref a)) ∧ OwnAt K po G F H a o d
  ds : ∀ (i j : Nat) (d e : D), env[i]? = some (.own d) → env[j]? = some (.own e) → σ[i]? = σ[j]? → i = j
def RV.At (K : PySem.W.Frag) (po : Option Pt) (G F H : Hp) (σ : L2.St) (env : PEnv) : RV → V → Prop
  | .val d, v => Rep K po F d v
  | .tmp d, v => ∃ a o, v = .ref a ∧ OwnAt K po G F H a o d ∧ ∀ (i : Nat) (e : D), env[i]? = some (.own e) → σ[i]? ≠ some (some (.ref a))
  | .nm i, v => σ[i]? = some (some v)
/-- its value -/
def RV.d (env : PEnv) : RV → Option D
  | .val d => some d
  | .tmp d => some d
  | .nm i => match env[i]? with
    | some (.own d) => some d
    | some (.val d) => some d
    | _ => none
/-- the slots when it is frozen -/
def RV.fz (env : PEnv) : RV → PEnv
  | .nm i => match env[i]? with
    | some (.own d) => env.set i (.val d)
    | _ => env
  | _ => env
section
variable {K : PySem.W.Frag} {po : Option Pt} {G G' F F' H H' : Hp} {σ : L2.St} {env : PEnv}
theorem OwnAt.weak {a : Addr} {o : HO} {d : D} (h : OwnAt K po G' F H a o d) (s : Same G G') : OwnAt K po G F H a o d := ⟨h.at_, h.nf, Same.free s h.ng, h.np, h.rep⟩
theorem StA.weak (h : StA po G' F H) (s : Same G G') : StA po G F H := ⟨h.fh, s.trans h.gh, fun b o e => h.dj b o (s _ _ e), fun p e => ⟨(h.pt p e).1, fun b hb => ⟨((h.pt p e).2 b hb).1, s.free ((h.pt p e).2 b hb).2⟩⟩⟩
theorem St.weak (h : St K po G' F H σ env) (s : Same G G') : St K po G F H σ env := ⟨h.a.weak s, h.len, h.vl, fun i d e => by
  obtain ⟨a, o, h1, h2⟩ := h.ow i d e
  exact ⟨a, o, h1, h2.weak s⟩, h.ds⟩
/-- a new object at p isn't the pot's -/
theorem StA.npot (h : StA po G F H) {p : Addr} (n : H p = none) : ∀ q, po = some q → p ∉ pl q := fun q e m => by
  obtain ⟨hp, _⟩ := h.pt q e
  have z := hp.fresh n
  have m' : p = q.a ∨ p = q.g ∨ p = q.s := by simpa [pl] using m
  rcases m' with r | r | r
  · exact z.1 r
  · exact z.2.1 r
  · exact z.2.2 r
theorem StA.tmp {a : Addr} {o : HO} (h : StA po G F H) (e : H a = some o) (nf : F a = none) (ng : G a = none) (np : ∀ p, po = some p → a ∉ pl p) : StA po (upd G a o) F H := by
  refine ⟨h.fh, fun b u q => ?_, fun b u q => ?_, fun p ep => ⟨(h.pt p ep).1, fun b hb => ⟨((h.pt p ep).2 b hb).1, ?_⟩⟩⟩
  · by_cases c : b = a
    · subst c; rw [upd_same] at q; cases q; exact e
    · rw [upd_ne c] at q; exact h.gh _ _ q
  · by_cases c : b = a
    · subst c; exact nf
    · rw [upd_ne c] at q; exact h.dj _ _ q
  · rw [upd_ne (fun z : b = a => np p ep (z ▸ hb))]
    exact ((h.pt p ep).2 b hb).2
/-- what nobody's slot holds is guarded meanwhile -/
theorem St.tmp {a : Addr} {o : HO} {d : D} (h : St K po G F H σ env) (w : OwnAt K po G F H a o d) (ns : ∀ (i : Nat) (e : D), env[i]? = some (.own e) → σ[i]? ≠ some (some (.ref a))) : St K po (upd G a o) F H σ env := by
  refine ⟨h.a.tmp w.at_ w.nf w.ng w.np, h.len, h.vl, fun i e q => ?_, h.ds⟩
  obtain ⟨b, u, h1, h2⟩ := h.ow i e q
  have ne : b ≠ a := fun z => ns i e q (by rw [h1, z])
  exact ⟨b, u, h1, h2.at_, h2.nf, by rw [upd_ne ne]; exact h2.ng, h2.np, h2.rep⟩
theorem Same.upd {G : Hp} {a : Addr} {o : HO} (n : G a = none) : Same G (upd G a o) := Same.new n
/-- .. and is there afterwards -/
theorem St.tmpBack {a : Addr} {o : HO} {d : D} (w : OwnAt K po G F H a o d) (s : Same F F') (h : St K po (upd G a o) F' H' σ env) :
    St K po G F' H' σ env ∧ OwnAt K po G F' H' a o d ∧ ∀ (i : Nat) (e : D), env[i]? = some (.own e) → σ[i]? ≠ some (some (.ref a)) := by
  refine ⟨h.weak (Same.new w.ng), ⟨h.a.gh _ _ upd_same, h.a.dj _ _ upd_same, w.ng, w.np, w.rep.mono s⟩, fun i e q z => ?_⟩
  obtain ⟨b, u, h1, h2⟩ := h.ow i e q
  rw [h1] at z
  cases z
  have := h2.ng
  rw [upd_same] at this
  cases this
/-- an object becomes frozen -/
theorem StA.frz {a : Addr} {o : HO} (h : StA po G F H) (e : H a = some o) (nf : F a = none) (ng : G a = none) (np : ∀ p, po = some p → a ∉ pl p) : StA po G (upd F a o) H := by
  refine ⟨fun b u q => ?_, h.gh, fun b u q => ?_, fun p ep => ⟨(h.pt p ep).1, fun b hb => ⟨?_, ((h.pt p ep).2 b hb).2⟩⟩⟩
  · by_cases c : b = a
    · subst c; rw [upd_same] at q; cases q; exact e
    · rw [upd_ne c] at q; exact h.fh _ _ q
  · rw [upd_ne (fun z => by rw [z, ng] at q; cases q)]
    exact h.dj _ _ q
  · rw [upd_ne (fun z : b = a => np p ep (z ▸ hb))]
    exact ((h.pt p ep).2 b hb).1
theorem St.frzT {a : Addr} {o : HO} {d : D} (h : St K po G F H σ env) (w : OwnAt K po G F H a o d) (ns : ∀ (i : Nat) (e : D), env[i]? = some (.own e) → σ[i]? ≠ some (some (.ref a))) :
    St K po G (upd F a o) H σ env ∧ Same F (upd F a o) ∧ Rep K po (upd F a o) d (.ref a) := by
  have s : Same F (upd F a o) := Same.new w.nf
  refine ⟨⟨h.a.frz w.at_ w.nf w.ng w.np, h.len, fun i e q => ?_, fun i e q => ?_, h.ds⟩, s, (w.rep.mono s).fz upd_same⟩
  · obtain ⟨v, h1, h2⟩ := h.vl i e q
    exact ⟨v, h1, h2.mono s⟩
  · obtain ⟨b, u, h1, h2⟩ := h.ow i e q
    have ne : b ≠ a := fun z => ns i e q (by rw [h1, z])
    exact ⟨b, u, h1, h2.at_, by rw [upd_ne ne]; exact h2.nf, h2.ng, h2.np, h2.rep.mono s⟩
theorem get_set_ne {α : Type} {l : List α} {i j : Nat} {x : α} (h : i ≠ j) : (l.set i x)[j]? = l[j]? := List.getElem?_set_ne h
/-- a slot's object becomes frozen -/
theorem St.frzN {i : Nat} {d : D} (h : St K po G F H σ env) (e : env[i]? = some (.own d)) :
    ∃ (a : Addr) (F' : Hp), σ[i]? = some (some (.ref a)) ∧ St K po G F' H σ (env.set i (.val d)) ∧ Same F F' ∧ Rep K po F' d (.ref a) ∧ ∃ o, F' = upd F a o ∧ RepO K po F d o := by
  obtain ⟨a, o, ea, w⟩ := h.ow i d e
  have s : Same F (upd F a o) := Same.new w.nf
  have il : i < env.length := (List.getElem?_eq_some_iff.mp e).1
  have R : Rep K po (upd F a o) d (.ref a) := (w.rep.mono s).fz upd_same
  refine ⟨a, upd F a o, ea, ⟨h.a.frz w.at_ w.nf w.ng w.np, by rw [List.length_set]; exact h.len, fun j u q => ?_, fun j u q => ?_, fun j k u t q1 q2 q3 => ?_⟩, s, R, o, rfl, w.rep⟩
  · by_cases c : i = j
    · subst c
      rw [List.getElem?_set_self il] at q
      cases q
      exact ⟨_, ea, R⟩
    · rw [get_set_ne c] at q
      obtain ⟨v, h1, h2⟩ := h.vl j u q
      exact ⟨v, h1, h2.mono s⟩
  · by_cases c : i = j
    · subst c
      rw [List.getElem?_set_self il] at q
      cases q
    · rw [get_set_ne c] at q
      obtain ⟨b, t, h1, h2⟩ := h.ow j u q
      have ne : b ≠ a := fun z => c (h.ds i j d u e q (by rw [ea, h1, z]))
      exact ⟨b, t, h1, h2.at_, by rw [upd_ne ne]; exact h2.nf, h2.ng, h2.np, h2.rep.mono s⟩
  · have c1 : i ≠ j := fun c => by
      subst c
      rw [List.getElem?_set_self il] at q1
      cases q1
    have c2 : i ≠ k := fun c => by
      subst c
      rw [List.getElem?_set_self il] at q2
      cases q2
    rw [get_set_ne c1] at q1
    rw [get_set_ne c2] at q2
    exact h.ds j k u t q1 q2 q3
/-- what an expression gave is frozen -/
theorem RV.frz {r : RV} {v : V} {d : D} (h : St K po G F H σ env) (w : r.At K po G F H σ env v) (e : r.d env = some d) :
    ∃ F', Same F F' ∧ St K po G F' H σ (r.fz env) ∧ Rep K po F' d v := by
  cases r with
  | val d' =>
    cases e
    exact ⟨F, Same.refl F, h, w⟩
  | tmp d' =>
    cases e
    obtain ⟨a, o, rfl, w1, w2⟩ := w
    obtain ⟨h1, h2, h3⟩ := h.frzT w1 w2
    exact ⟨_, h2, h1, h3⟩
  | nm i =>
    have w : σ[i]? = some (some v) := w
    unfold RV.d at e
    unfold RV.fz
    dsimp only at e ⊢
    cases q : env[i]? with
    | none => rw [q] at e; cases e
    | some sl =>
      rw [q] at e
      cases sl with
      | no => cases e
      | val d' =>
        cases e
        obtain ⟨u, h1, h2⟩ := h.vl i d q
        rw [w] at h1
        cases h1
        exact ⟨F, Same.refl F, h, h2⟩
      | own d' =>
        cases e
        obtain ⟨a, F', h1, h2, h3, h4, _⟩ := h.frzN q
        rw [w] at h1
        cases h1
        exact ⟨F', h3, h2, h4⟩
/-- what is read: frozen, or an object as it stands -/
def Rdb (K : PySem.W.Frag) (po : Option Pt) (F H : Hp) (d : D) (v : V) : Prop := Rep K po F d v ∨ ∃ a o, v = .ref a ∧ H a = some o ∧ RepO K po F d o
theorem RV.rd {r : RV} {v : V} {d : D} (h : St K po G F H σ env) (w : r.At K po G F H σ env v) (e : r.d env = some d) : Rdb K po F H d v := by
  cases r with
  | val d' =>
    cases e
    exact .inl w
  | tmp d' =>
    cases e
    obtain ⟨a, o, rfl, w1, w2⟩ := w
    exact .inr ⟨a, o, rfl, w1.at_, w1.rep⟩
  | nm i =>
    have w : σ[i]? = some (some v) := w
    unfold RV.d at e
    dsimp only at e
    cases q : env[i]? with
    | none => rw [q] at e; cases e
    | some sl =>
      rw [q] at e
      cases sl with
      | no => cases e
      | val d' =>
        cases e
        obtain ⟨u, h1, h2⟩ := h.vl i d q
        rw [w] at h1
        cases h1
        exact .inl h2
      | own d' =>
        cases e
        obtain ⟨a, o, h1, h2⟩ := h.ow i d q
        rw [w] at h1
        cases h1
        exact .inr ⟨a, o, rfl, h2.at_, h2.rep⟩
/-- a new object that stays as it is -/
theorem StA.new {p : Addr} {o : HO} (h : StA po G F H) (n : H p = none) : StA po G (upd F p o) (upd H p o) := by
  have nf := h.fh.free n
  have ng := h.gh.free n
  refine ⟨fun b u q => ?_, fun b u q => ?_, fun b u q => ?_, fun q eq => ⟨((h.pt q eq).1).same (Same.new n), fun b hb => ⟨?_, ((h.pt q eq).2 b hb).2⟩⟩⟩
  · by_cases c : b = p
    · subst c; rw [upd_same] at q ⊢; exact q
    · rw [upd_ne c] at q ⊢; exact h.fh _ _ q
  · exact Same.new n _ _ (h.gh _ _ q)
  · rw [upd_ne (fun z => by rw [z, ng] at q; cases q)]
    exact h.dj _ _ q
  · rw [upd_ne (fun z : b = p => h.npot n q eq (z ▸ hb))]
    exact ((h.pt q eq).2 b hb).1
theorem OwnAt.step {a : Addr} {o : HO} {d : D} (w : OwnAt K po G F H a o d) (s : Same F F') (e : H' a = some o) (nf : F' a = none) : OwnAt K po G F' H' a o d := ⟨e, nf, w.ng, w.np, w.rep.mono s⟩
theorem St.newF {p : Addr} {o : HO} (h : St K po G F H σ env) (n : H p = none) : St K po G (upd F p o) (upd H p o) σ env := by
  have nf := h.a.fh.free n
  have s : Same F (upd F p o) := Same.new nf
  refine ⟨h.a.new n, h.len, fun i d q => ?_, fun i d q => ?_, h.ds⟩
  · obtain ⟨v, h1, h2⟩ := h.vl i d q
    exact ⟨v, h1, h2.mono s⟩
  · obtain ⟨a, u, h1, h2⟩ := h.ow i d q
    have ne : a ≠ p := ne_of_none h2.at_ n
    exact ⟨a, u, h1, h2.step s (by rw [upd_ne ne]; exact h2.at_) (by rw [upd_ne ne]; exact h2.nf)⟩
/-- a new object of nobody's -/
theorem StA.newO {p : Addr} {o : HO} (h : StA po G F H) (n : H p = none) : StA po G F (upd H p o) :=
  ⟨h.fh.trans (Same.new n), h.gh.trans (Same.new n), h.dj, fun q eq => ⟨((h.pt q eq).1).same (Same.new n), (h.pt q eq).2⟩⟩
theorem St.newO {p : Addr} {o : HO} (h : St K po G F H σ env) (n : H p = none) : St K po G F (upd H p o) σ env := by
  refine ⟨h.a.newO n, h.len, h.vl, fun i d q => ?_, h.ds⟩
  obtain ⟨a, u, h1, h2⟩ := h.ow i d q
  exact ⟨a, u, h1, h2.step (Same.refl F) (Same.new n _ _ h2.at_) h2.nf⟩
theorem St.newT {p : Addr} {o : HO} {d : D} (h : St K po G F H σ env) (n : H p = none) (r : RepO K po F d o) : St K po G F (upd H p o) σ env ∧ RV.At K po G F (upd H p o) σ env (.tmp d) (.ref p) := by
  refine ⟨h.newO n, p, o, rfl, ⟨upd_same, h.a.fh.free n, h.a.gh.free n, h.a.npot n, r⟩, fun i e q z => ?_⟩
  obtain ⟨a, u, h1, h2⟩ := h.ow i e q
  rw [h1] at z
  cases z
  rw [h2.at_] at n
  cases n
/-- a slot is stored -/
theorem St.setV {i : Nat} {d : D} {v : V} (h : St K po G F H σ env) (r : Rep K po F d v) : St K po G F H (σ.set i (some v)) (env.set i (.val d)) := by
  refine ⟨h.a, by rw [List.length_set, List.length_set]; exact h.len, fun j u q => ?_, fun j u q => ?_, fun j k u t q1 q2 q3 => ?_⟩
  · by_cases c : i = j
    · subst c
      have il : i < env.length := by
        have := (List.getElem?_eq_some_iff.mp q).1
        rwa [List.length_set] at this
      rw [List.getElem?_set_self il] at q
      cases q
      exact ⟨v, List.getElem?_set_self (by rw [← h.len]; exact il), r⟩
    · rw [get_set_ne c] at q ⊢
      exact h.vl j u q
  · by_cases c : i = j
    · subst c
      have il : i < env.length := by
        have := (List.getElem?_eq_some_iff.mp q).1
        rwa [List.length_set] at this
      rw [List.getElem?_set_self il] at q
      cases q
    · rw [get_set_ne c] at q ⊢
      exact h.ow j u q
  · have c1 : i ≠ j := fun c => by
      subst c
      have il : i < env.length := by
        have := (List.getElem?_eq_some_iff.mp q1).1
        rwa [List.length_set] at this
      rw [List.getElem?_set_self il] at q1
      cases q1
    have c2 : i ≠ k := fun c => by
      subst c
      have il : i < env.length := by
        have := (List.getElem?_eq_some_iff.mp q2).1
        rwa [List.length_set] at this
      rw [List.getElem?_set_self il] at q2
      cases q2
    rw [get_set_ne c1] at q1 q3
    rw [get_set_ne c2] at q2 q3
    exact h.ds j k u t q1 q2 q3
theorem St.setO {i : Nat} {d : D} {a : Addr} {o : HO} (h : St K po G F H σ env) (w : OwnAt K po G F H a o d) (ns : ∀ (i : Nat) (e : D), env[i]? = some (.own e) → σ[i]? ≠ some (some (.ref a))) : St K po G F H (σ.set i (some (.ref a))) (env.set i (.own d)) := by
  have lt : ∀ {j : Nat} {s : Sl}, (env.set i (.own d))[j]? = some s → j < env.length := fun {j s} q => by
    have := (List.getElem?_eq_some_iff.mp q).1
    rwa [List.length_set] at this
  refine ⟨h.a, by rw [List.length_set, List.length_set]; exact h.len, fun j u q => ?_, fun j u q => ?_, fun j k u t q1 q2 q3 => ?_⟩
  · by_cases c : i = j
    · subst c
      rw [List.getElem?_set_self (lt q)] at q
      cases q
    · rw [get_set_ne c] at q ⊢
      exact h.vl j u q
  · by_cases c : i = j
    · subst c
      have l := lt q
      rw [List.getElem?_set_self l] at q
      cases q
      exact ⟨a, o, List.getElem?_set_self (by rw [← h.len]; exact l), w⟩
    · rw [get_set_ne c] at q ⊢
      exact h.ow j u q
  · by_cases c1 : i = j
    · subst c1
      by_cases c2 : i = k
      · exact c2
      · rw [List.getElem?_set_self (by rw [← h.len]; exact lt q1), get_set_ne c2] at q3
        rw [get_set_ne c2] at q2
        exact absurd q3.symm (ns k t q2)
    · by_cases c2 : i = k
      · subst c2
        rw [List.getElem?_set_self (by rw [← h.len]; exact lt q2), get_set_ne c1] at q3
        rw [get_set_ne c1] at q1
        exact absurd q3 (ns j u q1)
      · rw [get_set_ne c1] at q1 q3
        rw [get_set_ne c2] at q2 q3
        exact h.ds j k u t q1 q2 q3
/-- a slot is forgotten -/
theorem St.forget {i : Nat} (h : St K po G F H σ env) : St K po G F H σ (env.set i Sl.no) := by
  have lt : ∀ {j : Nat} {s : Sl}, (env.set i Sl.no)[j]? = some s → j < env.length := fun {j s} q => by
    have := (List.getElem?_eq_some_iff.mp q).1
    rwa [List.length_set] at this
  have ne : ∀ {j : Nat} {s : Sl}, s ≠ Sl.no → (env.set i Sl.no)[j]? = some s → i ≠ j ∧ env[j]? = some s := fun {j s} n q => by
    by_cases c : i = j
    · subst c
      rw [List.getElem?_set_self (lt q)] at q
      cases q
      exact absurd rfl n
    · rw [get_set_ne c] at q
      exact ⟨c, q⟩
  refine ⟨h.a, by rw [List.length_set]; exact h.len, fun j u q => h.vl j u (ne (by intro z; cases z) q).2, fun j u q => h.ow j u (ne (by intro z; cases z) q).2, fun j k u t q1 q2 q3 => ?_⟩
  exact h.ds j k u t (ne (by intro z; cases z) q1).2 (ne (by intro z; cases z) q2).2 q3
/-- other slots of σ than the known ones don't matter -/
theorem St.slots {τ : L2.St} (h : St K po G F H σ env) (el : τ.length = σ.length) (e : ∀ (i : Nat) (s : Sl), env[i]? = some s → s ≠ Sl.no → τ[i]? = σ[i]?) : St K po G F H τ env := by
  refine ⟨h.a, by rw [el]; exact h.len, fun i d q => ?_, fun i d q => ?_, fun i j d u q1 q2 q3 => ?_⟩
  · rw [e i _ q (by intro z; cases z)]; exact h.vl i d q
  · rw [e i _ q (by intro z; cases z)]; exact h.ow i d q
  · rw [e i _ q1 (by intro z; cases z), e j _ q2 (by intro z; cases z)] at q3
    exact h.ds i j d u q1 q2 q3
/-- a slot's object changes -/
theorem St.mut {i : Nat} {d d' : D} {a : Addr} {o' : HO} (h : St K po G F H σ env) (e : env[i]? = some (.own d)) (ea : σ[i]? = some (some (.ref a))) (r : RepO K po F d' o') :
    St K po G F (upd H a o') σ (env.set i (.own d')) := by
  obtain ⟨b, o, eb, w⟩ := h.ow i d e
  rw [ea] at eb
  cases eb
  have il : i < env.length := (List.getElem?_eq_some_iff.mp e).1
  have out : ∀ {X : Hp}, X a = none → Same X H → Same X (upd H a o') := fun {X} n s b u q => by
    rw [upd_ne (fun z => by rw [z, n] at q; cases q)]
    exact s _ _ q
  refine ⟨⟨out w.nf h.a.fh, out w.ng h.a.gh, h.a.dj, fun p ep => ⟨?_, (h.a.pt p ep).2⟩⟩, by rw [List.length_set]; exact h.len, fun j u q => ?_, fun j u q => ?_, fun j k u t q1 q2 q3 => ?_⟩
  · have np := w.np p ep
    refine ((h.a.pt p ep).1).but (l := [a]) (fun b u m q => ?_) ?_ ?_ ?_
    · rw [upd_ne (by simpa using m)]; exact q
    · intro z; exact np (by simp [pl] at z ⊢; exact .inl z.symm)
    · intro z; exact np (by simp [pl] at z ⊢; exact .inr (.inl z.symm))
    · intro z; exact np (by simp [pl] at z ⊢; exact .inr (.inr z.symm))
  · have c : i ≠ j := fun c => by
      subst c
      rw [List.getElem?_set_self il] at q
      cases q
    rw [get_set_ne c] at q
    exact h.vl j u q
  · by_cases c : i = j
    · subst c
      rw [List.getElem?_set_self il] at q
      cases q
      exact ⟨a, o', ea, upd_same, w.nf, w.ng, w.np, r⟩
    · rw [get_set_ne c] at q
      obtain ⟨b, t, h1, h2⟩ := h.ow j u q
      have ne : b ≠ a := fun z => c (h.ds i j d u e q (by rw [ea, h1, z]))
      exact ⟨b, t, h1, by rw [upd_ne ne]; exact h2.at_, h2.nf, h2.ng, h2.np, h2.rep⟩
  · have own : ∀ {j : Nat} {u : D}, (env.set i (.own d'))[j]? = some (.own u) → ∃ u', env[j]? = some (.own u') := fun {j u} q => by
      by_cases c : i = j
      · subst c; exact ⟨d, e⟩
      · rw [get_set_ne c] at q; exact ⟨u, q⟩
    obtain ⟨u', q1⟩ := own q1
    obtain ⟨t', q2⟩ := own q2
    exact h.ds j k u' t' q1 q2 q3
end
end Pl

/-! readings over values: what an expression asks of slots of values -/
namespace Pl
open PySem L2 My

abbrev PTE := PEnv → (RV → PEnv → Prop) → Prop
abbrev PTT := PEnv → (Bool → PEnv → Prop) → Prop
abbrev PTA := PEnv → (List RV → PEnv → Prop) → Prop
abbrev KX := Addr → List (Str × D) → PEnv → Prop
/-- an exception's own dict -/
def XD (K : PySem.W.Frag) (po : Option Pt) (F H : Hp) (d : Option Addr) (fs : List (Str × D)) : Prop := (d = none ∧ fs = []) ∨ ∃ dx xs, d = some dx ∧ H dx = some (.xd xs) ∧ RepF K po F fs xs
/-- what is wished of exceptions -/
def XRel (K : PySem.W.Frag) (po : Option Pt) (G F : Hp) (W : WX) (kx : KX) : Prop := ∀ (F' H' : Hp) (σ : L2.St) (env : PEnv) (c : Addr) (d : Option Addr) (fs : List (Str × D)), Same F F' → St K po G F' H' σ env → XD K po F' H' d fs → kx c fs env → W (.ref c) d σ H'
theorem XRel.weak {K : PySem.W.Frag} {po : Option Pt} {G G' F F' : Hp} {W : WX} {kx : KX} (h : XRel K po G F W kx) (g : Same G G') (f : Same F F') : XRel K po G' F' W kx := fun F2 H2 σ env c d fs s st x k => h F2 H2 σ env c d fs (f.trans s) (st.weak g) x k
abbrev W0 : WX := fun _ _ _ _ => False
abbrev kx0 : KX := fun _ _ _ => False
theorem XRel.none {K : PySem.W.Frag} {po : Option Pt} {G F : Hp} {W : WX} : XRel K po G F W kx0 := fun _ _ _ _ _ _ _ _ _ _ k => k.elim

def lift (K : PySem.W.Frag) (W : WX) (kx : KX) (p : PTE) : TE := fun σ H Q => ∃ (po : Option Pt) (G F : Hp) (env : PEnv) (k : RV → PEnv → Prop), St K po G F H σ env ∧ XRel K po G F W kx ∧ p env k ∧
  ∀ (F' H' : Hp) (env' : PEnv) (r : RV) (v : V), Same F F' → St K po G F' H' σ env' → r.At K po G F' H' σ env' v → k r env' → Q v H'
def liftT (K : PySem.W.Frag) (W : WX) (kx : KX) (p : PTT) : L2.TT := fun σ H Q => ∃ (po : Option Pt) (G F : Hp) (env : PEnv) (k : Bool → PEnv → Prop), St K po G F H σ env ∧ XRel K po G F W kx ∧ p env k ∧
  ∀ (F' H' : Hp) (env' : PEnv) (b : Bool), Same F F' → St K po G F' H' σ env' → k b env' → Q b H'
/-- what arguments are: frozen values, or names -/
inductive RvA (K : PySem.W.Frag) (po : Option Pt) (F : Hp) (σ : L2.St) : List RV → List V → Prop
  | nil : RvA K po F σ [] []
  | val {d : D} {v : V} {rs : List RV} {vs : List V} : Rep K po F d v → RvA K po F σ rs vs → RvA K po F σ (.val d :: rs) (v :: vs)
  | nm {i : Nat} {v : V} {rs : List RV} {vs : List V} : σ[i]? = some (some v) → RvA K po F σ rs vs → RvA K po F σ (.nm i :: rs) (v :: vs)
def liftA (K : PySem.W.Frag) (W : WX) (kx : KX) (p : PTA) : TA := fun σ H Q => ∃ (po : Option Pt) (G F : Hp) (env : PEnv) (k : List RV → PEnv → Prop), St K po G F H σ env ∧ XRel K po G F W kx ∧ p env k ∧
  ∀ (F' H' : Hp) (env' : PEnv) (rs : List RV) (vs : List V), Same F F' → St K po G F' H' σ env' → RvA K po F' σ rs vs → k rs env' → Q vs H'

structure QE (X : Cx) (K : PySem.W.Frag) (W : WX) (kx : KX) (e : Expr) (p : PTE) : Prop where
  hK : X.K = K
  pe : PE X e (lift K W kx p)
structure QT (X : Cx) (K : PySem.W.Frag) (W : WX) (kx : KX) (e : Expr) (p : PTT) : Prop where
  hK : X.K = K
  pt : PT X e (liftT K W kx p)
structure QW (X : Cx) (K : PySem.W.Frag) (W : WX) (kx : KX) (e : Expr) (p : PTT) : Prop where
  hK : X.K = K
  pw : PW X e (liftT K W kx p)
structure QA (X : Cx) (K : PySem.W.Frag) (W : WX) (kx : KX) (es : List Expr) (p : PTA) : Prop where
  hK : X.K = K
  pa : PA X es (liftA K W kx p)

section
variable {X : Cx} {K : PySem.W.Frag} {W : WX} {kx : KX}
theorem PE.imp {e : Expr} {t t' : TE} (h : PE X e t) (i : ∀ σ H Q, t' σ H Q → t σ H Q) : PE X e t' := ⟨fun pins s σ H Q I q => h.run pins s σ H Q I (i _ _ _ q)⟩
theorem PT.imp {e : Expr} {t t' : L2.TT} (h : PT X e t) (i : ∀ σ H Q, t' σ H Q → t σ H Q) : PT X e t' := ⟨fun pins s σ H Q I q => h.run pins s σ H Q I (i _ _ _ q)⟩
theorem PW.imp {e : Expr} {t t' : L2.TT} (h : PW X e t) (i : ∀ σ H Q, t' σ H Q → t σ H Q) : PW X e t' := ⟨fun wh pins s σ H Q I q => h.run wh pins s σ H Q I (i _ _ _ q)⟩
theorem PA.imp {e : List Expr} {t t' : TA} (h : PA X e t) (i : ∀ σ H Q, t' σ H Q → t σ H Q) : PA X e t' := ⟨fun pos pins s σ H Q I q => h.run pos pins s σ H Q I (i _ _ _ q)⟩

theorem RV.At.weak {po : Option Pt} {G G' F H : Hp} {σ : L2.St} {env : PEnv} {r : RV} {v : V} (h : r.At K po G' F H σ env v) (s : Same G G') : r.At K po G F H σ env v := by
  cases r with
  | val d => exact h
  | nm i => exact h
  | tmp d =>
    obtain ⟨a, o, e, w, n⟩ := h
    exact ⟨a, o, e, w.weak s, n⟩
/-- a first result stays while a second one is asked for -/
theorem RV.hold {po : Option Pt} {G F H : Hp} {σ : L2.St} {env : PEnv} {r : RV} {v : V} (st : St K po G F H σ env) (h : r.At K po G F H σ env v) :
    ∃ G', Same G G' ∧ St K po G' F H σ env ∧ ∀ (F' H' : Hp) (env' : PEnv), Same F F' → St K po G' F' H' σ env' → St K po G F' H' σ env' ∧ r.At K po G F' H' σ env' v := by
  cases r with
  | val d => exact ⟨G, Same.refl G, st, fun F' H' env' s st' => ⟨st', Rep.mono s h⟩⟩
  | nm i => exact ⟨G, Same.refl G, st, fun F' H' env' s st' => ⟨st', h⟩⟩
  | tmp d =>
    obtain ⟨a, o, rfl, w, n⟩ := h
    refine ⟨upd G a o, Same.new w.ng, st.tmp w n, fun F' H' env' s st' => ?_⟩
    obtain ⟨h1, h2, h3⟩ := St.tmpBack w s st'
    exact ⟨h1, a, o, rfl, h2, h3⟩
/-! ### names and constants -/
def pVar (i : Nat) : PTE := fun env k => match env[i]? with
  | some (.val d) => k (.val d) env
  | some (.own d) => k (.nm i) env
  | _ => False
def pC (d : D) : PTE := fun env k => k (.val d) env
theorem q_var {i : Nat} {e : Expr} (hK : X.K = K) (h : PE X e (tVar i)) : QE X K W kx e (pVar i) := ⟨hK, PE.imp h fun σ H Q ⟨po, G, F, env, k, st, hx, hp, hq⟩ => by
  unfold pVar at hp
  cases q : env[i]? with
  | none => rw [q] at hp; exact hp.elim
  | some sl =>
    rw [q] at hp
    cases sl with
    | no => exact hp.elim
    | val d =>
      obtain ⟨v, h1, h2⟩ := st.vl i d q
      exact ⟨v, h1, hq F H env (.val d) v (Same.refl F) st h2 hp⟩
    | own d =>
      obtain ⟨a, o, h1, h2⟩ := st.ow i d q
      exact ⟨_, h1, hq F H env (.nm i) _ (Same.refl F) st h1 hp⟩⟩
theorem q_c {e : Expr} {d : D} {v : V} (hK : X.K = K) (h : PE X e (tC v)) (r : ∀ po F, Rep K po F d v) : QE X K W kx e (pC d) := ⟨hK, PE.imp h fun σ H Q ⟨po, G, F, env, k, st, hx, hp, hq⟩ => hq F H env (.val d) v (Same.refl F) st (r po F) hp⟩
theorem q_int {i j pos} (hK : X.K = K) : QE X K W kx (.Constant (.int i) j pos) (pC (.int i)) := q_c hK pe_int fun _ _ => .int i
theorem q_bl {b j pos} (hK : X.K = K) : QE X K W kx (.Constant (.bool b) j pos) (pC (.bl b)) := q_c hK pe_bl fun _ _ => .bl b
theorem q_non {j pos} (hK : X.K = K) : QE X K W kx (.Constant .none j pos) (pC .non) := q_c hK pe_non fun _ _ => .non
theorem q_str {x j pos} (hK : X.K = K) : QE X K W kx (.Constant (.str x) j pos) (pC (.str x)) := q_c hK pe_str fun _ _ => .str x
/-! ### operators -/
/-- an operation's reading by values, as values without a heap tell it -/
def Sim2 (K : PySem.W.Frag) (r : R2) (f : D → D → (RV → Prop) → Prop) : Prop := ∀ (po : Option Pt) (G F H : Hp) (σ : L2.St) (env : PEnv) (d e : D) (v u : V) (Q : VK) (k : RV → Prop), St K po G F H σ env → Rdb K po F H d v → Rdb K po F H e u → f d e k →
  (∀ (F' H' : Hp) (t : RV) (w : V), Same F F' → St K po G F' H' σ env → t.At K po G F' H' σ env w → k t → Q w H') → r v u H Q
def wD (r : RV) (env : PEnv) (φ : D → Prop) : Prop := ∃ d, r.d env = some d ∧ φ d
def pBin (f : D → D → (RV → Prop) → Prop) (pa pb : PTE) : PTE := fun env k => pa env fun r e1 => pb e1 fun s e2 => wD r e2 fun d => wD s e2 fun e => f d e fun t => k t e2
theorem lift2 {r : R2} {f : D → D → (RV → Prop) → Prop} {pa pb : PTE} (hs : Sim2 K r f) (σ : L2.St) (H : Hp) (Q : VK) (h : lift K W kx (pBin f pa pb) σ H Q) : tOp r (lift K W kx pa) (lift K W kx pb) σ H Q := by
  obtain ⟨po, G, F, env, k, st, hx, hp, hq⟩ := h
  refine ⟨po, G, F, env, _, st, hx, hp, fun F1 H1 e1 r1 v1 s1 st1 at1 k1 => ?_⟩
  obtain ⟨G2, sG, st2, back⟩ := RV.hold st1 at1
  refine ⟨po, G2, F1, e1, _, st2, hx.weak sG s1, k1, fun F2 H2 e2 r2 v2 s2 st3 at2 k2 => ?_⟩
  obtain ⟨st4, at3⟩ := back F2 H2 e2 s2 st3
  obtain ⟨d, ed, e, ee, z⟩ := k2
  exact hs po G F2 H2 σ e2 d e v1 v2 Q _ st4 (RV.rd st4 at3 ed) (RV.rd st4 (at2.weak sG) ee) z fun F' H' t w s st' a' kk => hq F' H' e2 t w ((s1.trans s2).trans s) st' a' kk
theorem q_op {op : Operator} {r : R2} {f : D → D → (RV → Prop) → Prop} {a b : Expr} {pa pb : PTE} {pos : Pos} (ho : OpR X (binaryOp op) r) (hs : Sim2 K r f) (ha : QE X K W kx a pa) (hb : QE X K W kx b pb) : QE X K W kx (.BinOp a op b pos) (pBin f pa pb) :=
  ⟨ha.hK, PE.imp (pe_op ho ha.pe hb.pe) (lift2 hs)⟩
theorem q_cmp {op : CmpOp} {r : R2} {f : D → D → (RV → Prop) → Prop} {a b : Expr} {pa pb : PTE} {pos : Pos} (ho : OpR X (compareOp op) r) (hs : Sim2 K r f) (ha : QE X K W kx a pa) (hb : QE X K W kx b pb) (hm : behindInMarks op b = false) : QE X K W kx (.Compare a [op] [b] pos) (pBin f pa pb) :=
  ⟨ha.hK, PE.imp (pe_cmpR ho ha.pe hb.pe hm) (lift2 hs)⟩
/-- a value that is a bool, as a test -/
def pTest (p : PTE) : PTT := fun env k => p env fun r e1 => ∃ b, r.d e1 = some (.bl b) ∧ k b e1
theorem Rdb.bl {po : Option Pt} {F H : Hp} {b : Bool} {v : V} (h : Rdb K po F H (.bl b) v) : v = .bl b := by
  rcases h with h | ⟨a, o, _, _, h⟩
  · cases h; rfl
  · cases h
theorem Rdb.int {po : Option Pt} {F H : Hp} {b : Int} {v : V} (h : Rdb K po F H (.int b) v) : v = .int b := by
  rcases h with h | ⟨a, o, _, _, h⟩
  · cases h; rfl
  · cases h
theorem Rdb.str {po : Option Pt} {F H : Hp} {b : Str} {v : V} (h : Rdb K po F H (.str b) v) : v = .str b := by
  rcases h with h | ⟨a, o, _, _, h⟩
  · cases h; rfl
  · cases h
theorem Rdb.non {po : Option Pt} {F H : Hp} {v : V} (h : Rdb K po F H .non v) : v = .non := by
  rcases h with h | ⟨a, o, _, _, h⟩
  · cases h; rfl
  · cases h
theorem Rdb.ty {po : Option Pt} {F H : Hp} {n : String} {v : V} (h : Rdb K po F H (.ty n) v) : v = .ty n := by
  rcases h with h | ⟨a, o, _, _, h⟩
  · cases h; rfl
  · cases h
theorem Rdb.ad {po : Option Pt} {F H : Hp} {n : Addr} {v : V} (h : Rdb K po F H (.ad n) v) : v = .ref n := by
  rcases h with h | ⟨a, o, _, _, h⟩
  · cases h; rfl
  · cases h
theorem Rdb.tup {po : Option Pt} {F H : Hp} {ds : List D} {v : V} (s : Same F H) (h : Rdb K po F H (.tup ds) v) : ∃ a xs, v = .ref a ∧ F a = some (.tup xs) ∧ SqT K H a xs ∧ Reps K po F ds xs := by
  rcases h with h | ⟨a, o, _, _, h⟩
  · cases h with
    | tup h1 h2 => exact ⟨_, _, rfl, h1, SqT.lt (s _ _ h1), h2⟩
  · cases h
theorem Rdb.lst {po : Option Pt} {F H : Hp} {ds : List D} {v : V} (s : Same F H) (h : Rdb K po F H (.lst ds) v) : ∃ a xs, v = .ref a ∧ H a = some (.lst xs) ∧ Reps K po F ds xs := by
  rcases h with h | ⟨a, o, rfl, e, h⟩
  · cases h with
    | lst h1 h2 => exact ⟨_, _, rfl, s _ _ h1, h2⟩
  · cases h with
    | lst r => exact ⟨_, _, rfl, e, r⟩
theorem RV.val_of {po : Option Pt} {G F H : Hp} {σ : L2.St} {env : PEnv} {r : RV} {v : V} {d : D} (st : St K po G F H σ env) (w : r.At K po G F H σ env v) (e : r.d env = some d) : Rdb K po F H d v := RV.rd st w e
theorem liftTest {p : PTE} (σ : L2.St) (H : Hp) (Q : Bool → Hp → Prop) (h : liftT K W kx (pTest p) σ H Q) : tTest (lift K W kx p) σ H Q := by
  obtain ⟨po, G, F, env, k, st, hx, hp, hq⟩ := h
  refine ⟨po, G, F, env, _, st, hx, hp, fun F1 H1 e1 r1 v1 s1 st1 at1 k1 => ?_⟩
  obtain ⟨b, eb, kb⟩ := k1
  exact ⟨b, (RV.rd st1 at1 eb).bl, hq F1 H1 e1 b s1 st1 kb⟩
theorem qt_cmp {op : CmpOp} {r : R2} {f : D → D → (RV → Prop) → Prop} {a b : Expr} {pa pb : PTE} {pos : Pos} (ho : OpR X (compareOp op) r) (hs : Sim2 K r f) (ha : QE X K W kx a pa) (hb : QE X K W kx b pb) (hm : behindInMarks op b = false) : QT X K W kx (.Compare a [op] [b] pos) (pTest (pBin f pa pb)) := by
  refine ⟨ha.hK, PT.imp (pt_cmpR ho ha.pe hb.pe hm) fun σ H Q h => ?_⟩
  have h2 := liftTest σ H Q h
  exact lift2 hs σ H _ h2
theorem qt_val {e : Expr} {p : PTE} (h : QE X K W kx e p) (he : ∀ whole, isTrue e X.env whole = (do let v ← whole; standAt e.pos; holding [v] (truthy v)) := by intro _; rfl) : QT X K W kx e (pTest p) :=
  ⟨h.hK, PT.imp (pt_val h.pe he) liftTest⟩
/-! ### and, or, not, if -/
def pAndT (p q : PTT) : PTT := fun env k => p env fun b e1 => if b = true then q e1 k else k false e1
def pOrT (p q : PTT) : PTT := fun env k => p env fun b e1 => if b = true then k true e1 else q e1 k
def pNotT (p : PTT) : PTT := fun env k => p env fun b e1 => k (!b) e1
theorem QW.qt {e : Expr} {p : PTT} (h : QW X K W kx e p) : QT X K W kx e p := ⟨h.hK, h.pw.pt⟩
theorem qw_and1 {a : Expr} {p : PTT} {pos : Pos} (h : QT X K W kx a p) : QW X K W kx (.BoolOp .And [a] pos) p := ⟨h.hK, pw_and1 h.pt⟩
theorem qw_or1 {a : Expr} {p : PTT} {pos : Pos} (h : QT X K W kx a p) : QW X K W kx (.BoolOp .Or [a] pos) p := ⟨h.hK, pw_or1 h.pt⟩
theorem qw_and {a b : Expr} {rest : List Expr} {p q : PTT} {pos : Pos} (ha : QT X K W kx a p) (hb : QW X K W kx (.BoolOp .And (b :: rest) pos) q) : QW X K W kx (.BoolOp .And (a :: b :: rest) pos) (pAndT p q) :=
  ⟨ha.hK, PW.imp (pw_and ha.pt hb.pw) fun σ H Q ⟨po, G, F, env, k, st, hx, hp, hq⟩ => ⟨po, G, F, env, _, st, hx, hp, fun F1 H1 e1 b s1 st1 k1 => by
    cases b with
    | true => exact ⟨po, G, F1, e1, k, st1, hx.weak (Same.refl G) s1, k1, fun F2 H2 e2 b s2 st2 k2 => hq F2 H2 e2 b (s1.trans s2) st2 k2⟩
    | false => exact hq F1 H1 e1 _ s1 st1 k1⟩⟩
theorem qw_or {a b : Expr} {rest : List Expr} {p q : PTT} {pos : Pos} (ha : QT X K W kx a p) (hb : QW X K W kx (.BoolOp .Or (b :: rest) pos) q) : QW X K W kx (.BoolOp .Or (a :: b :: rest) pos) (pOrT p q) :=
  ⟨ha.hK, PW.imp (pw_or ha.pt hb.pw) fun σ H Q ⟨po, G, F, env, k, st, hx, hp, hq⟩ => ⟨po, G, F, env, _, st, hx, hp, fun F1 H1 e1 b s1 st1 k1 => by
    cases b with
    | true => exact hq F1 H1 e1 _ s1 st1 k1
    | false => exact ⟨po, G, F1, e1, k, st1, hx.weak (Same.refl G) s1, k1, fun F2 H2 e2 b s2 st2 k2 => hq F2 H2 e2 b (s1.trans s2) st2 k2⟩⟩⟩
theorem qt_not {a : Expr} {p : PTT} {pos : Pos} (ha : QT X K W kx a p) : QT X K W kx (.UnaryOp .Not a pos) (pNotT p) :=
  ⟨ha.hK, PT.imp (pt_not ha.pt) fun σ H Q ⟨po, G, F, env, k, st, hx, hp, hq⟩ => ⟨po, G, F, env, _, st, hx, hp, fun F1 H1 e1 b s1 st1 k1 => hq F1 H1 e1 _ s1 st1 k1⟩⟩
/-- and, or, not as values: all but the last a bool -/
def pAndV (p q : PTE) : PTE := fun env k => p env fun r e1 => ∃ b, r.d e1 = some (.bl b) ∧ if b = true then q e1 k else k (.val (.bl false)) e1
def pOrV (p q : PTE) : PTE := fun env k => p env fun r e1 => ∃ b, r.d e1 = some (.bl b) ∧ if b = true then k (.val (.bl true)) e1 else q e1 k
def pNotV (p : PTE) : PTE := fun env k => p env fun r e1 => ∃ b, r.d e1 = some (.bl b) ∧ k (.val (.bl (!b))) e1
theorem q_one {op : BoolOp} {a : Expr} {p : PTE} {pos : Pos} (h : QE X K W kx a p) : QE X K W kx (.BoolOp op [a] pos) p := ⟨h.hK, pe_one h.pe⟩
theorem q_and {a b : Expr} {rest : List Expr} {p q : PTE} {pos : Pos} (ha : QE X K W kx a p) (hb : QE X K W kx (.BoolOp .And (b :: rest) pos) q) : QE X K W kx (.BoolOp .And (a :: b :: rest) pos) (pAndV p q) :=
  ⟨ha.hK, PE.imp (pe_and ha.pe hb.pe) fun σ H Q ⟨po, G, F, env, k, st, hx, hp, hq⟩ => ⟨po, G, F, env, _, st, hx, hp, fun F1 H1 e1 r v s1 st1 at1 k1 => by
    obtain ⟨b, eb, k1⟩ := k1
    refine ⟨b, (RV.rd st1 at1 eb).bl, ?_⟩
    cases b with
    | true => exact ⟨po, G, F1, e1, k, st1, hx.weak (Same.refl G) s1, k1, fun F2 H2 e2 r v s2 st2 at2 k2 => hq F2 H2 e2 r v (s1.trans s2) st2 at2 k2⟩
    | false => exact hq F1 H1 e1 (.val (.bl false)) _ s1 st1 (Rep.bl false) k1⟩⟩
theorem q_or {a b : Expr} {rest : List Expr} {p q : PTE} {pos : Pos} (ha : QE X K W kx a p) (hb : QE X K W kx (.BoolOp .Or (b :: rest) pos) q) : QE X K W kx (.BoolOp .Or (a :: b :: rest) pos) (pOrV p q) :=
  ⟨ha.hK, PE.imp (pe_or ha.pe hb.pe) fun σ H Q ⟨po, G, F, env, k, st, hx, hp, hq⟩ => ⟨po, G, F, env, _, st, hx, hp, fun F1 H1 e1 r v s1 st1 at1 k1 => by
    obtain ⟨b, eb, k1⟩ := k1
    refine ⟨b, (RV.rd st1 at1 eb).bl, ?_⟩
    cases b with
    | true => exact hq F1 H1 e1 (.val (.bl true)) _ s1 st1 (Rep.bl true) k1
    | false => exact ⟨po, G, F1, e1, k, st1, hx.weak (Same.refl G) s1, k1, fun F2 H2 e2 r v s2 st2 at2 k2 => hq F2 H2 e2 r v (s1.trans s2) st2 at2 k2⟩⟩⟩
theorem q_not {a : Expr} {p : PTE} {pos : Pos} (ha : QE X K W kx a p) : QE X K W kx (.UnaryOp .Not a pos) (pNotV p) :=
  ⟨ha.hK, PE.imp (pe_not ha.pe) fun σ H Q ⟨po, G, F, env, k, st, hx, hp, hq⟩ => ⟨po, G, F, env, _, st, hx, hp, fun F1 H1 e1 r v s1 st1 at1 k1 => by
    obtain ⟨b, eb, k1⟩ := k1
    exact ⟨b, (RV.rd st1 at1 eb).bl, hq F1 H1 e1 (.val (.bl (!b))) _ s1 st1 (Rep.bl _) k1⟩⟩⟩
def pIfE (t : PTT) (p q : PTE) : PTE := fun env k => t env fun b e1 => if b = true then p e1 k else q e1 k
theorem q_ifE {c a b : Expr} {t : PTT} {p q : PTE} {pos : Pos} (hc : QT X K W kx c t) (ha : QE X K W kx a p) (hb : QE X K W kx b q) : QE X K W kx (.IfExp c a b pos) (pIfE t p q) :=
  ⟨ha.hK, PE.imp (pe_ifExp hc.pt ha.pe hb.pe) fun σ H Q ⟨po, G, F, env, k, st, hx, hp, hq⟩ => ⟨po, G, F, env, _, st, hx, hp, fun F1 H1 e1 b s1 st1 k1 => by
    cases b with
    | true => exact ⟨po, G, F1, e1, k, st1, hx.weak (Same.refl G) s1, k1, fun F2 H2 e2 r v s2 st2 at2 k2 => hq F2 H2 e2 r v (s1.trans s2) st2 at2 k2⟩
    | false => exact ⟨po, G, F1, e1, k, st1, hx.weak (Same.refl G) s1, k1, fun F2 H2 e2 r v s2 st2 at2 k2 => hq F2 H2 e2 r v (s1.trans s2) st2 at2 k2⟩⟩⟩
/-! ### arguments -/
def pANil : PTA := fun env k => k [] env
/-- a new object is frozen at once -/
def rvA : RV → RV
  | .tmp d => .val d
  | r => r
def pACons (p : PTE) (q : PTA) : PTA := fun env k => p env fun r e1 => q e1 fun rs e2 => k (rvA r :: rs) e2
theorem RvA.mono {po : Option Pt} {F F' : Hp} {σ : L2.St} {rs : List RV} {vs : List V} (h : RvA K po F σ rs vs) (s : Same F F') : RvA K po F' σ rs vs := by
  induction h with
  | nil => exact .nil
  | val r _ ih => exact .val (r.mono s) ih
  | nm e _ ih => exact .nm e ih
theorem qa_nil (hK : X.K = K) : QA X K W kx [] pANil := ⟨hK, PA.imp pa_nil fun σ H Q ⟨po, G, F, env, k, st, hx, hp, hq⟩ => hq F H env [] [] (Same.refl F) st .nil hp⟩
theorem qa_cons {e : Expr} {es : List Expr} {p : PTE} {q : PTA} (he : QE X K W kx e p) (hr : QA X K W kx es q) (hs : starEach (e :: es) X.env = (false, eval e X.env) :: starEach es X.env := by rfl) : QA X K W kx (e :: es) (pACons p q) := by
  refine ⟨he.hK, PA.imp (pa_cons he.pe hr.pa hs) fun σ H Q ⟨po, G, F, env, k, st, hx, hp, hq⟩ => ⟨po, G, F, env, _, st, hx, hp, fun F1 H1 e1 r v s1 st1 at1 k1 => ?_⟩⟩
  have go : ∀ (F2 : Hp), Same F1 F2 → St K po G F2 H1 σ e1 → (∀ F3, Same F2 F3 → ∀ rs vs, RvA K po F3 σ rs vs → RvA K po F3 σ (rvA r :: rs) (v :: vs)) → liftA K W kx q σ H1 fun xs H2 => Q (v :: xs) H2 := fun F2 s2 st2 h2 =>
    ⟨po, G, F2, e1, _, st2, hx.weak (Same.refl G) (s1.trans s2), k1, fun F3 H3 e3 rs vs s3 st3 a3 k3 => hq F3 H3 e3 _ _ ((s1.trans s2).trans s3) st3 (h2 F3 s3 rs vs a3) k3⟩
  cases r with
  | val d => exact go F1 (Same.refl F1) st1 fun F3 s3 rs vs a => .val (Rep.mono s3 at1) a
  | nm i => exact go F1 (Same.refl F1) st1 fun F3 s3 rs vs a => .nm at1 a
  | tmp d =>
    obtain ⟨a, o, rfl, w, n⟩ := at1
    obtain ⟨h1, h2, h3⟩ := st1.frzT w n
    exact go _ h2 h1 fun F3 s3 rs vs a => .val (Rep.mono s3 h3) a
/-- the values of arguments -/
def dsO (env : PEnv) : List RV → Option (List D)
  | [] => some []
  | r :: rs => match r.d env, dsO env rs with
    | some d, some ds => some (d :: ds)
    | _, _ => none
/-- the slots when names among them are frozen -/
def fzs : List RV → PEnv → PEnv
  | [], env => env
  | r :: rs, env => fzs rs (r.fz env)
/-- .. read -/
def Rdbs (K : PySem.W.Frag) (po : Option Pt) (F H : Hp) : List D → List V → Prop
  | [], vs => vs = []
  | d :: ds, vs => ∃ v us, vs = v :: us ∧ Rdb K po F H d v ∧ Rdbs K po F H ds us
theorem RvA.rd {po : Option Pt} {G F H : Hp} {σ : L2.St} {env : PEnv} {rs : List RV} {vs : List V} (st : St K po G F H σ env) (h : RvA K po F σ rs vs) : ∀ {ds : List D}, dsO env rs = some ds → Rdbs K po F H ds vs := by
  induction h with
  | nil => intro ds e; cases e; rfl
  | @val d v rs vs r _ ih =>
    intro ds e
    unfold dsO at e
    cases q : dsO env rs with
    | none => rw [q] at e; cases e
    | some ds' =>
      rw [q] at e
      cases e
      exact ⟨_, _, rfl, .inl r, ih q⟩
  | @nm i v rs vs r _ ih =>
    intro ds e
    unfold dsO at e
    cases q1 : RV.d env (.nm i) with
    | none => rw [q1] at e; cases e
    | some d =>
      rw [q1] at e
      cases q : dsO env rs with
      | none => rw [q] at e; cases e
      | some ds' =>
        rw [q] at e
        cases e
        exact ⟨_, _, rfl, RV.rd (r := .nm i) st r q1, ih q⟩
/-- freezing one name keeps what others are worth -/
theorem RV.d_fz {env : PEnv} {r s : RV} {d : D} (e : s.d env = some d) : s.d (r.fz env) = some d := by
  cases r with
  | val _ => exact e
  | tmp _ => exact e
  | nm i =>
    unfold RV.fz
    dsimp only
    cases q : env[i]? with
    | none => exact e
    | some sl =>
      cases sl with
      | no => exact e
      | val _ => exact e
      | own d' =>
        dsimp only
        cases s with
        | val _ => exact e
        | tmp _ => exact e
        | nm j =>
          unfold RV.d at e ⊢
          dsimp only at e ⊢
          by_cases c : i = j
          · subst c
            rw [q] at e
            have il : i < env.length := (List.getElem?_eq_some_iff.mp q).1
            rw [List.getElem?_set_self il]
            exact e
          · rw [List.getElem?_set_ne c]
            exact e
theorem dsO_fz {env : PEnv} {r : RV} : ∀ {rs : List RV} {ds : List D}, dsO env rs = some ds → dsO (r.fz env) rs = some ds
  | [], _, e => e
  | s :: rs, ds, e => by
    unfold dsO at e ⊢
    cases q1 : s.d env with
    | none => rw [q1] at e; cases e
    | some d =>
      rw [q1] at e
      cases q : dsO env rs with
      | none => rw [q] at e; cases e
      | some ds' =>
        rw [q] at e
        rw [RV.d_fz q1, dsO_fz q]
        exact e
theorem RvA.frz {po : Option Pt} {G H : Hp} {σ : L2.St} : ∀ {rs : List RV} {F : Hp} {env : PEnv} {vs : List V} {ds : List D}, St K po G F H σ env → RvA K po F σ rs vs → dsO env rs = some ds →
    ∃ F', Same F F' ∧ St K po G F' H σ (fzs rs env) ∧ Reps K po F' ds vs
  | [], F, env, vs, ds, st, h, e => by
    cases h
    cases e
    exact ⟨F, Same.refl F, st, .nil⟩
  | r :: rs, F, env, vs, ds, st, h, e => by
    unfold dsO at e
    cases q1 : r.d env with
    | none => rw [q1] at e; cases e
    | some d =>
      rw [q1] at e
      cases q : dsO env rs with
      | none => rw [q] at e; cases e
      | some ds' =>
        rw [q] at e
        cases e
        have one : ∀ {v : V}, r.At K po G F H σ env v → ∀ {vs : List V}, RvA K po F σ rs vs → ∃ F', Same F F' ∧ St K po G F' H σ (fzs rs (r.fz env)) ∧ Reps K po F' (d :: ds') (v :: vs) := fun {v} a {vs} h => by
          obtain ⟨F1, s1, st1, r1⟩ := RV.frz st a q1
          obtain ⟨F2, s2, st2, r2⟩ := RvA.frz st1 (h.mono s1) (dsO_fz q)
          exact ⟨F2, s1.trans s2, st2, .cons (r1.mono s2) r2⟩
        cases h with
        | val a h => exact one a h
        | nm a h => exact one (v := _) a h
/-! ### displays -/
def pTup (p : PTA) : PTE := fun env k => p env fun rs e1 => ∃ ds, dsO e1 rs = some ds ∧ ds.length ≤ sizeLine ∧ k (.val (.tup ds)) (fzs rs e1)
def pLst (p : PTA) : PTE := fun env k => p env fun rs e1 => ∃ ds, dsO e1 rs = some ds ∧ ds.length ≤ sizeLine ∧ k (.tmp (.lst ds)) (fzs rs e1)
theorem q_tup {es : List Expr} {p : PTA} {x1 pos} (h : QA X K W kx es p) : QE X K W kx (.Tuple es x1 pos) (pTup p) := by
  refine ⟨h.hK, PE.imp (pe_tup h.pa) fun σ H Q ⟨po, G, F, env, k, st, hx, hp, hq⟩ => ⟨po, G, F, env, _, st, hx, hp, fun F1 H1 e1 rs vs s1 st1 a1 k1 => ?_⟩⟩
  obtain ⟨ds, ed, hl, kk⟩ := k1
  obtain ⟨F2, s2, st2, r2⟩ := RvA.frz st1 a1 ed
  refine ⟨by rw [← r2.len]; exact hl, fun p np => ?_⟩
  have nf := st2.a.fh.free np
  have s3 : Same F2 (upd F2 p (.tup vs)) := Same.new nf
  exact hq _ _ _ (.val (.tup ds)) _ ((s1.trans s2).trans s3) (st2.newF np) (Rep.tup upd_same (r2.mono s3)) kk
theorem q_lst {es : List Expr} {p : PTA} {pos} (h : QA X K W kx es p) : QE X K W kx (.List es pos) (pLst p) := by
  refine ⟨h.hK, PE.imp (pe_lst h.pa) fun σ H Q ⟨po, G, F, env, k, st, hx, hp, hq⟩ => ⟨po, G, F, env, _, st, hx, hp, fun F1 H1 e1 rs vs s1 st1 a1 k1 => ?_⟩⟩
  obtain ⟨ds, ed, hl, kk⟩ := k1
  obtain ⟨F2, s2, st2, r2⟩ := RvA.frz st1 a1 ed
  refine ⟨by rw [← r2.len]; exact hl, fun p np => ?_⟩
  obtain ⟨st3, a3⟩ := st2.newT np (RepO.lst r2)
  exact hq _ _ _ _ _ (s1.trans s2) st3 a3 kk
end
end Pl

/-! statements over values -/
namespace Pl
open PySem L2 My

structure PEnds where
  nx : PEnv → Prop
  rt : RV → PEnv → Prop
  bk : PEnv → Prop := fun _ => False
  ct : PEnv → Prop := fun _ => False
abbrev PTS := PEnds → PEnv → Prop
abbrev PTG := RV → PEnv → (PEnv → Prop) → Prop
abbrev PTGs := List D → PEnv → (PEnv → Prop) → Prop
abbrev PTI := PEnv → (List D → PEnv → Prop) → Prop
/-- what a def gives -/
def ResR (K : PySem.W.Frag) (po : Option Pt) (G F H : Hp) : RV → V → Prop
  | .val d, v => Rep K po F d v
  | .tmp d, v => ∃ a o, v = .ref a ∧ OwnAt K po G F H a o d
  | .nm _, _ => False
structure EndsR (K : PySem.W.Frag) (po : Option Pt) (G F : Hp) (pd : PEnds) (D : Ends) : Prop where
  nx : ∀ (F' H' : Hp) (σ' : L2.St) (env' : PEnv), Same F F' → St K po G F' H' σ' env' → pd.nx env' → D.nx σ' H'
  bk : ∀ (F' H' : Hp) (σ' : L2.St) (env' : PEnv), Same F F' → St K po G F' H' σ' env' → pd.bk env' → D.bk σ' H'
  ct : ∀ (F' H' : Hp) (σ' : L2.St) (env' : PEnv), Same F F' → St K po G F' H' σ' env' → pd.ct env' → D.ct σ' H'
  rt : ∀ (F' H' : Hp) (σ' : L2.St) (env' : PEnv) (r : RV) (v : V), Same F F' → St K po G F' H' σ' env' → r.At K po G F' H' σ' env' v → pd.rt r env' → D.rt v H'
def liftS (K : PySem.W.Frag) (W : WX) (kx : KX) (p : PTS) : TS := fun D σ H => ∃ (po : Option Pt) (G F : Hp) (env : PEnv) (pd : PEnds), St K po G F H σ env ∧ XRel K po G F W kx ∧ EndsR K po G F pd D ∧ p pd env
/-- slots that are not in the list are as they were -/
structure Ot (is : List Nat) (σ σ' : L2.St) : Prop where
  len : σ'.length = σ.length
  get : ∀ j : Nat, j ∉ is → σ'[j]? = σ[j]?
def liftG (K : PySem.W.Frag) (is : List Nat) (p : PTG) : TG := fun v σ H Q => ∃ (po : Option Pt) (G F : Hp) (env : PEnv) (r : RV) (k : PEnv → Prop), St K po G F H σ env ∧ r.At K po G F H σ env v ∧ p r env k ∧
  ∀ (F' H' : Hp) (σ' : L2.St) (env' : PEnv), Same F F' → St K po G F' H' σ' env' → Ot is σ σ' → k env' → Q σ' H'
def liftGs (K : PySem.W.Frag) (is : List Nat) (p : PTGs) : TGs := fun vs σ H Q => ∃ (po : Option Pt) (G F : Hp) (env : PEnv) (ds : List D) (k : PEnv → Prop), St K po G F H σ env ∧ Reps K po F ds vs ∧ p ds env k ∧
  ∀ (F' H' : Hp) (σ' : L2.St) (env' : PEnv), Same F F' → St K po G F' H' σ' env' → Ot is σ σ' → k env' → Q σ' H'
/-- a walk over such values -/
structure Wk (K : PySem.W.Frag) (po : Option Pt) (F : Hp) (J : It) (ds : List D) : Prop where
  go : ∀ (G F' H' : Hp) (σ : L2.St) (env : PEnv) (i : Nat), Same F F' → St K po G F' H' σ env → i < ds.length → J.go i H'
  yl : ∀ (G F' H' : Hp) (σ : L2.St) (env : PEnv) (i : Nat) (d : D) (x : V) (H'' : Hp), Same F F' → St K po G F' H' σ env → ds[i]? = some d → J.yld i H' x H'' → ∃ F'', Same F' F'' ∧ St K po G F'' H'' σ env ∧ Rep K po F'' d x
  st : ∀ (G F' H' : Hp) (σ : L2.St) (env : PEnv), Same F F' → St K po G F' H' σ env → J.stop ds.length H'
theorem Wk.mono {K : PySem.W.Frag} {po : Option Pt} {F F1 : Hp} {J : It} {ds : List D} (h : Wk K po F J ds) (s : Same F F1) : Wk K po F1 J ds :=
  ⟨fun G F' H' σ env i s' => h.go G F' H' σ env i (s.trans s'), fun G F' H' σ env i d x H'' s' => h.yl G F' H' σ env i d x H'' (s.trans s'), fun G F' H' σ env s' => h.st G F' H' σ env (s.trans s')⟩
def liftI (K : PySem.W.Frag) (W : WX) (kx : KX) (p : PTI) : TI := fun σ H R => ∃ (po : Option Pt) (G F : Hp) (env : PEnv) (k : List D → PEnv → Prop), St K po G F H σ env ∧ XRel K po G F W kx ∧ p env k ∧
  ∀ (F' H' : Hp) (env' : PEnv) (J : It) (ds : List D), Same F F' → St K po G F' H' σ env' → Wk K po F' J ds → k ds env' → R J H'
structure QS (X : Cx) (K : PySem.W.Frag) (W : WX) (kx : KX) (s : Stmt) (p : PTS) : Prop where
  hK : X.K = K
  ps : PS X s (liftS K W kx p)
structure QSs (X : Cx) (K : PySem.W.Frag) (W : WX) (kx : KX) (s : List Stmt) (p : PTS) : Prop where
  hK : X.K = K
  ps : PSs X s (liftS K W kx p)
structure QG (X : Cx) (K : PySem.W.Frag) (is : List Nat) (e : Expr) (p : PTG) : Prop where
  hK : X.K = K
  pg : PG X e (liftG K is p)
structure QGs (X : Cx) (K : PySem.W.Frag) (is : List Nat) (es : List Expr) (p : PTGs) : Prop where
  hK : X.K = K
  pgs : PGs X es (liftGs K is p)
structure QI (X : Cx) (K : PySem.W.Frag) (W : WX) (kx : KX) (tg iter : Expr) (p : PTI) : Prop where
  hK : X.K = K
  pi : PI X tg iter (liftI K W kx p)
section
variable {X : Cx} {K : PySem.W.Frag} {W : WX} {kx : KX}
theorem PS.imp {e : Stmt} {t t' : TS} (h : PS X e t) (i : ∀ D σ H, t' D σ H → t D σ H) : PS X e t' := ⟨fun pins s σ H D I q => h.run pins s σ H D I (i _ _ _ q)⟩
theorem PSs.imp {e : List Stmt} {t t' : TS} (h : PSs X e t) (i : ∀ D σ H, t' D σ H → t D σ H) : PSs X e t' := ⟨fun pins s σ H D I q => h.run pins s σ H D I (i _ _ _ q)⟩
theorem PG.imp {e : Expr} {t t' : TG} (h : PG X e t) (i : ∀ v σ H Q, t' v σ H Q → t v σ H Q) : PG X e t' := ⟨fun pins s σ H v u Q I r q => h.run pins s σ H v u Q I r (i _ _ _ _ q)⟩
theorem PGs.imp {e : List Expr} {t t' : TGs} (h : PGs X e t) (i : ∀ v σ H Q, t' v σ H Q → t v σ H Q) : PGs X e t' := ⟨fun pins s σ H v u Q I r q => h.run pins s σ H v u Q I r (i _ _ _ _ q)⟩
theorem PI.imp {tg e : Expr} {t t' : TI} (h : PI X tg e t) (i : ∀ σ H R, t' σ H R → t σ H R) : PI X tg e t' := ⟨fun pins s σ H R I q => h.run pins s σ H R I (i _ _ _ q)⟩
theorem EndsR.mono {po : Option Pt} {G F F1 : Hp} {pd : PEnds} {D : Ends} (h : EndsR K po G F pd D) (s : Same F F1) : EndsR K po G F1 pd D :=
  ⟨fun F' H' σ' env' s' => h.nx F' H' σ' env' (s.trans s'), fun F' H' σ' env' s' => h.bk F' H' σ' env' (s.trans s'), fun F' H' σ' env' s' => h.ct F' H' σ' env' (s.trans s'), fun F' H' σ' env' r v s' => h.rt F' H' σ' env' r v (s.trans s')⟩
/-! ### blocks -/
def pNext : PTS := fun pd env => pd.nx env
def pSeq (p q : PTS) : PTS := fun pd env => p { pd with nx := q pd } env
def pBreak : PTS := fun pd env => pd.bk env
def pCont : PTS := fun pd env => pd.ct env
theorem qss_nil (hK : X.K = K) : QSs X K W kx [] pNext := ⟨hK, PSs.imp pss_nil fun D σ H ⟨po, G, F, env, pd, st, hx, he, hp⟩ => he.nx F H σ env (Same.refl F) st hp⟩
theorem qss_cons {s : Stmt} {ss : List Stmt} {p q : PTS} (h1 : QS X K W kx s p) (h2 : QSs X K W kx ss q) : QSs X K W kx (s :: ss) (pSeq p q) :=
  ⟨h1.hK, PSs.imp (pss_cons h1.ps h2.ps) fun D σ H ⟨po, G, F, env, pd, st, hx, he, hp⟩ => ⟨po, G, F, env, { pd with nx := q pd }, st, hx,
    ⟨fun F' H' σ' env' s' st' hn => ⟨po, G, F', env', pd, st', hx.weak (Same.refl G) s', he.mono s', hn⟩, he.bk, he.ct, he.rt⟩, hp⟩⟩
theorem qss_one {s : Stmt} {p : PTS} (h1 : QS X K W kx s p) : QSs X K W kx [s] p := ⟨h1.hK, pss_one h1.ps⟩
theorem qs_pass {pos} (hK : X.K = K) : QS X K W kx (.Pass pos) pNext := ⟨hK, PS.imp ps_pass fun D σ H ⟨po, G, F, env, pd, st, hx, he, hp⟩ => he.nx F H σ env (Same.refl F) st hp⟩
theorem qs_break {pos} (hK : X.K = K) : QS X K W kx (.Break pos) pBreak := ⟨hK, PS.imp ps_break fun D σ H ⟨po, G, F, env, pd, st, hx, he, hp⟩ => he.bk F H σ env (Same.refl F) st hp⟩
theorem qs_continue {pos} (hK : X.K = K) : QS X K W kx (.Continue pos) pCont := ⟨hK, PS.imp ps_continue fun D σ H ⟨po, G, F, env, pd, st, hx, he, hp⟩ => he.ct F H σ env (Same.refl F) st hp⟩
theorem qs_doc {x j pos pos'} (hK : X.K = K) : QS X K W kx (.Expr (.Constant (.str x) j pos) pos') pNext := ⟨hK, PS.imp ps_doc fun D σ H ⟨po, G, F, env, pd, st, hx, he, hp⟩ => he.nx F H σ env (Same.refl F) st hp⟩
def pDrop (p : PTE) : PTS := fun pd env => p env fun _ e1 => pd.nx e1
theorem qs_expr {e : Expr} {p : PTE} {pos : Pos} (h : QE X K W kx e p) (hs : swapsWith e none pos.line X.env = pure false := by rfl) : QS X K W kx (.Expr e pos) (pDrop p) :=
  ⟨h.hK, PS.imp (ps_expr h.pe hs) fun D σ H ⟨po, G, F, env, pd, st, hx, he, hp⟩ => ⟨po, G, F, env, _, st, hx, hp, fun F1 H1 e1 r v s1 st1 a1 k1 => he.nx F1 H1 σ e1 s1 st1 k1⟩⟩
/-- what is returned -/
def RV.out (env : PEnv) : RV → Option RV
  | .val d => some (.val d)
  | .tmp d => some (.tmp d)
  | .nm i => match env[i]? with
    | some (.own d) => some (.tmp d)
    | some (.val d) => some (.val d)
    | _ => none
theorem RV.res {po : Option Pt} {G F H : Hp} {σ : L2.St} {env : PEnv} {r s : RV} {v : V} (st : St K po G F H σ env) (h : r.At K po G F H σ env v) (e : r.out env = some s) : ResR K po G F H s v := by
  cases r with
  | val d => cases e; exact h
  | tmp d =>
    cases e
    obtain ⟨a, o, e, w, _⟩ := h
    exact ⟨a, o, e, w⟩
  | nm i =>
    have h : σ[i]? = some (some v) := h
    unfold RV.out at e
    dsimp only at e
    cases q : env[i]? with
    | none => rw [q] at e; cases e
    | some sl =>
      rw [q] at e
      cases sl with
      | no => cases e
      | val d =>
        cases e
        obtain ⟨u, h1, h2⟩ := st.vl i d q
        rw [h] at h1
        cases h1
        exact h2
      | own d =>
        cases e
        obtain ⟨a, o, h1, h2⟩ := st.ow i d q
        rw [h] at h1
        cases h1
        exact ⟨a, o, rfl, h2⟩
def pRet (p : PTE) : PTS := fun pd env => p env fun r e1 => pd.rt r e1
theorem qs_ret {e : Expr} {p : PTE} {pos : Pos} (h : QE X K W kx e p) : QS X K W kx (.Return (some e) pos) (pRet p) :=
  ⟨h.hK, PS.imp (ps_ret h.pe) fun D σ H ⟨po, G, F, env, pd, st, hx, he, hp⟩ => ⟨po, G, F, env, _, st, hx, hp, fun F1 H1 e1 r v s1 st1 a1 k1 => he.rt F1 H1 σ e1 r v s1 st1 a1 k1⟩⟩
def pRetN : PTS := fun pd env => pd.rt (.val .non) env
theorem qs_retN {pos : Pos} (hK : X.K = K) : QS X K W kx (.Return none pos) pRetN := ⟨hK, PS.imp ps_retN fun D σ H ⟨po, G, F, env, pd, st, hx, he, hp⟩ => he.rt F H σ env (.val .non) _ (Same.refl F) st Rep.non hp⟩
def pIfS (t : PTT) (p q : PTS) : PTS := fun pd env => t env fun b e1 => if b = true then p pd e1 else q pd e1
theorem qs_if {c : Expr} {a b : List Stmt} {t : PTT} {p q : PTS} {pos : Pos} (hc : QT X K W kx c t) (ha : QSs X K W kx a p) (hb : QSs X K W kx b q) : QS X K W kx (.If c a b pos) (pIfS t p q) :=
  ⟨hc.hK, PS.imp (ps_if hc.pt ha.ps hb.ps) fun D σ H ⟨po, G, F, env, pd, st, hx, he, hp⟩ => ⟨po, G, F, env, _, st, hx, hp, fun F1 H1 e1 b s1 st1 k1 => by
    cases b with
    | true => exact ⟨po, G, F1, e1, pd, st1, hx.weak (Same.refl G) s1, he.mono s1, k1⟩
    | false => exact ⟨po, G, F1, e1, pd, st1, hx.weak (Same.refl G) s1, he.mono s1, k1⟩⟩⟩
/-- behind an if the ways are joined: C says what holds there -/
def pCut (p q : PTS) : PTS := fun pd env => ∃ C : PEnv → Prop, p { pd with nx := C } env ∧ ∀ e1, C e1 → q pd e1
theorem qss_cut {s : Stmt} {ss : List Stmt} {p q : PTS} (h1 : QS X K W kx s p) (h2 : QSs X K W kx ss q) : QSs X K W kx (s :: ss) (pCut p q) :=
  ⟨h1.hK, PSs.imp (pss_cons h1.ps h2.ps) fun D σ H ⟨po, G, F, env, pd, st, hx, he, C, hp, hC⟩ => ⟨po, G, F, env, { pd with nx := C }, st, hx,
    ⟨fun F' H' σ' env' s' st' hn => ⟨po, G, F', env', pd, st', hx.weak (Same.refl G) s', he.mono s', hC _ hn⟩, he.bk, he.ct, he.rt⟩, hp⟩⟩
/-! ### stores -/
def stS (i : Nat) (r : RV) (env : PEnv) (φ : PEnv → Prop) : Prop := match r with
  | .val d => φ (env.set i (.val d))
  | .tmp d => φ (env.set i (.own d))
  | .nm j => ∃ d, (RV.nm j).d env = some d ∧ φ (((RV.nm j).fz env).set i (.val d))
theorem stS_ok {po : Option Pt} {G F H : Hp} {σ : L2.St} {env : PEnv} {r : RV} {v : V} {i : Nat} {φ : PEnv → Prop} (st : St K po G F H σ env) (a : r.At K po G F H σ env v) (h : stS i r env φ) :
    ∃ F' env', Same F F' ∧ St K po G F' H (σ.set i (some v)) env' ∧ φ env' := by
  cases r with
  | val d => exact ⟨F, _, Same.refl F, st.setV a, h⟩
  | tmp d =>
    obtain ⟨b, o, rfl, w, n⟩ := a
    exact ⟨F, _, Same.refl F, st.setO w n, h⟩
  | nm j =>
    obtain ⟨d, ed, h⟩ := h
    obtain ⟨F1, s1, st1, r1⟩ := RV.frz st a ed
    exact ⟨F1, _, s1, st1.setV r1, h⟩
def pSet (i : Nat) (p : PTE) : PTS := fun pd env => p env fun r e1 => stS i r e1 pd.nx
theorem qs_set {i : Nat} {x : Str} {e : Expr} {p : PTE} {pos pos' : Pos} (hN : X.N.Nodup) (hi : X.N[i]? = some x) (hx : Loc X.env.scope x) (h : QE X K W kx e p) (hs : swapsWith e (some (.Name x pos')) pos.line X.env = pure false := by rfl)
    (hf : X.fn x = true ∨ X.env.scope.names.lookup x = some .local := by first | exact .inl rfl | exact .inr rfl | assumption) : QS X K W kx (.Assign [.Name x pos'] e pos) (pSet i p) :=
  ⟨h.hK, PS.imp (ps_set hN hi hx h.pe hs hf) fun D σ H ⟨po, G, F, env, pd, st, hx, he, hp⟩ => ⟨po, G, F, env, _, st, hx, hp, fun F1 H1 e1 r v s1 st1 a1 k1 => by
    obtain ⟨F2, e2, s2, st2, k2⟩ := stS_ok st1 a1 k1
    exact he.nx F2 H1 _ e2 (s1.trans s2) st2 k2⟩⟩
def pAug (i : Nat) (f : D → D → (RV → Prop) → Prop) (p : PTE) : PTS := fun pd env => ∃ d, env[i]? = some (.val d) ∧ p env fun r e1 => wD r e1 fun e => f d e fun t => stS i t e1 pd.nx
theorem qs_aug {i : Nat} {x : Str} {e : Expr} {p : PTE} {op : Operator} {ti : TIp} {f : D → D → (RV → Prop) → Prop} {pos pos' : Pos} (hN : X.N.Nodup) (hi : X.N[i]? = some x) (hx : Loc X.env.scope x) (h : QE X K W kx e p) (ho : PIp X op ti) (hs : Sim2 K ti f)
    (hf : X.fn x = true ∨ X.env.scope.names.lookup x = some .local := by first | exact .inl rfl | exact .inr rfl | assumption) : QS X K W kx (.AugAssign (.Name x pos') op e pos) (pAug i f p) :=
  ⟨h.hK, PS.imp (ps_aug hN hi hx h.pe ho hf) fun D σ H ⟨po, G, F, env, pd, st, hx, he, d, ed, hp⟩ => by
    obtain ⟨v, ev, rv⟩ := st.vl i d ed
    refine ⟨v, ev, po, G, F, env, _, st, hx, hp, fun F1 H1 e1 r u s1 st1 a1 ⟨e, ee, z⟩ => ?_⟩
    refine hs po G F1 H1 σ e1 d e v u _ _ st1 (.inl (rv.mono s1)) (RV.rd st1 a1 ee) z fun F' H' t w s st' a' kk => ?_
    obtain ⟨F2, e2, s2, st2, k2⟩ := stS_ok st' a' kk
    exact he.nx F2 H' _ e2 ((s1.trans s).trans s2) st2 k2⟩
def pPar (i j : Nat) (p : PTA) : PTS := fun pd env => p env fun rs e1 => ∃ d e, dsO e1 rs = some [d, e] ∧ pd.nx (((fzs rs e1).set i (.val d)).set j (.val e))
theorem qs_par {i j : Nat} {x y : Str} {a b : Expr} {p : PTA} {px py pt pos : Pos} {kt k2 pt2} (hc : X.calm = true) (hN : X.N.Nodup) (hi : X.N[i]? = some x) (hj : X.N[j]? = some y) (hij : i ≠ j)
    (hx : X.env.scope.names.lookup x = some .local) (hy : X.env.scope.names.lookup y = some .local) (ha : QA X K W kx [a, b] p)
    (hw : swappedStores [.Tuple [.Name x px, .Name y py] kt pt] (.Tuple [a, b] k2 pt2) X.env = pure (some [x, y]))
    (hs : swapsWithSole [.Tuple [.Name x px, .Name y py] kt pt] (.Tuple [a, b] k2 pt2) pos.line X.env = pure false := by rfl) :
    QS X K W kx (.Assign [.Tuple [.Name x px, .Name y py] kt pt] (.Tuple [a, b] k2 pt2) pos) (pPar i j p) :=
  ⟨ha.hK, PS.imp (ps_par hc hN hi hj hij hx hy ha.pa hw hs) fun D σ H ⟨po, G, F, env, pd, st, hx, he, hp⟩ => ⟨po, G, F, env, _, st, hx, hp, fun F1 H1 e1 rs vs s1 st1 a1 ⟨d, e, ed, kk⟩ => by
    obtain ⟨F2, s2, st2, r2⟩ := RvA.frz st1 a1 ed
    cases r2 with
    | cons rd r2 =>
      cases r2 with
      | cons re r2 =>
        cases r2
        exact ⟨_, _, rfl, he.nx F2 H1 _ _ (s1.trans s2) ((st2.setV rd).setV re) kk⟩⟩⟩
/-! ### targets -/
def pGName (i : Nat) : PTG := fun r env k => stS i r env k
theorem qg_name {i : Nat} {x : Str} {pos : Pos} (hK : X.K = K) (hN : X.N.Nodup) (hi : X.N[i]? = some x) (hx : Loc X.env.scope x) (hf : X.fn x = true ∨ X.env.scope.names.lookup x = some .local := by first | exact .inl rfl | exact .inr rfl | assumption) : QG X K [i] (.Name x pos) (pGName i) :=
  ⟨hK, PG.imp (pg_name hN hi hx hf) fun v σ H Q ⟨po, G, F, env, r, k, st, a, hp, hq⟩ => by
    obtain ⟨F2, e2, s2, st2, k2⟩ := stS_ok st a hp
    exact hq F2 H _ e2 s2 st2 ⟨List.length_set, fun j hj => List.getElem?_set_ne (fun z => hj (by simp [z]))⟩ k2⟩
def pGNil : PTGs := fun ds env k => ds = [] ∧ k env
def pGCons (p : PTG) (q : PTGs) : PTGs := fun ds env k => match ds with
  | [] => False
  | d :: r => p (.val d) env fun e1 => q r e1 k
theorem qgs_nil (hK : X.K = K) : QGs X K [] [] pGNil := ⟨hK, PGs.imp pgs_nil fun v σ H Q ⟨po, G, F, env, ds, k, st, a, ⟨e, hp⟩, hq⟩ => by
  subst e
  cases a
  exact ⟨rfl, hq F H σ env (Same.refl F) st ⟨rfl, fun _ _ => rfl⟩ hp⟩⟩
theorem qgs_cons {e : Expr} {es : List Expr} {is js : List Nat} {p : PTG} {q : PTGs} (h1 : QG X K is e p) (h2 : QGs X K js es q)
    (hs : (assignEach (e :: es) X.env).map (·.2) = assign e X.env :: (assignEach es X.env).map (·.2) := by rfl) : QGs X K (is ++ js) (e :: es) (pGCons p q) :=
  ⟨h1.hK, PGs.imp (pgs_cons h1.pg h2.pgs hs) fun v σ H Q ⟨po, G, F, env, ds, k, st, a, hp, hq⟩ => by
    cases a with
    | nil => exact hp.elim
    | @cons d u ds vs ra rr =>
      exact ⟨u, vs, rfl, po, G, F, env, .val d, _, st, ra, hp, fun F1 H1 σ1 e1 s1 st1 o1 k1 =>
        ⟨po, G, F1, e1, ds, k, st1, rr.mono s1, k1, fun F2 H2 σ2 e2 s2 st2 o2 k2 => hq F2 H2 σ2 e2 (s1.trans s2) st2 ⟨o2.len.trans o1.len, fun j hj => by
          rw [o2.get j (fun z => hj (List.mem_append_right _ z)), o1.get j (fun z => hj (List.mem_append_left _ z))]⟩ k2⟩⟩⟩
def pGTup (n : Nat) (p : PTGs) : PTG := fun r env k => ∃ ds, r.d env = some (.tup ds) ∧ ds.length = n ∧ p ds env k
theorem qg_tup {es : List Expr} {is : List Nat} {k : Nat} {p : PTGs} {pos : Pos} (n : Nat) (hc : X.calm = true) (h : QGs X K is es p) (hn : (assignEach es X.env).length = n) (hst : (assignEach es X.env).findIdx? (·.1) = none) : QG X K is (.Tuple es k pos) (pGTup n p) :=
  ⟨h.hK, PG.imp (pg_tup hc h.pgs hn hst) fun v σ H Q ⟨po, G, F, env, r, k, st, a, ⟨ds, ed, hl, hp⟩, hq⟩ => by
    obtain ⟨b, xs, rfl, h1, h2, h3⟩ := (RV.rd st a ed).tup st.a.fh
    exact ⟨b, xs, rfl, by rw [h.hK]; exact h2, by rw [← h3.len]; exact hl, po, G, F, env, ds, k, st, h3, hp, hq⟩⟩
def pAsg (p : PTE) (g : PTG) : PTS := fun pd env => p env fun r e1 => g r e1 pd.nx
theorem qs_asg {tg e : Expr} {is : List Nat} {p : PTE} {g : PTG} {pos : Pos} (h : QE X K W kx e p) (hg : QG X K is tg g) (hs : swapsWithSole [tg] e pos.line X.env = pure false := by rfl) (hw : swappedStores [tg] e X.env = pure none := by rfl)
    (h1 : (assignEach [tg] X.env).map (·.2) = [assign tg X.env] := by rfl) : QS X K W kx (.Assign [tg] e pos) (pAsg p g) :=
  ⟨h.hK, PS.imp (ps_asg h.pe hg.pg hs hw h1) fun D σ H ⟨po, G, F, env, pd, st, hx, he, hp⟩ => ⟨po, G, F, env, _, st, hx, hp, fun F1 H1 e1 r v s1 st1 a1 k1 =>
    ⟨po, G, F1, e1, r, _, st1, a1, k1, fun F2 H2 σ2 e2 s2 st2 _ k2 => he.nx F2 H2 σ2 e2 (s1.trans s2) st2 k2⟩⟩⟩
/-! ### for -/
def pLoop (g : PTG) (b : PTS) (pd : PEnds) : List D → PEnv → Prop
  | [], env => pd.nx env
  | d :: ds, env => g (.val d) env fun e1 => b { pd with nx := pLoop g b pd ds, ct := pLoop g b pd ds, bk := pd.nx } e1
def pFor (i : PTI) (g : PTG) (b : PTS) : PTS := fun pd env => i env fun ds e1 => pLoop g b pd ds e1
theorem qs_for {tg iter : Expr} {body : List Stmt} {is : List Nat} {pi : PTI} {g : PTG} {b : PTS} {pos : Pos} (hp : PassesOwn (model X.prog X.w) X.A X.env X.xe) (hc : X.calm = true) (hi : QI X K W kx tg iter pi) (hg : QG X K is tg g) (hb : QSs X K W kx body b) (hs : ∀ x, foldedSetIterable iter X.env x = pure x := by intro _; rfl) :
    QS X K W kx (.For tg iter body [] pos) (pFor pi g b) := by
  refine ⟨hi.hK, PS.imp (ps_for hp hc hi.pi hg.pg hb.ps hs) fun D σ H ⟨po, G, F, env, pd, st, hx, he, hpp⟩ => ⟨po, G, F, env, _, st, hx, hpp, fun F1 H1 e1 J ds s1 st1 wk k1 => ?_⟩⟩
  refine ⟨fun i m σ H => ∃ F2 e2, Same F1 F2 ∧ St K po G F2 H σ e2 ∧ m = ds.length - i ∧ i ≤ ds.length ∧ pLoop g b pd (ds.drop i) e2, ⟨_, F1, e1, Same.refl F1, st1, rfl, Nat.zero_le _, by simpa using k1⟩, ?_⟩
  rintro i m σ2 H2 ⟨F2, e2, s2, st2, rfl, hi, lp⟩
  by_cases c : i < ds.length
  · refine .inr ⟨wk.go G F2 H2 σ2 e2 i s2 st2 c, fun σ' H' => ∃ F' e', Same F1 F' ∧ St K po G F' H' σ' e' ∧ pLoop g b pd (ds.drop (i + 1)) e', fun σ' H' ⟨F', e', s', st', l'⟩ => ⟨ds.length - (i + 1), by omega, F', e', s', st', rfl, by omega, l'⟩, ?_⟩
    intro x H3 hy
    have ed : ds[i]? = some ds[i] := List.getElem?_eq_getElem c
    obtain ⟨F3, s3, st3, r3⟩ := wk.yl G F2 H2 σ2 e2 i _ x H3 s2 st2 ed hy
    rw [List.drop_eq_getElem_cons c] at lp
    refine ⟨po, G, F3, e2, .val ds[i], _, st3, r3, lp, fun F4 H4 σ4 e4 s4 st4 _ k4 => ?_⟩
    have s14 : Same F1 F4 := (s2.trans s3).trans s4
    refine ⟨po, G, F4, e4, { pd with nx := pLoop g b pd (ds.drop (i + 1)), ct := pLoop g b pd (ds.drop (i + 1)), bk := pd.nx }, st4, hx.weak (Same.refl G) (s1.trans s14), ⟨fun F' H' σ' e' s' st' l' => ⟨F', e', s14.trans s', st', l'⟩, fun F' H' σ' e' s' st' l' => he.nx F' H' σ' e' (s1.trans (s14.trans s')) st' l', fun F' H' σ' e' s' st' l' => ⟨F', e', s14.trans s', st', l'⟩,
      fun F' H' σ' e' r v s' st' a' k' => he.rt F' H' σ' e' r v (s1.trans (s14.trans s')) st' a' k'⟩, k4⟩
  · have e : i = ds.length := by omega
    subst e
    rw [List.drop_length] at lp
    exact .inl ⟨wk.st G F2 H2 σ2 e2 s2 st2, he.nx F2 H2 σ2 e2 (s1.trans s2) st2 lp⟩
/-! ### while -/
def pWl (t : PTT) (b : PTS) (pd : PEnds) : Nat → PEnv → Prop
  | 0, _ => False
  | n + 1, env => t env fun c e1 => if c = true then b { pd with nx := pWl t b pd n, ct := pWl t b pd n, bk := pd.nx } e1 else pd.nx e1
def pWhile (t : PTT) (b : PTS) : PTS := fun pd env => ∃ n, pWl t b pd n env
theorem qs_while {c : Expr} {body : List Stmt} {t : PTT} {b : PTS} {pos : Pos} (hp : PassesOwn (model X.prog X.w) X.A X.env X.xe) (hc : QT X K W kx c t) (hb : QSs X K W kx body b) : QS X K W kx (.While c body [] pos) (pWhile t b) := by
  refine ⟨hc.hK, PS.imp (ps_while hp hc.pt hb.ps) fun D σ H ⟨po, G, F, env, pd, st, hx, he, n, hpp⟩ => ?_⟩
  refine ⟨fun m σ H => ∃ F2 e2, Same F F2 ∧ St K po G F2 H σ e2 ∧ pWl t b pd m e2, ⟨n, F, env, Same.refl F, st, hpp⟩, ?_⟩
  rintro m σ1 H1 ⟨F1, e1, s1, st1, w1⟩
  cases m with
  | zero => exact w1.elim
  | succ m =>
    refine ⟨po, G, F1, e1, _, st1, hx.weak (Same.refl G) s1, w1, fun F2 H2 e2 c s2 st2 k2 => ?_⟩
    cases c with
    | false => exact he.nx F2 H2 σ1 e2 (s1.trans s2) st2 k2
    | true =>
      refine ⟨fun σ' H' => ∃ F' e', Same F F' ∧ St K po G F' H' σ' e' ∧ pWl t b pd m e', fun σ' H' ⟨F', e', s', st', l'⟩ => ⟨m, Nat.lt_succ_self m, F', e', s', st', l'⟩, ?_⟩
      have s02 := s1.trans s2
      exact ⟨po, G, F2, e2, { pd with nx := pWl t b pd m, ct := pWl t b pd m, bk := pd.nx }, st2, hx.weak (Same.refl G) s02, ⟨fun F' H' σ' e' s' st' l' => ⟨F', e', s02.trans s', st', l'⟩, fun F' H' σ' e' s' st' l' => he.nx F' H' σ' e' (s02.trans s') st' l', fun F' H' σ' e' s' st' l' => ⟨F', e', s02.trans s', st', l'⟩,
        fun F' H' σ' e' r v s' st' a' k' => he.rt F' H' σ' e' r v (s02.trans s') st' a' k'⟩, k2⟩
/-! ### list comprehensions -/
def wipeP (env : PEnv) : List Nat → PEnv
  | [] => env
  | v :: vs => (wipeP env vs).set v .no
def pLcL (g : PTG) (t : PTT) (p : PTE) (vs : List Nat) (k : RV → PEnv → Prop) : List D → List D → PEnv → Prop
  | [], acc, env => k (.tmp (.lst acc)) env
  | d :: ds, acc, env => g (.val d) env fun e1 => t e1 fun b e2 => if b = true then p e2 fun r e3 => ∃ y, r.d e3 = some y ∧ acc.length < sizeLine ∧ pLcL g t p vs k ds (acc ++ [y]) (wipeP (r.fz e3) vs) else pLcL g t p vs k ds acc (wipeP e2 vs)
def pLc (i : PTI) (g : PTG) (t : PTT) (p : PTE) (vs : List Nat) : PTE := fun env k => i env fun ds e1 => pLcL g t p vs k ds [] (wipeP e1 vs)
theorem wipe_get {σ : L2.St} {j : Nat} : ∀ {vs : List Nat}, j ∉ vs → (wipe σ vs)[j]? = σ[j]?
  | [], _ => rfl
  | v :: vs, h => by
    unfold wipe
    rw [List.getElem?_set_ne (by intro z; exact h (by simp [z])), wipe_get (fun z => h (by simp [z]))]
theorem wipe_at {σ : L2.St} {j : Nat} (l : j < σ.length) : ∀ {vs : List Nat}, j ∈ vs → (wipe σ vs)[j]? = some none
  | v :: vs, h => by
    unfold wipe
    by_cases c : v = j
    · subst c
      exact List.getElem?_set_self (by rw [wipe_length]; exact l)
    · rw [List.getElem?_set_ne c]
      exact wipe_at l (by simpa [Ne.symm c] using h)
theorem wipe_eq {σ τ : L2.St} {vs : List Nat} (l : τ.length = σ.length) (h : ∀ j : Nat, j ∉ vs → τ[j]? = σ[j]?) : wipe τ vs = wipe σ vs := by
  apply List.ext_getElem?
  intro j
  by_cases c : j ∈ vs
  · by_cases c2 : j < σ.length
    · rw [wipe_at c2 c, wipe_at (by omega) c]
    · rw [List.getElem?_eq_none (by rw [wipe_length]; omega), List.getElem?_eq_none (by rw [wipe_length]; omega)]
  · rw [wipe_get c, wipe_get c, h j c]
theorem wipeP_get {env : PEnv} {j : Nat} {s : Sl} : ∀ {vs : List Nat}, (wipeP env vs)[j]? = some s → s ≠ .no → j ∉ vs ∧ env[j]? = some s
  | [], h, _ => ⟨by simp, h⟩
  | v :: vs, h, n => by
    unfold wipeP at h
    by_cases c : v = j
    · subst c
      have l : v < (wipeP env vs).length := by
        have := (List.getElem?_eq_some_iff.mp h).1
        rwa [List.length_set] at this
      rw [List.getElem?_set_self l] at h
      cases h
      exact absurd rfl n
    · rw [List.getElem?_set_ne c] at h
      obtain ⟨h1, h2⟩ := wipeP_get h n
      exact ⟨by simp [Ne.symm c, h1], h2⟩
theorem wipeP_length (env : PEnv) : ∀ vs : List Nat, (wipeP env vs).length = env.length
  | [] => rfl
  | v :: vs => by
    unfold wipeP
    rw [List.length_set, wipeP_length env vs]
theorem St.wiped {po : Option Pt} {G F H : Hp} {σ τ : L2.St} {env : PEnv} {vs : List Nat} (st : St K po G F H σ env) (l : τ.length = σ.length) (h : ∀ j : Nat, j ∉ vs → τ[j]? = σ[j]?) : St K po G F H τ (wipeP env vs) := by
  refine ⟨st.a, by rw [wipeP_length, l]; exact st.len, fun i d q => ?_, fun i d q => ?_, fun i j d u q1 q2 q3 => ?_⟩
  · obtain ⟨n, q⟩ := wipeP_get q (by intro z; cases z)
    rw [h i n]; exact st.vl i d q
  · obtain ⟨n, q⟩ := wipeP_get q (by intro z; cases z)
    rw [h i n]; exact st.ow i d q
  · obtain ⟨n1, q1⟩ := wipeP_get q1 (by intro z; cases z)
    obtain ⟨n2, q2⟩ := wipeP_get q2 (by intro z; cases z)
    rw [h i n1, h j n2] at q3
    exact st.ds i j d u q1 q2 q3
structure QTs (X : Cx) (K : PySem.W.Frag) (es : List Expr) (p : PTT) : Prop where
  hK : X.K = K
  pts : PTs X es (liftT K W0 kx0 p)
theorem PTs.imp {e : List Expr} {t t' : L2.TT} (h : PTs X e t) (i : ∀ σ H Q, t' σ H Q → t σ H Q) : PTs X e t' := ⟨fun pins s σ H Q I q => h.run pins s σ H Q I (i _ _ _ q)⟩
def pYes : PTT := fun env k => k true env
theorem qts_nil (hK : X.K = K) : QTs X K [] pYes := ⟨hK, PTs.imp pts_nil fun σ H Q ⟨po, G, F, env, k, st, hx, hp, hq⟩ => hq F H env true (Same.refl F) st hp⟩
theorem qts_one {c : Expr} {p : PTT} (h : QT X K W0 kx0 c p) : QTs X K [c] p := ⟨h.hK, pts_one h.pt⟩
theorem St.guard {po : Option Pt} {G F H : Hp} {σ : L2.St} {env : PEnv} {o : HO} (L : Addr) (st : St K po (upd G L o) F H σ env) : ∀ (i : Nat) (e : D), env[i]? = some (.own e) → σ[i]? ≠ some (some (.ref L)) := fun i e q z => by
  obtain ⟨a, u, h1, h2⟩ := st.ow i e q
  rw [h1] at z
  cases z
  have := h2.ng
  rw [upd_same] at this
  cases this
/-- what is guarded is changed -/
theorem St.chgG {po : Option Pt} {G F H : Hp} {σ : L2.St} {env : PEnv} {o : HO} {L : Addr} (st : St K po (upd G L o) F H σ env) (n : G L = none) (o' : HO) : St K po (upd G L o') F (upd H L o') σ env := by
  have nF := st.a.dj _ _ (upd_same (H := G) (a := L) (o := o))
  refine ⟨⟨fun b u q => ?_, fun b u q => ?_, fun b u q => ?_, fun p ep => ⟨?_, fun b hb => ⟨((st.a.pt p ep).2 b hb).1, ?_⟩⟩⟩, st.len, st.vl, fun i d q => ?_, st.ds⟩
  · rw [upd_ne (fun z => by rw [z, nF] at q; cases q)]
    exact st.a.fh _ _ q
  · by_cases c : b = L
    · subst c; rw [upd_same] at q ⊢; exact q
    · rw [upd_ne c] at q ⊢
      exact st.a.gh _ _ (by rw [upd_ne c]; exact q)
  · by_cases c : b = L
    · subst c; exact nF
    · rw [upd_ne c] at q
      exact st.a.dj b u (by rw [upd_ne c]; exact q)
  · have out : ∀ b ∈ pl p, b ≠ L := fun b hb z => by
      have := ((st.a.pt p ep).2 b hb).2
      rw [z, upd_same] at this
      cases this
    refine ((st.a.pt p ep).1).but (l := [L]) (fun b u m q => ?_) ?_ ?_ ?_
    · rw [upd_ne (by simpa using m)]; exact q
    · simpa using out p.a (by simp [pl])
    · simpa using out p.g (by simp [pl])
    · simpa using out p.s (by simp [pl])
  · have z := ((st.a.pt p ep).2 b hb).2
    by_cases c : b = L
    · subst c; rw [upd_same] at z; cases z
    · rw [upd_ne c] at z ⊢; exact z
  · obtain ⟨a, u, h1, h2⟩ := st.ow i d q
    have ne : a ≠ L := fun z => by
      have := h2.ng
      rw [z, upd_same] at this
      cases this
    exact ⟨a, u, h1, by rw [upd_ne ne]; exact h2.at_, h2.nf, by have := h2.ng; rw [upd_ne ne] at this ⊢; exact this, h2.np, h2.rep⟩
/-- the reading of a comprehension by its loop -/
theorem lc_sim {σ : L2.St} {H : Hp} {Q : VK} {is vs : List Nat} {pi : PTI} {g : PTG} {t : PTT} {p : PTE} (hv : ∀ i ∈ is, i ∈ vs) (h : lift K W kx (pLc pi g t p vs) σ H Q) :
    tLc (liftI K W kx pi) (liftG K is g) (liftT K W0 kx0 t) (lift K W0 kx0 p) vs σ H Q := by
  obtain ⟨po, G, F, env, k, st, hx, hp, hq⟩ := h
  refine ⟨po, G, F, env, _, st, hx, hp, fun F1 H1 e1 J ds s1 st1 wk k1 L hL => ?_⟩
  have nfG : G L = none := st1.a.gh.free hL
  have npL := st1.a.npot hL
  refine ⟨fun i m H => ∃ F2 e2 acc xs, Same F1 F2 ∧ St K po G F2 H σ e2 ∧ OwnAt K po G F2 H L (.lst xs) (.lst acc) ∧ Reps K po F2 acc xs ∧ (∀ (i : Nat) (e : D), e2[i]? = some (.own e) → σ[i]? ≠ some (some (.ref L))) ∧ m = ds.length - i ∧ i ≤ ds.length ∧ (∀ (i : Nat) (s : Sl), e2[i]? = some s → s ≠ .no → i ∉ vs) ∧ pLcL g t p vs k (ds.drop i) acc e2, ⟨_, F1, wipeP e1 vs, [], [], Same.refl F1, ?_, ⟨upd_same, st1.a.fh.free hL, nfG, npL, .lst .nil⟩, .nil, ?_, rfl, Nat.zero_le _, fun i s q n => (wipeP_get q n).1, by simpa using k1⟩, ?_⟩
  · exact (st1.newO hL).wiped rfl fun _ _ => rfl
  · intro i e q z
    obtain ⟨_, q⟩ := wipeP_get q (by intro z; cases z)
    obtain ⟨a, o, h1, h2⟩ := st1.ow i e q
    rw [h1] at z
    cases z
    rw [h2.at_] at hL
    cases hL
  · rintro i m H2 ⟨F2, e2, acc, xs, s2, st2, w2, r2, n2, rfl, hi, nv, lp⟩
    by_cases c : i < ds.length
    · refine .inr ⟨wk.go G F2 H2 σ e2 i s2 st2 c, fun H' => ∃ F' e' acc xs, Same F1 F' ∧ St K po G F' H' σ e' ∧ OwnAt K po G F' H' L (.lst xs) (.lst acc) ∧ Reps K po F' acc xs ∧ (∀ (i : Nat) (e : D), e'[i]? = some (.own e) → σ[i]? ≠ some (some (.ref L))) ∧ (∀ (i : Nat) (s : Sl), e'[i]? = some s → s ≠ .no → i ∉ vs) ∧ pLcL g t p vs k (ds.drop (i + 1)) acc e',
        fun H' ⟨F', e', acc, xs, z1, z2, z3, z4, z5, z6, z7⟩ => ⟨ds.length - (i + 1), by omega, F', e', acc, xs, z1, z2, z3, z4, z5, rfl, by omega, z6, z7⟩, ?_⟩
      intro x H3 hy
      have ed : ds[i]? = some ds[i] := List.getElem?_eq_getElem c
      -- the new list is guarded
      have st2' := st2.tmp w2 n2
      obtain ⟨F3, s3, st3, r3⟩ := wk.yl _ F2 H2 σ e2 i _ x H3 s2 st2' ed hy
      rw [List.drop_eq_getElem_cons c] at lp
      have st3w : St K po (upd G L (.lst xs)) F3 H3 (wipe σ vs) e2 := st3.slots (wipe_length σ vs) fun j s q n => wipe_get (nv j s q n)
      refine ⟨po, upd G L (.lst xs), F3, e2, .val ds[i], _, st3w, r3, lp, fun F4 H4 σ4 e4 s4 st4 o4 k4 => ?_⟩
      have h4 : ∀ j : Nat, j ∉ vs → σ4[j]? = σ[j]? := fun j hj => by rw [o4.get j (fun z => hj (hv j z)), wipe_get hj]
      have l4 : σ4.length = σ.length := by rw [o4.len, wipe_length]
      have s24 := s3.trans s4
      refine ⟨wipe_eq l4 h4, po, upd G L (.lst xs), F4, e4, _, st4, XRel.none, k4, fun F5 H5 e5 b s5 st5 k5 => ?_⟩
      cases b with
      | false =>
        have g5 := st5.guard L
        refine ⟨F5, wipeP e5 vs, acc, xs, s2.trans (s24.trans s5), ((st5.weak (Same.new nfG)).wiped l4.symm fun j hj => (h4 j hj).symm), ⟨st5.a.gh _ _ upd_same, st5.a.dj _ _ upd_same, nfG, npL, .lst (r2.mono (s24.trans s5))⟩, r2.mono (s24.trans s5), ?_, fun i s q n => (wipeP_get q n).1, k5⟩
        intro i e q z
        obtain ⟨nv', q⟩ := wipeP_get q (by intro z; cases z)
        exact g5 i e q (by rw [h4 i nv']; exact z)
      | true =>
        refine ⟨po, upd G L (.lst xs), F5, e5, _, st5, XRel.none, k5, fun F6 H6 e6 r y s6 st6 a6 k6 => ?_⟩
        obtain ⟨yd, ed6, hl6, k6⟩ := k6
        obtain ⟨F7, s7, st7, r7⟩ := RV.frz st6 a6 ed6
        have s27 := s24.trans (s5.trans (s6.trans s7))
        have st8 := st7.chgG nfG (.lst (xs ++ [y]))
        have g8 := st8.guard L
        refine ⟨xs, st7.a.gh _ _ upd_same, by rw [← r2.len]; exact hl6, F7, wipeP (r.fz e6) vs, acc ++ [yd], xs ++ [y], s2.trans s27, ((st8.weak (Same.new nfG)).wiped l4.symm fun j hj => (h4 j hj).symm), ⟨upd_same, st8.a.dj _ _ upd_same, nfG, npL, .lst ((r2.mono s27).app (.cons r7 .nil))⟩, (r2.mono s27).app (.cons r7 .nil), ?_, fun i s q n => (wipeP_get q n).1, k6⟩
        intro i e q z
        obtain ⟨nv', q⟩ := wipeP_get q (by intro z; cases z)
        exact g8 i e q (by rw [h4 i nv']; exact z)
    · have e : i = ds.length := by omega
      subst e
      rw [List.drop_length] at lp
      exact .inl ⟨wk.st G F2 H2 σ e2 s2 st2, hq F2 H2 e2 (.tmp (.lst acc)) _ (s1.trans s2) st2 ⟨L, _, rfl, w2, n2⟩ lp⟩
end
end Pl

/-! comprehensions, calls, defs over values -/
namespace Pl
open PySem L2 My

section
variable {X : Cx} {K : PySem.W.Frag} {W : WX} {kx : KX}
theorem q_lc {elt tg iter : Expr} {ifs : List Expr} {scope : Scope} {own : List (Str × Nat)} {pos : Pos} {is : List Nat} {pi : PTI} {g : PTG} {t : PTT} {p : PTE} (hc : X.calm = true) (hN : X.N.Nodup) (hi : QI X K W kx tg iter pi) (ok : BlkOk X.N X.env.scope scope own)
    (hg : ∀ (s : Shared) (H : Hp) (C : Addr) (cl : List (Str × Addr)) (fp : List Addr), QG (X.blk s H scope (compEnvC scope cl C X.env) fp) K is tg g) (ht : ∀ (s : Shared) (H : Hp) (C : Addr) (cl : List (Str × Addr)) (fp : List Addr), QTs (X.blk s H scope (compEnvC scope cl C X.env) fp) K ifs t)
    (he : ∀ (s : Shared) (H : Hp) (C : Addr) (cl : List (Str × Addr)) (fp : List Addr), QE (X.blk s H scope (compEnvC scope cl C X.env) fp) K W0 kx0 elt p) (hv : ∀ i ∈ is, i ∈ own.map (·.2)) (hs : ∀ x, foldedSetIterable iter X.env x = pure x := by intro _; rfl) :
    QE X K W kx (.ListComp elt [⟨tg, iter, ifs, 0⟩] scope pos) (pLc pi g t p (own.map (·.2))) :=
  ⟨hi.hK, PE.imp (pe_lc hc hN hi.pi ok (fun s H C cl fp => (hg s H C cl fp).pg) (fun s H C cl fp => (ht s H C cl fp).pts) (fun s H C cl fp => (he s H C cl fp).pe) hs) fun σ H Q h => lc_sim hv h⟩
theorem qs_setLc {i : Nat} {y : Str} {py : Pos} {elt tg iter : Expr} {ifs : List Expr} {scope : Scope} {own : List (Str × Nat)} {pos spos : Pos} {is : List Nat} {pi : PTI} {g : PTG} {t : PTT} {p : PTE} (hc : X.calm = true) (hN : X.N.Nodup) (hy : X.N[i]? = some y) (hyl : X.env.scope.names.lookup y = some .local)
    (hsw : swapsWith (.ListComp elt [⟨tg, iter, ifs, 0⟩] scope pos) (some (.Name y py)) spos.line X.env = pure true) (hi : QI X K W kx tg iter pi) (ok : BlkOk X.N X.env.scope scope own)
    (hg : ∀ (s : Shared) (H : Hp) (C : Addr) (cl : List (Str × Addr)) (fp : List Addr), QG (X.blk s H scope (compEnvC scope cl C X.env) fp) K is tg g) (ht : ∀ (s : Shared) (H : Hp) (C : Addr) (cl : List (Str × Addr)) (fp : List Addr), QTs (X.blk s H scope (compEnvC scope cl C X.env) fp) K ifs t)
    (he : ∀ (s : Shared) (H : Hp) (C : Addr) (cl : List (Str × Addr)) (fp : List Addr), QE (X.blk s H scope (compEnvC scope cl C X.env) fp) K W0 kx0 elt p) (hv : ∀ i ∈ is, i ∈ own.map (·.2)) (hs : ∀ x, foldedSetIterable iter X.env x = pure x := by intro _; rfl) :
    QS X K W kx (.Assign [.Name y py] (.ListComp elt [⟨tg, iter, ifs, 0⟩] scope pos) spos) (pSet i (pLc pi g t p (own.map (·.2)))) := by
  refine ⟨hi.hK, PS.imp (ps_setLc hc hN hy hyl hsw hi.pi ok (fun s H C cl fp => (hg s H C cl fp).pg) (fun s H C cl fp => (ht s H C cl fp).pts) (fun s H C cl fp => (he s H C cl fp).pe) hs) fun D σ H ⟨po, G, F, env, pd, st, hx, hen, hp⟩ => ?_⟩
  refine lc_sim hv ⟨po, G, F, env, _, st, hx, hp, fun F1 H1 e1 r v s1 st1 a1 k1 => ?_⟩
  obtain ⟨F2, e2, s2, st2, k2⟩ := stS_ok st1 a1 k1
  exact hen.nx F2 H1 _ e2 (s1.trans s2) st2 k2
end

/-! ### what is lent -/
section
variable {K : PySem.W.Frag} {po : Option Pt} {G F H F2 H2 : Hp} {σ : L2.St} {env : PEnv}
theorem RvA.lend : ∀ {rs : List RV} {F : Hp} {env : PEnv} {vs : List V} {ds : List D}, St K po G F H σ env → RvA K po F σ rs vs → dsO env rs = some ds →
    ∃ F', Same F F' ∧ St K po G F' H σ (fzs rs env) ∧ Reps K po F' ds vs ∧ (∀ b o, F b = none → F' b = some o → ∃ d, RepO K po F' d o) ∧
      (∀ (i : Nat) (d : D), env[i]? = some (.own d) → (fzs rs env)[i]? = some (.own d) ∨ ∃ a o, σ[i]? = some (some (.ref a)) ∧ F' a = some o) ∧ ∀ (i : Nat) (d : D), (fzs rs env)[i]? = some (.own d) → env[i]? = some (.own d)
  | [], F, env, vs, ds, st, h, e => by
    cases h
    cases e
    exact ⟨F, Same.refl F, st, .nil, (fun b o n q => by rw [n] at q; cases q), fun i d q => .inl q, fun i d q => q⟩
  | r :: rs, F, env, vs, ds, st, h, e => by
    unfold dsO at e
    cases q1 : r.d env with
    | none => rw [q1] at e; cases e
    | some d =>
      rw [q1] at e
      cases q : dsO env rs with
      | none => rw [q] at e; cases e
      | some ds' =>
        rw [q] at e
        cases e
        cases h with
        | val a h =>
          cases q1
          obtain ⟨F2, s2, st2, r2, n2, o2, p2⟩ := RvA.lend st h q
          exact ⟨F2, s2, st2, .cons (a.mono s2) r2, n2, o2, p2⟩
        | @nm i v _ vs a h =>
          unfold RV.d at q1
          dsimp only at q1
          unfold fzs RV.fz
          dsimp only
          cases qi : env[i]? with
          | none => rw [qi] at q1; cases q1
          | some sl =>
            rw [qi] at q1
            cases sl with
            | no => cases q1
            | val d' =>
              cases q1
              obtain ⟨u, h1, h2⟩ := st.vl i _ qi
              rw [a] at h1
              cases h1
              obtain ⟨F2, s2, st2, r2, n2, o2, p2⟩ := RvA.lend st h q
              exact ⟨F2, s2, st2, .cons (h2.mono s2) r2, n2, o2, p2⟩
            | own d' =>
              cases q1
              obtain ⟨b, F1, h1, st1, s1, r1, o, eF, ro⟩ := st.frzN qi
              rw [a] at h1
              cases h1
              have q' : dsO (env.set i (.val d)) rs = some ds' := by
                have := dsO_fz (r := .nm i) q
                unfold RV.fz at this
                dsimp only at this
                rw [qi] at this
                exact this
              obtain ⟨F2, s2, st2, r2, n2, o2, p2⟩ := RvA.lend st1 (h.mono s1) q'
              have Fb : F1 b = some o := by rw [eF]; exact upd_same
              refine ⟨F2, s1.trans s2, st2, .cons (r1.mono s2) r2, fun c u n z => ?_, fun j e w => ?_, fun j e w => ?_⟩
              · by_cases cb : c = b
                · subst cb
                  rw [s2 _ _ Fb] at z
                  cases z
                  exact ⟨d, (ro.mono s1).mono s2⟩
                · exact n2 c u (by rw [eF, upd_ne cb]; exact n) z
              · by_cases ci : i = j
                · subst ci
                  exact .inr ⟨b, o, a, s2 _ _ Fb⟩
                · exact o2 j e (by rw [List.getElem?_set_ne ci]; exact w)
              · have w' := p2 j e w
                by_cases ci : i = j
                · subst ci
                  rw [List.getElem?_set_self (List.getElem?_eq_some_iff.mp qi).1] at w'
                  cases w'
                · rwa [List.getElem?_set_ne ci] at w'
open Classical in
/-- what slots hold is guarded -/
noncomputable def gOwn (G : Hp) (σ : L2.St) (env : PEnv) (H : Hp) : Hp := fun b => match G b with
  | some o => some o
  | none => if ∃ (i : Nat) (d : D), env[i]? = some (.own d) ∧ σ[i]? = some (some (.ref b)) then H b else none
theorem gOwn_same : Same G (gOwn G σ env H) := fun b o q => by
  unfold gOwn
  rw [q]
theorem gOwn_at {i : Nat} {d : D} {a : Addr} {o : HO} (e : env[i]? = some (.own d)) (ea : σ[i]? = some (some (.ref a))) (n : G a = none) (h : H a = some o) : gOwn G σ env H a = some o := by
  unfold gOwn
  rw [n]
  dsimp only
  rw [if_pos ⟨i, d, e, ea⟩]
  exact h
theorem gOwn_or {b : Addr} {o : HO} (h : gOwn G σ env H b = some o) : G b = some o ∨ ∃ (i : Nat) (d : D), env[i]? = some (.own d) ∧ σ[i]? = some (some (.ref b)) ∧ H b = some o := by
  unfold gOwn at h
  cases q : G b with
  | some u => rw [q] at h; exact .inl h
  | none =>
    rw [q] at h
    dsimp only at h
    split at h
    · rename_i c
      obtain ⟨i, d, e, ea⟩ := c
      exact .inr ⟨i, d, e, ea, h⟩
    · cases h
theorem St.gOwnA (st : St K po G F H σ env) : StA po (gOwn G σ env H) F H := by
  refine ⟨st.a.fh, fun b o q => ?_, fun b o q => ?_, fun p ep => ⟨(st.a.pt p ep).1, fun b hb => ⟨((st.a.pt p ep).2 b hb).1, ?_⟩⟩⟩
  · rcases gOwn_or q with q | ⟨i, d, e, ea, q⟩
    · exact st.a.gh _ _ q
    · exact q
  · rcases gOwn_or q with q | ⟨i, d, e, ea, q⟩
    · exact st.a.dj _ _ q
    · obtain ⟨a, u, h1, h2⟩ := st.ow i d e
      rw [ea] at h1
      cases h1
      exact h2.nf
  · cases z : gOwn G σ env H b with
    | none => rfl
    | some o =>
      rcases gOwn_or z with q | ⟨i, d, e, ea, q⟩
      · rw [((st.a.pt p ep).2 b hb).2] at q; cases q
      · obtain ⟨a, u, h1, h2⟩ := st.ow i d e
        rw [ea] at h1
        cases h1
        exact absurd hb (h2.np p ep)
theorem StA.weakG {G' : Hp} (h : StA po G' F H) (s : Same G G') : StA po G F H := h.weak s
theorem St.gBack (st : St K po G F H σ env) (s : Same F F2) (h : StA po (Pl.gOwn G σ env H) F2 H2) : St K po G F2 H2 σ env := by
  refine ⟨h.weak gOwn_same, st.len, fun i d q => ?_, fun i d q => ?_, st.ds⟩
  · obtain ⟨v, h1, h2⟩ := st.vl i d q
    exact ⟨v, h1, h2.mono s⟩
  · obtain ⟨a, o, h1, h2⟩ := st.ow i d q
    have g := gOwn_at q h1 h2.ng h2.at_
    exact ⟨a, o, h1, h.gh _ _ g, h.dj _ _ g, h2.ng, h2.np, h2.rep.mono s⟩
end
/-! ### flat values: nothing in them changes -/
mutual
def D.flat : D → Bool
  | .tup ds => flats ds
  | .lst _ => false
  | .gtup _ => false
  | .ins _ _ => false
  | .dK _ => false
  | .dZ _ _ _ => false
  | .dT _ => false
  | _ => true
def flats : List D → Bool
  | [] => true
  | d :: ds => d.flat && flats ds
end
section
variable {K : PySem.W.Frag} {po : Option Pt} {F F' : Hp}
mutual
theorem Rep.down (e : ∀ b xs, F b = some (.tup xs) → F' b = some (.tup xs)) : ∀ {d : D} {v : V}, Rep K po F d v → d.flat = true → Rep K po F' d v
  | _, _, .non, _ => .non
  | _, _, .bl b, _ => .bl b
  | _, _, .int i, _ => .int i
  | _, _, .str x, _ => .str x
  | _, _, .ty n, _ => .ty n
  | _, _, .ad a, _ => .ad a
  | _, _, .pot p h, _ => .pot p h
  | _, _, .tup h r, f => .tup (e _ _ h) (Reps.down e r (by unfold D.flat at f; exact f))
  | _, _, .lst h r, f => by unfold D.flat at f; cases f
  | _, _, .gtup h r, f => by unfold D.flat at f; cases f
  | _, _, .ins h r, f => by unfold D.flat at f; cases f
  | _, _, .dK h r, f => by unfold D.flat at f; cases f
  | _, _, .dZ h r, f => by unfold D.flat at f; cases f
  | _, _, .dT h r, f => by unfold D.flat at f; cases f
theorem Reps.down (e : ∀ b xs, F b = some (.tup xs) → F' b = some (.tup xs)) : ∀ {d : List D} {v : List V}, Reps K po F d v → flats d = true → Reps K po F' d v
  | _, _, .nil, _ => .nil
  | _, _, .cons h r, f => by
    unfold flats at f
    rw [Bool.and_eq_true] at f
    exact .cons (Rep.down e h f.1) (Reps.down e r f.2)
end
end
/-! ### promises by values -/
abbrev QSpec := List D → (RV → Prop) → (Addr → List (Str × D) → Prop) → Prop
def spP (K : PySem.W.Frag) (S : QSpec) : Sp := fun vs H Q E => ∃ (po : Option Pt) (G F : Hp) (ds : List D) (k : RV → Prop) (kx : Addr → List (Str × D) → Prop), StA po G F H ∧ Reps K po F ds vs ∧ S ds k kx ∧
  (∀ (F' H' : Hp) (r : RV) (v : V), Same F F' → StA po G F' H' → ResR K po G F' H' r v → k r → Q v H') ∧
  (∀ (F' H' : Hp) (c : Addr) (d : Option Addr) (fs : List (Str × D)), Same F F' → StA po G F' H' → XD K po F' H' d fs → kx c fs → E (.ref c) d H')
/-- the slots at a def's start -/
def noes : Nat → PEnv
  | 0 => []
  | n + 1 => .no :: noes n
def startP (n : Nat) : List D → PEnv
  | [] => noes n
  | d :: ds => .val d :: startP (n - 1) ds
theorem noes_len : ∀ n : Nat, (noes n).length = n
  | 0 => rfl
  | n + 1 => by simp [noes, noes_len n]
theorem noes_get {i : Nat} {s : Sl} : ∀ {n : Nat}, (noes n)[i]? = some s → s = .no
  | 0, h => by simp [noes] at h
  | n + 1, h => by
    cases i with
    | zero => simpa [noes] using h.symm
    | succ i => exact noes_get (n := n) (by simpa [noes] using h)
section
variable {K : PySem.W.Frag} {po : Option Pt} {G F H : Hp}
theorem St.start {N : List Str} {ds : List D} {vs : List V} (a : StA po G F H) (r : Reps K po F ds vs) (l : ds.length ≤ N.length) : St K po G F H (L2.start N vs) (startP N.length ds) := by
  have main : ∀ {ds : List D} {vs : List V} {n : Nat}, Reps K po F ds vs → ds.length ≤ n → (startP n ds).length = n ∧ ∀ (i : Nat) (s : Sl), (startP n ds)[i]? = some s → s = .no ∨ ∃ d v, s = .val d ∧ vs[i]? = some v ∧ Rep K po F d v := by
    intro ds vs n r
    induction r using Reps.rec (motive_1 := fun _ _ _ => True) (motive_3 := fun _ _ _ => True) (motive_4 := fun _ _ _ => True) (motive_5 := fun _ _ _ => True) generalizing n with
    | nil =>
      intro l
      refine ⟨noes_len n, fun i s q => .inl (noes_get q)⟩
    | @cons d v ds vs h r _ ih =>
      intro l
      cases n with
      | zero => simp at l
      | succ n =>
        obtain ⟨h1, h2⟩ := ih (n := n) (by simpa using l)
        refine ⟨by simp [startP, h1], fun i s q => ?_⟩
        cases i with
        | zero =>
          have q : Sl.val d = s := by simpa [startP] using q
          exact .inr ⟨d, v, q.symm, by simp, h⟩
        | succ i =>
          rcases h2 i s (by simpa [startP] using q) with z | ⟨e, u, z1, z2, z3⟩
          · exact .inl z
          · exact .inr ⟨e, u, z1, by simpa using z2, z3⟩
    | _ => trivial
  obtain ⟨h1, h2⟩ := main r l
  have lv := r.len
  refine ⟨a, ?_, fun i d q => ?_, fun i d q => ?_, fun i j d e q => ?_⟩
  · rw [h1]
    unfold L2.start
    simp
    omega
  · rcases h2 i _ q with z | ⟨e, u, z1, z2, z3⟩
    · cases z
    · cases z1
      refine ⟨u, ?_, z3⟩
      unfold L2.start
      rw [List.getElem?_append_left (by rw [List.length_map]; exact (List.getElem?_eq_some_iff.mp z2).1), List.getElem?_map, z2]
      rfl
  · rcases h2 i _ q with z | ⟨e, u, z1, z2, z3⟩
    · cases z
    · cases z1
  · rcases h2 i _ q with z | ⟨e, u, z1, z2, z3⟩
    · cases z
    · cases z1
end
theorem spP_len {K : PySem.W.Frag} {S : QSpec} {n : Nat} (h : ∀ ds k kx, S ds k kx → ds.length = n) (vs : List V) (H : Hp) (Q : VK) (E : XK) (q : spP K S vs H Q E) : vs.length = n := by
  obtain ⟨po, G, F, ds, k, kx, a, r, s, _⟩ := q
  rw [← r.len]
  exact h _ _ _ s
/-- a def's body keeps its promise -/
theorem def_run {X : Cx} {K : PySem.W.Frag} {S : QSpec} {body : List Stmt} {N : List Str} {p : KX → PTS} {vs : List V} {H : Hp} {Q : VK} {E : XK} (hb : ∀ kx, QSs X K (fun c d _ H => E c d H) kx body (p kx)) (h : spP K S vs H Q E) (hl : ∀ ds k kx, S ds k kx → ds.length ≤ N.length)
    (hp : ∀ ds k kx, S ds k kx → p (fun c fs _ => kx c fs) { nx := fun _ => k (.val .non), rt := fun r env => ∃ s, r.out env = some s ∧ k s } (startP N.length ds)) :
    ∃ t, PSs X body t ∧ t { nx := fun _ H' => Q .non H', rt := Q } (L2.start N vs) H := by
  obtain ⟨po, G, F, ds, k, kx, a, r, s, q, qx⟩ := h
  refine ⟨_, (hb fun c fs _ => kx c fs).ps, po, G, F, _, _, St.start a r (hl _ _ _ s), fun F' H' σ env c d fs s' st' x kk => qx F' H' c d fs s' st'.a x kk, ⟨?_, ?_, ?_, ?_⟩, hp ds k kx s⟩
  · exact fun F' H' σ' env' s' st' k' => q F' H' (.val .non) .non s' st'.a Rep.non k'
  · exact fun F' H' σ' env' s' st' k' => k'.elim
  · exact fun F' H' σ' env' s' st' k' => k'.elim
  · rintro F' H' σ' env' r v s' st' a' ⟨t, e, k'⟩
    exact q F' H' t v s' st'.a (RV.res st' a' e) k'
/-! ### calls -/
/-- no name among arguments -/
def unl : List RV → Bool
  | [] => true
  | .nm _ :: _ => false
  | _ :: rs => unl rs
/-- the slots behind a call: what was lent comes back where the result can't hold it -/
def aftE (t : RV) (rs : List RV) (env : PEnv) : PEnv := if unl rs = true then env else match t with
  | .val d => if d.flat = true then env else fzs rs env
  | _ => fzs rs env
def pCall (S : QSpec) (kx : KX) (p : PTA) : PTE := fun env k => p env fun rs e1 => ∃ ds, dsO e1 rs = some ds ∧ S ds (fun t => k t (aftE t rs e1)) fun c fs => kx c fs (fzs rs e1)
theorem fzs_unl : ∀ {rs : List RV} {env : PEnv}, unl rs = true → fzs rs env = env
  | [], _, _ => rfl
  | .val _ :: rs, env, h => fzs_unl (rs := rs) h
  | .tmp _ :: rs, env, h => fzs_unl (rs := rs) h
  | .nm _ :: _, _, h => by cases h
section
variable {X : Cx} {K : PySem.W.Frag} {W : WX} {kx : KX}
/-- the state behind a call, as pure slots tell it -/
theorem call_back {po : Option Pt} {G F H F1 F2 H2 : Hp} {σ : L2.St} {env : PEnv} {rs : List RV} {t : RV} {v : V} (st : St K po G F H σ env) (s1 : Same F F1) (st1 : St K po G F1 H σ (fzs rs env))
    (hn : ∀ b o, F b = none → F1 b = some o → ∃ d, RepO K po F1 d o) (ho : ∀ (i : Nat) (d : D), env[i]? = some (.own d) → (fzs rs env)[i]? = some (.own d) ∨ ∃ a o, σ[i]? = some (some (.ref a)) ∧ F1 a = some o)
    (s2 : Same F1 F2) (a2 : StA po (gOwn G σ (fzs rs env) H) F2 H2) (r : ResR K po (gOwn G σ (fzs rs env) H) F2 H2 t v) :
    ∃ F3, Same F F3 ∧ St K po G F3 H2 σ (aftE t rs env) ∧ t.At K po G F3 H2 σ (aftE t rs env) v := by
  have st2 := st1.gBack s2 a2
  -- the result at the frozen slots
  have at2 : t.At K po G F2 H2 σ (fzs rs env) v := by
    cases t with
    | val d => exact r
    | nm i => exact r.elim
    | tmp d =>
      obtain ⟨a, o, e, w⟩ := r
      refine ⟨a, o, e, w.weak gOwn_same, fun i e q z => ?_⟩
      obtain ⟨b, u, h1, h2⟩ := st1.ow i e q
      rw [z] at h1
      cases h1
      have g := gOwn_at q z h2.ng h2.at_
      rw [w.ng] at g
      cases g
  unfold aftE
  split
  · rename_i hu
    rw [fzs_unl hu] at st2 at2
    exact ⟨F2, s1.trans s2, st2, at2⟩
  · cases t with
    | nm i => exact r.elim
    | tmp d => exact ⟨F2, s1.trans s2, st2, at2⟩
    | val d =>
      dsimp only
      split
      · rename_i hf
        -- what was lent is taken out again
        have F3 : ∃ F3 : Hp, (∀ b, (F b = none ∧ ∃ o, F1 b = some o) → F3 b = none) ∧ ∀ b, ¬ (F b = none ∧ ∃ o, F1 b = some o) → F3 b = F2 b := by
          classical
          exact ⟨fun b => if F b = none ∧ ∃ o, F1 b = some o then none else F2 b, fun b c => if_pos c, fun b c => if_neg c⟩
        obtain ⟨F3, g1, g2⟩ := F3
        have sub : ∀ b o, F3 b = some o → F2 b = some o := fun b o q => by
          by_cases c : F b = none ∧ ∃ o, F1 b = some o
          · rw [g1 b c] at q; cases q
          · rw [g2 b c] at q; exact q
        have s3 : Same F F3 := fun b o q => by
          rw [g2 b (fun c => by rw [c.1] at q; cases q)]
          exact s2 _ _ (s1 _ _ q)
        have rep3 : ∀ {e : D} {u : V}, Rep K po F2 e u → e.flat = true → Rep K po F3 e u := fun {e u} q f => Rep.down (fun b xs q1 => by
          by_cases c : F b = none ∧ ∃ o, F1 b = some o
          · obtain ⟨c1, o', c2⟩ := c
            obtain ⟨d', ro⟩ := hn b o' c1 c2
            rw [s2 _ _ c2] at q1
            cases q1
            cases ro
          · rw [g2 b c]; exact q1) q f
        refine ⟨F3, s3, ⟨⟨fun b o q => st2.a.fh _ _ (sub b o q), st2.a.gh, fun b o q => ?_, fun p ep => ⟨(st2.a.pt p ep).1, fun b hb => ⟨?_, ((st2.a.pt p ep).2 b hb).2⟩⟩⟩, st.len, fun i e q => ?_, fun i e q => ?_, st.ds⟩, rep3 r hf⟩
        · cases z : F3 b with
          | none => rfl
          | some u =>
            have := sub b u z
            rw [st2.a.dj b o q] at this
            cases this
        · cases z : F3 b with
          | none => rfl
          | some u =>
            have := sub b u z
            rw [((st2.a.pt p ep).2 b hb).1] at this
            cases this
        · obtain ⟨u, h1, h2⟩ := st.vl i e q
          exact ⟨u, h1, h2.mono s3⟩
        · obtain ⟨a, o, h1, h2⟩ := st.ow i e q
          refine ⟨a, o, h1, ?_, ?_, h2.ng, h2.np, h2.rep.mono s3⟩
          · rcases ho i e q with z | ⟨b, u, z1, z2⟩
            · obtain ⟨c, o', y1, y2⟩ := st1.ow i e z
              rw [h1] at y1
              cases y1
              have := y2.at_
              rw [h2.at_] at this
              cases this
              exact a2.gh _ _ (gOwn_at z h1 y2.ng y2.at_)
            · rw [h1] at z1
              cases z1
              have z3 := st1.a.fh _ _ z2
              rw [h2.at_] at z3
              cases z3
              exact a2.fh _ _ (s2 _ _ z2)
          · rcases ho i e q with z | ⟨b, u, z1, z2⟩
            · obtain ⟨c, o', y1, y2⟩ := st1.ow i e z
              rw [h1] at y1
              cases y1
              rw [g2 a (fun c => by obtain ⟨_, _, w⟩ := c; rw [y2.nf] at w; cases w)]
              exact a2.dj _ _ (gOwn_at z h1 y2.ng y2.at_)
            · rw [h1] at z1
              cases z1
              exact g1 a ⟨h2.nf, u, z2⟩
      · exact ⟨F2, s1.trans s2, st2, at2⟩
variable {CX : CXT} {kk : Nat} {f C : Addr} {fd : FuncData} {ps : List Str} {x m : Str} {p pos apos : Pos} {e o : Expr} {es : List Expr} {pa : PTA} {S : QSpec}
theorem call_sim {vs : List V} {H : Hp} {Q : VK} {E : XK} {po : Option Pt} {G F : Hp} {σ : L2.St} {env : PEnv} {rs : List RV} {k : RV → PEnv → Prop} {ds : List D} (st : St K po G F H σ env) (hx : XRel K po G F W kx) (a : RvA K po F σ rs vs) (ed : dsO env rs = some ds)
    (hS : S ds (fun t => k t (aftE t rs env)) fun c fs => kx c fs (fzs rs env)) (hE : ∀ c d H', W c d σ H' → E c d H')
    (hq : ∀ (F' H' : Hp) (env' : PEnv) (r : RV) (v : V), Same F F' → St K po G F' H' σ env' → r.At K po G F' H' σ env' v → k r env' → Q v H') : spP K S vs H Q E := by
  obtain ⟨F1, s1, st1, r1, hn, ho, _⟩ := RvA.lend st a ed
  refine ⟨po, gOwn G σ (fzs rs env) H, F1, ds, _, _, st1.gOwnA, r1, hS, fun F2 H2 t v s2 a2 r2 k2 => ?_, fun F2 H2 c d fs s2 a2 x2 k2 => ?_⟩
  · obtain ⟨F3, s3, st3, at3⟩ := call_back st s1 st1 hn ho s2 a2 r2
    exact hq F3 H2 _ t v s3 st3 at3 k2
  · exact hE _ _ _ (hx F2 H2 σ _ c d fs (s1.trans s2) (st1.gBack s2 a2) x2 k2)
theorem q_call (Fn : FnOk X.prog X.w X.K X.mg X.base (L2.CX X.prog X.w) kk f fd ps (spP K S)) (hr : Room kk X.A) (hg : Gl X x) (hm : X.mg x = some (.ref f)) (hk : PySem.W.keepIn X.K (.ref f) = true) (hb : Binds X.K fd ps []) (tk : Takes X W)
    (ha : QA X K W kx (e :: es) pa) (hdb : (x == ("__debug__" : Str)) = false := by decide) (he : starEach (e :: es) X.env = (false, eval e X.env) :: starEach es X.env := by rfl) (hpl : (backTo pos (starEach es X.env)).any (·.1) = false := by rfl) :
    QE X K W kx (.Call (.Name x p) (e :: es) [] pos) (pCall S kx pa) := by
  refine ⟨ha.hK, PE.imp (pe_callS Fn hr hg hm hk hb (fun σ => passAt tk σ) ha.pa hdb he hpl) fun σ H Q ⟨po, G, F, env, k, st, hx, hp, hq⟩ => ⟨po, G, F, env, _, st, hx, hp, fun F1 H1 e1 rs vs s1 st1 a1 ⟨ds, ed, hS⟩ => ?_⟩⟩
  exact call_sim st1 (hx.weak (Same.refl G) s1) a1 ed hS (fun _ _ _ z => z) fun F' H' env' r v s' => hq F' H' env' r v (s1.trans s')
/-- f() -/
theorem q_call0 (Fn : FnOk X.prog X.w X.K X.mg X.base (L2.CX X.prog X.w) kk f fd ps (spP K S)) (hr : Room kk X.A) (hg : Gl X x) (hm : X.mg x = some (.ref f)) (hk : PySem.W.keepIn X.K (.ref f) = true) (hb : Binds X.K fd ps []) (hK : X.K = K)
    (hdb : (x == ("__debug__" : Str)) = false := by decide) : QE X K W kx (.Call (.Name x p) [] [] pos) (pCall S kx0 pANil) := by
  refine ⟨hK, PE.imp (pe_call0 Fn hr hg hm hk hb .nil passL hdb) fun σ H Q ⟨po, G, F, env, k, st, hx, hp, hq⟩ => ?_⟩
  obtain ⟨ds, ed, hS⟩ : ∃ ds, dsO env [] = some ds ∧ S ds (fun t => k t (aftE t [] env)) fun c fs => kx0 c fs (fzs [] env) := hp
  exact call_sim (W := W0) (kx := kx0) st XRel.none .nil ed hS (fun _ _ _ z => z.elim) hq
end
end Pl

/-! operators and built-ins by values -/
namespace Pl
open PySem L2 My PyProof.Rows

theorem OpR.or {X : Cx} {f : Value → Value → Sem Value} {r s : R2} (h1 : OpR X f r) (h2 : OpR X f s) : OpR X f (fun x y H Q => r x y H Q ∨ s x y H Q) := fun pins st σ H x y v u Q I rx ry h =>
  h.elim (h1 pins st σ H x y v u Q I rx ry) (h2 pins st σ H x y v u Q I rx ry)
section
variable {K : PySem.W.Frag}
theorem Reps.mapI {po : Option Pt} {F : Hp} {ns : List Int} {xs : List V} (h : Reps K po F (ns.map D.int) xs) : xs = ns.map V.int := Reps.ofInts h
/-! ### + -/
def opAdd : D → D → (RV → Prop) → Prop
  | .int i, .int j, k => k (.val (.int (i + j)))
  | .str a, .str b, k => a.length + b.length ≤ sizeLine ∧ k (.val (.str (a ++ b)))
  | .tup a, .tup b, k => a.length + b.length ≤ sizeLine ∧ k (.val (.tup (a ++ b)))
  | .lst a, .lst b, k => a.length + b.length ≤ sizeLine ∧ k (.tmp (.lst (a ++ b)))
  | .int i, .bl b, k => k (.val (.int (i + b2i b)))
  | _, _, _ => False
def rAddK (K : PySem.W.Frag) : R2 := fun x y H Q => rI0 (fun i j => .int (i + j)) x y H Q ∨ (∃ i j, x = .str i ∧ y = .str j ∧ i.length + j.length ≤ sizeLine ∧ Q (.str (i ++ j)) H) ∨ rCatA K x y H Q ∨ rCat x y H Q ∨ ∃ i k, x = .int i ∧ y = .bl k ∧ Q (.int (i + b2i k)) H
theorem o_add {X : Cx} (hK : X.K = K) : OpR X (binaryOp .Add) (rAddK K) := by
  subst hK
  exact OpR.or op_add (OpR.or op_add_str (OpR.or op_catA (OpR.or op_cat op_add_ib)))
theorem sim_add : Sim2 K (rAddK K) opAdd := by
  intro po G F H σ env d e v u Q k st hd he hf hq
  have hv : ∀ {d : D} {w : V}, Rep K po F d w → k (.val d) → Q w H := fun {d w} r h => hq F H (.val d) w (Same.refl F) st r h
  unfold opAdd at hf
  split at hf
  · cases hd.int; cases he.int
    exact .inl ⟨_, _, rfl, rfl, hv (Rep.int _) hf⟩
  · cases hd.str; cases he.str
    exact .inr (.inl ⟨_, _, rfl, rfl, hf.1, hv (Rep.str _) hf.2⟩)
  · obtain ⟨a, xs, rfl, f1, h1, r1⟩ := hd.tup st.a.fh
    obtain ⟨b, ys, rfl, f2, h2, r2⟩ := he.tup st.a.fh
    refine .inr (.inr (.inl ⟨a, b, xs, ys, rfl, rfl, h1, h2, by rw [← r1.len, ← r2.len]; exact hf.1, fun e => ?_, fun _ e => ?_, fun _ _ p np => ?_⟩))
    · subst e
      cases r1
      exact hq F H (.val (.tup _)) _ (Same.refl F) st (Rep.tup f2 r2) hf.2
    · subst e
      cases r2
      have q := hf.2
      rw [List.append_nil] at q
      exact hq F H (.val (.tup _)) _ (Same.refl F) st (Rep.tup f1 r1) q
    · have nf := st.a.fh.free np
      exact hq _ _ (.val (.tup _)) _ (Same.new nf) (st.newF np) (Rep.tup upd_same ((r1.app r2).mono (Same.new nf))) hf.2
  · obtain ⟨a, xs, rfl, h1, r1⟩ := hd.lst st.a.fh
    obtain ⟨b, ys, rfl, h2, r2⟩ := he.lst st.a.fh
    refine .inr (.inr (.inr (.inl ⟨a, b, xs, ys, rfl, rfl, h1, h2, by rw [← r1.len, ← r2.len]; exact hf.1, fun p np => ?_⟩)))
    obtain ⟨st2, a2⟩ := st.newT np (RepO.lst (r1.app r2))
    exact hq _ _ _ _ (Same.refl F) st2 a2 hf.2
  · cases hd.int; cases he.bl
    exact .inr (.inr (.inr (.inr ⟨_, _, rfl, rfl, hv (Rep.int _) hf⟩)))
  · exact hf.elim
/-! ### other operators of ints -/
def opI0 (g : Int → Int → Int) : D → D → (RV → Prop) → Prop
  | .int i, .int j, k => k (.val (.int (g i j)))
  | _, _, _ => False
theorem sim_I0 {g : Int → Int → Int} : Sim2 K (rI0 fun i j => .int (g i j)) (opI0 g) := by
  intro po G F H σ env d e v u Q k st hd he hf hq
  have hv : ∀ {d : D} {w : V}, Rep K po F d w → k (.val d) → Q w H := fun {d w} r h => hq F H (.val d) w (Same.refl F) st r h
  unfold opI0 at hf
  split at hf
  · cases hd.int; cases he.int
    exact ⟨_, _, rfl, rfl, hv (Rep.int _) hf⟩
  · exact hf.elim
def opIC (C : Int → Int → Prop) (g : Int → Int → Int) : D → D → (RV → Prop) → Prop
  | .int i, .int j, k => C i j ∧ k (.val (.int (g i j)))
  | _, _, _ => False
theorem sim_IC {C : Int → Int → Prop} {g : Int → Int → Int} : Sim2 K (rI C fun i j => .int (g i j)) (opIC C g) := by
  intro po G F H σ env d e v u Q k st hd he hf hq
  have hv : ∀ {d : D} {w : V}, Rep K po F d w → k (.val d) → Q w H := fun {d w} r h => hq F H (.val d) w (Same.refl F) st r h
  unfold opIC at hf
  split at hf
  · cases hd.int; cases he.int
    exact ⟨_, _, rfl, rfl, hf.1, hv (Rep.int _) hf.2⟩
  · exact hf.elim
def opB0 (g : Int → Int → Bool) : D → D → (RV → Prop) → Prop
  | .int i, .int j, k => k (.val (.bl (g i j)))
  | _, _, _ => False
theorem sim_B0 {g : Int → Int → Bool} : Sim2 K (rI0 fun i j => .bl (g i j)) (opB0 g) := by
  intro po G F H σ env d e v u Q k st hd he hf hq
  have hv : ∀ {d : D} {w : V}, Rep K po F d w → k (.val d) → Q w H := fun {d w} r h => hq F H (.val d) w (Same.refl F) st r h
  unfold opB0 at hf
  split at hf
  · cases hd.int; cases he.int
    exact ⟨_, _, rfl, rfl, hv (Rep.bl _) hf⟩
  · exact hf.elim
abbrev opSub := opI0 fun i j => i - j
abbrev opMod := opIC (fun _ j => 0 < j) fun i j => i % j
abbrev opDiv := opIC CDivW fun i j => i / j
abbrev opPow := opIC CPow fun i j => i ^ j.toNat
abbrev opShl := opIC CShl fun i j => i * 2 ^ j.toNat
abbrev opShr := opIC (fun _ j => 0 ≤ j) fun i j => i / 2 ^ j.toNat
abbrev opAnd := opI0 Builtin.bitAnd
abbrev opOr := opI0 Builtin.bitOr
abbrev opXor := opI0 Builtin.bitXor
abbrev opLt := opB0 fun i j => decide (i < j)
abbrev opLe := opB0 fun i j => decide (i ≤ j)
abbrev opGt := opB0 fun i j => decide (j < i)
abbrev opGe := opB0 fun i j => decide (j ≤ i)
/-! ### * -/
def opMul : D → D → (RV → Prop) → Prop
  | .int i, .int j, k => (CMul i j ∨ CMulW i j) ∧ k (.val (.int (i * j)))
  | .lst a, .int j, k => -(2 ^ 63) ≤ j ∧ j < 2 ^ 63 ∧ a.length * j.toNat ≤ sizeLine ∧ k (.tmp (.lst (List.replicate j.toNat a).flatten))
  | .tup a, .int j, k => a ≠ [] ∧ 2 ≤ j ∧ j ≤ 1000 ∧ a.length ≤ 1000 ∧ k (.val (.tup (List.replicate j.toNat a).flatten))
  | _, _, _ => False
def rMulK (K : PySem.W.Frag) : R2 := fun x y H Q => rI CMul (fun i j => .int (i * j)) x y H Q ∨ rI CMulW (fun i j => .int (i * j)) x y H Q ∨ rRep x y H Q ∨ rRepT K x y H Q
theorem o_mul {X : Cx} (hK : X.K = K) : OpR X (binaryOp .Mult) (rMulK K) := by
  subst hK
  exact OpR.or op_mul (OpR.or op_mulW (OpR.or op_rep op_repT))
theorem Reps.rep {po : Option Pt} {F : Hp} {ds : List D} {xs : List V} (r : Reps K po F ds xs) : ∀ n : Nat, Reps K po F (List.replicate n ds).flatten (List.replicate n xs).flatten
  | 0 => .nil
  | n + 1 => by
    rw [List.replicate_succ, List.replicate_succ, List.flatten_cons, List.flatten_cons]
    exact r.app (Reps.rep r n)
theorem sim_mul : Sim2 K (rMulK K) opMul := by
  intro po G F H σ env d e v u Q k st hd he hf hq
  have hv : ∀ {d : D} {w : V}, Rep K po F d w → k (.val d) → Q w H := fun {d w} r h => hq F H (.val d) w (Same.refl F) st r h
  unfold opMul at hf
  split at hf
  · cases hd.int; cases he.int
    rcases hf.1 with c | c
    · exact .inl ⟨_, _, rfl, rfl, c, hv (Rep.int _) hf.2⟩
    · exact .inr (.inl ⟨_, _, rfl, rfl, c, hv (Rep.int _) hf.2⟩)
  · obtain ⟨a, xs, rfl, h1, r1⟩ := hd.lst st.a.fh
    cases he.int
    refine .inr (.inr (.inl ⟨a, _, xs, rfl, rfl, h1, hf.1, hf.2.1, by rw [← r1.len]; exact hf.2.2.1, fun p np => ?_⟩))
    obtain ⟨st2, a2⟩ := st.newT np (RepO.lst (r1.rep _))
    exact hq _ _ _ _ (Same.refl F) st2 a2 hf.2.2.2
  · obtain ⟨a, xs, rfl, f1, h1, r1⟩ := hd.tup st.a.fh
    cases he.int
    refine .inr (.inr (.inr ⟨a, _, xs, rfl, rfl, h1, fun z => ?_, hf.2.1, hf.2.2.1, by rw [← r1.len]; exact hf.2.2.2.1, fun p np => ?_⟩))
    · subst z; cases r1; exact hf.1 rfl
    · have nf := st.a.fh.free np
      exact hq _ _ (.val (.tup _)) _ (Same.new nf) (st.newF np) (Rep.tup upd_same ((r1.rep _).mono (Same.new nf))) hf.2.2.2.2
  · exact hf.elim
/-! ### data compared -/
mutual
def D.py : D → PyData
  | .non => .none
  | .bl b => .bool b
  | .int i => .int i
  | .str x => .str x
  | .tup ds => .tuple (pys ds)
  | .lst ds => .list (pys ds)
  | _ => .dict []
def pys : List D → List PyData
  | [] => []
  | d :: ds => d.py :: pys ds
end
mutual
/-- data of at most that depth -/
def D.dat : Nat → D → Bool
  | _, .non => true
  | _, .bl _ => true
  | _, .int _ => true
  | _, .str x => PySem.PyData.strOk x
  | n + 1, .tup ds => dats n ds
  | n + 1, .lst ds => dats n ds
  | _, _ => false
def dats : Nat → List D → Bool
  | _, [] => true
  | n, d :: ds => d.dat n && dats n ds
end
def deq (d e : D) : Bool := PyData.eqv d.py e.py
def deqs (ds es : List D) : Bool := PyData.eqvAll (pys ds) (pys es)
mutual
theorem D.dat_ok : ∀ (d : D) (n : Nat), d.dat n = true → d.py.canLay0 = true ∧ d.py.depth ≤ n
  | .non, n, _ => ⟨by rw [D.py, PyData.canLay0], by rw [D.py, PyData.depth]; omega⟩
  | .bl _, n, _ => ⟨by rw [D.py, PyData.canLay0], by rw [D.py, PyData.depth]; omega⟩
  | .int _, n, _ => ⟨by rw [D.py, PyData.canLay0], by rw [D.py, PyData.depth]; omega⟩
  | .str x, n, h => ⟨by rw [D.py, PyData.canLay0]; unfold D.dat at h; exact h, by rw [D.py, PyData.depth]; omega⟩
  | .tup ds, 0, h => by unfold D.dat at h; cases h
  | .tup ds, n + 1, h => by
    unfold D.dat at h
    obtain ⟨h1, h2⟩ := dats_ok ds n h
    exact ⟨by rw [D.py, PyData.canLay0]; exact h1, by rw [D.py, PyData.depth]; omega⟩
  | .lst ds, 0, h => by unfold D.dat at h; cases h
  | .lst ds, n + 1, h => by
    unfold D.dat at h
    obtain ⟨h1, h2⟩ := dats_ok ds n h
    exact ⟨by rw [D.py, PyData.canLay0]; exact h1, by rw [D.py, PyData.depth]; omega⟩
  | .ty _, n, h => by cases n <;> (unfold D.dat at h; cases h)
  | .ad _, n, h => by cases n <;> (unfold D.dat at h; cases h)
  | .pot, n, h => by cases n <;> (unfold D.dat at h; cases h)
  | .ins _ _, n, h => by cases n <;> (unfold D.dat at h; cases h)
  | .dK _, n, h => by cases n <;> (unfold D.dat at h; cases h)
  | .dZ _ _ _, n, h => by cases n <;> (unfold D.dat at h; cases h)
  | .dT _, n, h => by cases n <;> (unfold D.dat at h; cases h)
  | .gtup _, n, h => by cases n <;> (unfold D.dat at h; cases h)
theorem dats_ok : ∀ (ds : List D) (n : Nat), dats n ds = true → PyData.canLayAll0 (pys ds) = true ∧ PyData.depthAll (pys ds) ≤ n
  | [], n, _ => ⟨by rw [pys, PyData.canLayAll0], by rw [pys, PyData.depthAll]; omega⟩
  | d :: ds, n, h => by
    unfold dats at h
    rw [Bool.and_eq_true] at h
    obtain ⟨h1, h2⟩ := D.dat_ok d n h.1
    obtain ⟨h3, h4⟩ := dats_ok ds n h.2
    exact ⟨by rw [pys, PyData.canLayAll0, h1, h3]; rfl, by rw [pys, PyData.depthAll]; exact Nat.max_le.mpr ⟨h2, h4⟩⟩
end
theorem dat_shaped {d : D} {n : Nat} (hn : n ≤ 64) (h : d.dat n = true) : SeqAt.shaped d.py = true := by
  obtain ⟨h1, h2⟩ := d.dat_ok n h
  unfold SeqAt.shaped
  rw [h1, decide_eq_true (Nat.le_trans h2 hn)]
  rfl
theorem dats_len : ∀ ds : List D, (pys ds).length = ds.length
  | [] => rfl
  | d :: ds => by simp [pys, dats_len ds]
mutual
theorem Rep.dp {po : Option Pt} {F : Hp} : ∀ {d : D} {v : V} (n : Nat), Rep K po F d v → d.dat n = true → Dp K F v d.py
  | _, _, _, .non, _ => by rw [D.py]; exact .non
  | _, _, _, .bl b, _ => by rw [D.py]; exact .bl b
  | _, _, _, .int i, _ => by rw [D.py]; exact .int i
  | _, _, _, .str x, _ => by rw [D.py]; exact .str x
  | _, _, 0, .tup _ _, h => by unfold D.dat at h; cases h
  | _, _, n + 1, .tup h r, f => by rw [D.py]; exact .tup (SqT.lt h) (Reps.dp n r (by unfold D.dat at f; exact f))
  | _, _, 0, .lst _ _, h => by unfold D.dat at h; cases h
  | _, _, n + 1, .lst h r, f => by rw [D.py]; exact .lst (.inl (.inl h)) (Reps.dp n r (by unfold D.dat at f; exact f))
  | _, _, n, .ty _, h => by cases n <;> (unfold D.dat at h; cases h)
  | _, _, n, .ad _, h => by cases n <;> (unfold D.dat at h; cases h)
  | _, _, n, .pot _ _, h => by cases n <;> (unfold D.dat at h; cases h)
  | _, _, n, .ins _ _, h => by cases n <;> (unfold D.dat at h; cases h)
  | _, _, n, .dK _ _, h => by cases n <;> (unfold D.dat at h; cases h)
  | _, _, n, .dZ _ _, h => by cases n <;> (unfold D.dat at h; cases h)
  | _, _, n, .dT _ _, h => by cases n <;> (unfold D.dat at h; cases h)
  | _, _, n, .gtup _ _, h => by cases n <;> (unfold D.dat at h; cases h)
theorem Reps.dp {po : Option Pt} {F : Hp} : ∀ {d : List D} {v : List V} (n : Nat), Reps K po F d v → dats n d = true → DpAll K F v (pys d)
  | _, _, _, .nil, _ => by rw [pys]; exact .nil
  | _, _, n, .cons h r, f => by
    unfold dats at f
    rw [Bool.and_eq_true] at f
    rw [pys]
    exact .cons (Rep.dp n h f.1) (Reps.dp n r f.2)
end
mutual
theorem Dp.same {H H' : Hp} (e : Same H H') : ∀ {d : PyData} {v : V}, Dp K H v d → Dp K H' v d
  | _, _, .non => .non
  | _, _, .bl b => .bl b
  | _, _, .int b => .int b
  | _, _, .str b => .str b
  | _, _, .lst h r => .lst (Same.seq e h) (DpAll.same e r)
  | _, _, .tup h r => .tup (SqT.same e h) (DpAll.same e r)
theorem DpAll.same {H H' : Hp} (e : Same H H') : ∀ {d : List PyData} {v : List V}, DpAll K H v d → DpAll K H' v d
  | _, _, .nil => .nil
  | _, _, .cons h r => .cons (Dp.same e h) (DpAll.same e r)
end
theorem Rdb.dp {po : Option Pt} {F H : Hp} {d : D} {v : V} {n : Nat} (s : Same F H) (h : Rdb K po F H d v) (f : d.dat n = true) : Dp K H v d.py := by
  rcases h with h | ⟨a, o, rfl, e, h⟩
  · exact Dp.same s (Rep.dp n h f)
  · cases h with
    | lst r =>
      cases n with
      | zero => unfold D.dat at f; cases f
      | succ n =>
        rw [D.py]
        exact .lst (.inl (.inl e)) (DpAll.same s (Reps.dp n r (by unfold D.dat at f; exact f)))
    | dK r => cases n <;> (unfold D.dat at f; cases f)
    | dZ r => cases n <;> (unfold D.dat at f; cases f)
    | dT r => cases n <;> (unfold D.dat at f; cases f)
    | ins r => cases n <;> (unfold D.dat at f; cases f)
def opEq (neg : Bool) : D → D → (RV → Prop) → Prop := fun d e k => d.dat 60 = true ∧ e.dat 60 = true ∧ k (.val (.bl (if neg then !deq d e else deq d e)))
theorem o_eq {X : Cx} (hK : X.K = K) (hu : X.A.units + 64 < cLine) : OpR X (compareOp .Eq) (rEqD K) := by
  subst hK
  exact op_eqD hu
theorem o_ne {X : Cx} (hK : X.K = K) (hu : X.A.units + 64 < cLine) : OpR X (compareOp .NotEq) (rNeD K) := by
  subst hK
  exact op_neD hu
theorem sim_eq : Sim2 K (rEqD K) (opEq false) := by
  intro po G F H σ env d e v u Q k st hd he hf hq
  have hv : ∀ {d : D} {w : V}, Rep K po F d w → k (.val d) → Q w H := fun {d w} r h => hq F H (.val d) w (Same.refl F) st r h
  exact ⟨_, _, hd.dp st.a.fh hf.1, he.dp st.a.fh hf.2.1, dat_shaped (by decide) hf.1, dat_shaped (by decide) hf.2.1, hv (Rep.bl _) hf.2.2⟩
theorem sim_ne : Sim2 K (rNeD K) (opEq true) := by
  intro po G F H σ env d e v u Q k st hd he hf hq
  have hv : ∀ {d : D} {w : V}, Rep K po F d w → k (.val d) → Q w H := fun {d w} r h => hq F H (.val d) w (Same.refl F) st r h
  exact ⟨_, _, hd.dp st.a.fh hf.1, he.dp st.a.fh hf.2.1, dat_shaped (by decide) hf.1, dat_shaped (by decide) hf.2.1, hv (Rep.bl _) hf.2.2⟩
/-! ### in -/
def inD (d : D) (es : List D) : Bool := es.any fun e => deq e d
def opIn (neg : Bool) : D → D → (RV → Prop) → Prop
  | d, .lst es, k => d.dat 60 = true ∧ (D.lst es).dat 60 = true ∧ k (.val (.bl (if neg then !inD d es else inD d es)))
  | .int i, .tup es, k => ∃ ns : List Int, es = ns.map D.int ∧ k (.val (.bl (if neg then !decide (i ∈ ns) else decide (i ∈ ns))))
  | .str a, .str b, k => k (.val (.bl (if neg then !(!(Builtin.Str.occurrences b a 0 b.length 1).isEmpty) else !(Builtin.Str.occurrences b a 0 b.length 1).isEmpty)))
  | _, _, _ => False
def rInK (K : PySem.W.Frag) : R2 := fun x y H Q => rInD K x y H Q ∨ rIn K false x y H Q ∨ ∃ i j, x = .str i ∧ y = .str j ∧ Q (.bl (!(Builtin.Str.occurrences j i 0 j.length 1).isEmpty)) H
def rNotInK (K : PySem.W.Frag) : R2 := fun x y H Q => rNotInD K x y H Q ∨ rIn K true x y H Q ∨ ∃ i j, x = .str i ∧ y = .str j ∧ Q (.bl (!(!(Builtin.Str.occurrences j i 0 j.length 1).isEmpty))) H
theorem o_in {X : Cx} (hK : X.K = K) (hu : X.A.units + 65 < cLine) : OpR X (compareOp .In) (rInK K) := by
  subst hK
  exact OpR.or (op_inD hu) (OpR.or op_in_seq op_in_str)
theorem o_notin {X : Cx} (hK : X.K = K) (hu : X.A.units + 65 < cLine) : OpR X (compareOp .NotIn) (rNotInK K) := by
  subst hK
  exact OpR.or (op_notInD hu) (OpR.or op_notIn_seq op_notin_str)
theorem any_py (d : D) : ∀ es : List D, ((pys es).any fun z => PyData.eqv z d.py) = inD d es
  | [] => rfl
  | e :: es => by
    unfold inD
    rw [pys, List.any_cons, List.any_cons]
    have := any_py d es
    unfold inD at this
    rw [this]
    rfl
theorem Rdb.lstDp {po : Option Pt} {F H : Hp} {es : List D} {v : V} {n : Nat} (s : Same F H) (h : Rdb K po F H (.lst es) v) (f : (D.lst es).dat n = true) : Dp K H v (.list (pys es)) := by
  have := h.dp s f
  rw [D.py] at this
  exact this
theorem sim_in (neg : Bool) : Sim2 K (if neg then rNotInK K else rInK K) (opIn neg) := by
  intro po G F H σ env d e v u Q k st hd he hf hq
  have hv : ∀ {d : D} {w : V}, Rep K po F d w → k (.val d) → Q w H := fun {d w} r h => hq F H (.val d) w (Same.refl F) st r h
  unfold opIn at hf
  split at hf
  · obtain ⟨h1, h2, h3⟩ := hf
    have sh := dat_shaped (by decide) h2
    rw [D.py] at sh
    have q := hv (Rep.bl _) h3
    cases neg with
    | true =>
      rw [if_pos rfl] at q ⊢
      exact .inl ⟨_, _, hd.dp st.a.fh h1, he.lstDp st.a.fh h2, dat_shaped (by decide) h1, sh, by rw [any_py]; exact q⟩
    | false =>
      rw [if_neg (by decide)] at q ⊢
      exact .inl ⟨_, _, hd.dp st.a.fh h1, he.lstDp st.a.fh h2, dat_shaped (by decide) h1, sh, by rw [any_py]; exact q⟩
  · obtain ⟨ns, rfl, h3⟩ := hf
    cases hd.int
    obtain ⟨b, ys, rfl, f2, h2, r2⟩ := he.tup st.a.fh
    cases r2.mapI
    have q := hv (Rep.bl _) h3
    cases neg with
    | true =>
      rw [if_pos rfl] at q ⊢
      exact .inr (.inl ⟨b, _, rfl, .inr h2, rfl, flat_ints ns, by rw [if_pos rfl, inV_ints]; exact q⟩)
    | false =>
      rw [if_neg (by decide)] at q ⊢
      exact .inr (.inl ⟨b, _, rfl, .inr h2, rfl, flat_ints ns, by rw [if_neg (by decide), inV_ints]; exact q⟩)
  · cases hd.str; cases he.str
    have q := hv (Rep.bl _) hf
    cases neg with
    | true => exact .inr (.inr ⟨_, _, rfl, rfl, q⟩)
    | false => exact .inr (.inr ⟨_, _, rfl, rfl, q⟩)
  · exact hf.elim
/-! ### is -/
def isNon : D → Bool
  | .non => true
  | _ => false
def opIs (neg : Bool) : D → D → (RV → Prop) → Prop
  | d, .non, k => k (.val (.bl (if neg then !isNon d else isNon d)))
  | .bl a, .bl b, k => k (.val (.bl (if neg then !decide (a = b) else decide (a = b))))
  | _, _, _ => False
def rIsK' : R2 := fun x y H Q => (y = .non ∧ Q (.bl (decide (x = .non))) H) ∨ rIsB x y H Q
def rIsNotK' : R2 := fun x y H Q => (y = .non ∧ Q (.bl (!decide (x = .non))) H) ∨ rNotB x y H Q
theorem o_is {X : Cx} : OpR X (compareOp .Is) rIsK' := OpR.or op_isN op_isBl
theorem o_isnot {X : Cx} : OpR X (compareOp .IsNot) rIsNotK' := OpR.or op_notN op_notBl
theorem Rdb.isN {po : Option Pt} {F H : Hp} {d : D} {v : V} (h : Rdb K po F H d v) : decide (v = .non) = isNon d := by
  rcases h with h | ⟨a, o, rfl, e, h⟩
  · cases h <;> rfl
  · cases h <;> rfl
theorem sim_is (neg : Bool) : Sim2 K (if neg then rIsNotK' else rIsK') (opIs neg) := by
  intro po G F H σ env d e v u Q k st hd he hf hq
  have hv : ∀ {d : D} {w : V}, Rep K po F d w → k (.val d) → Q w H := fun {d w} r h => hq F H (.val d) w (Same.refl F) st r h
  unfold opIs at hf
  split at hf
  · cases he.non
    have q := hv (Rep.bl _) hf
    cases neg with
    | true => exact .inl ⟨rfl, by rw [hd.isN]; exact q⟩
    | false => exact .inl ⟨rfl, by rw [hd.isN]; exact q⟩
  · cases hd.bl; cases he.bl
    have q := hv (Rep.bl _) hf
    cases neg with
    | true => exact .inr ⟨_, _, rfl, rfl, q⟩
    | false => exact .inr ⟨_, _, rfl, rfl, q⟩
  · exact hf.elim
/-! ### items, slices -/
theorem Reps.atI {po : Option Pt} {F : Hp} {ds : List D} {xs : List V} {i : Int} {d : D} (r : Reps K po F ds xs) (h : L2.atI ds i = some d) : ∃ v, L2.atI xs i = some v ∧ Rep K po F d v := by
  unfold L2.atI at h ⊢
  rw [← r.len]
  cases q : ixN ds.length i with
  | none => rw [q] at h; cases h
  | some j =>
    rw [q] at h
    exact r.get h
def opIx : D → D → (RV → Prop) → Prop
  | .lst ds, .int i, k => ∃ d, L2.atI ds i = some d ∧ k (.val d)
  | .tup ds, .int i, k => ∃ d, L2.atI ds i = some d ∧ k (.val d)
  | .str z, .int i, k => z.length ≤ sizeLine ∧ ∃ c, L2.atI z.cps.toList i = some c ∧ k (.val (.str ⟨#[c]⟩))
  | _, _, _ => False
theorem i_seq {X : Cx} (hK : X.K = K) : IxR X (rIx K) := by
  subst hK
  exact ix_seq
theorem sim_ix : Sim2 K (rIx K) opIx := by
  intro po G F H σ env d e v u Q k st hd he hf hq
  have hv : ∀ {d : D} {w : V}, Rep K po F d w → k (.val d) → Q w H := fun {d w} r h => hq F H (.val d) w (Same.refl F) st r h
  unfold opIx at hf
  split at hf
  · obtain ⟨d, ed, kk⟩ := hf
    obtain ⟨a, xs, rfl, h1, r1⟩ := hd.lst st.a.fh
    cases he.int
    obtain ⟨w, h2, h3⟩ := r1.atI ed
    exact .inl ⟨a, xs, _, w, rfl, rfl, .inl (.inl h1), h2, hv h3 kk⟩
  · obtain ⟨d, ed, kk⟩ := hf
    obtain ⟨a, xs, rfl, f1, h1, r1⟩ := hd.tup st.a.fh
    cases he.int
    obtain ⟨w, h2, h3⟩ := r1.atI ed
    exact .inr (.inl ⟨a, xs, _, w, rfl, rfl, h1, h2, hv h3 kk⟩)
  · obtain ⟨hl, c, ec, kk⟩ := hf
    cases hd.str; cases he.int
    exact .inr (.inr ⟨_, _, c, rfl, rfl, hl, ec, hv (Rep.str _) kk⟩)
  · exact hf.elim
def cutD (xs : List D) (lo hi : Option Int) : List D := (xs.drop (HT.sIx xs.length 0 lo)).take (HT.sIx xs.length xs.length hi - HT.sIx xs.length 0 lo)
theorem Reps.cut {po : Option Pt} {F : Hp} {ds : List D} {xs : List V} (r : Reps K po F ds xs) (lo hi : Option Int) : Reps K po F (cutD ds lo hi) (cutV xs lo hi) := by
  unfold cutD cutV
  rw [← r.len]
  exact (r.drop _).take _
def opSl (lo hi : Option Int) : D → (RV → Prop) → Prop
  | .lst ds, k => k (.tmp (.lst (cutD ds lo hi)))
  | .tup ds, k => k (.val (.tup (cutD ds lo hi)))
  | .str z, k => z.length ≤ sizeLine ∧ k (.val (.str (cutS z lo hi)))
  | _, _ => False
def rSlK (K : PySem.W.Frag) : V → Option Int → Option Int → Hp → VK → Prop := fun x lo hi H Q => rSlL K x lo hi H Q ∨ rSlA K x lo hi H Q ∨ rSlS x lo hi H Q
theorem SlR.or {X : Cx} {r s : V → Option Int → Option Int → Hp → VK → Prop} (h1 : SlR X r) (h2 : SlR X s) : SlR X (fun x lo hi H Q => r x lo hi H Q ∨ s x lo hi H Q) := fun pins st σ H x v vl vu lo hi sl Q I rx hs pl pu h =>
  h.elim (fun z => h1 pins st σ H x v vl vu lo hi sl Q I rx hs pl pu z) (fun z => h2 pins st σ H x v vl vu lo hi sl Q I rx hs pl pu z)
theorem s_seq {X : Cx} (hK : X.K = K) : SlR X (rSlK K) := by
  subst hK
  exact SlR.or sl_list (SlR.or sl_tupA sl_str)
end
end Pl

/-! slices, built-ins, walks, methods of lists -/
namespace Pl
open PySem L2 My PyProof.Rows PySem.Spec

section
variable {X : Cx} {K : PySem.W.Frag} {W : WX} {kx : KX}
/-! ### rules of operators in short -/
theorem q_add {a b : Expr} {pa pb : PTE} {pos : Pos} (ha : QE X K W kx a pa) (hb : QE X K W kx b pb) : QE X K W kx (.BinOp a .Add b pos) (pBin opAdd pa pb) := q_op (o_add ha.hK) sim_add ha hb
theorem q_sub {a b : Expr} {pa pb : PTE} {pos : Pos} (ha : QE X K W kx a pa) (hb : QE X K W kx b pb) : QE X K W kx (.BinOp a .Sub b pos) (pBin opSub pa pb) := q_op op_sub sim_I0 ha hb
theorem q_mul {a b : Expr} {pa pb : PTE} {pos : Pos} (ha : QE X K W kx a pa) (hb : QE X K W kx b pb) : QE X K W kx (.BinOp a .Mult b pos) (pBin opMul pa pb) := q_op (o_mul ha.hK) sim_mul ha hb
theorem q_mod {a b : Expr} {pa pb : PTE} {pos : Pos} (ha : QE X K W kx a pa) (hb : QE X K W kx b pb) : QE X K W kx (.BinOp a .Mod b pos) (pBin opMod pa pb) := q_op op_mod sim_IC ha hb
theorem q_div {a b : Expr} {pa pb : PTE} {pos : Pos} (ha : QE X K W kx a pa) (hb : QE X K W kx b pb) : QE X K W kx (.BinOp a .FloorDiv b pos) (pBin opDiv pa pb) := q_op op_fdivW sim_IC ha hb
theorem q_pow {a b : Expr} {pa pb : PTE} {pos : Pos} (ha : QE X K W kx a pa) (hb : QE X K W kx b pb) : QE X K W kx (.BinOp a .Pow b pos) (pBin opPow pa pb) := q_op op_pow sim_IC ha hb
theorem q_shl {a b : Expr} {pa pb : PTE} {pos : Pos} (ha : QE X K W kx a pa) (hb : QE X K W kx b pb) : QE X K W kx (.BinOp a .LShift b pos) (pBin opShl pa pb) := q_op op_shlW sim_IC ha hb
theorem q_shr {a b : Expr} {pa pb : PTE} {pos : Pos} (ha : QE X K W kx a pa) (hb : QE X K W kx b pb) : QE X K W kx (.BinOp a .RShift b pos) (pBin opShr pa pb) := q_op op_shr sim_IC ha hb
theorem q_band {a b : Expr} {pa pb : PTE} {pos : Pos} (ha : QE X K W kx a pa) (hb : QE X K W kx b pb) : QE X K W kx (.BinOp a .BitAnd b pos) (pBin opAnd pa pb) := q_op op_and sim_I0 ha hb
theorem q_bor {a b : Expr} {pa pb : PTE} {pos : Pos} (ha : QE X K W kx a pa) (hb : QE X K W kx b pb) : QE X K W kx (.BinOp a .BitOr b pos) (pBin opOr pa pb) := q_op op_or sim_I0 ha hb
theorem q_bxor {a b : Expr} {pa pb : PTE} {pos : Pos} (ha : QE X K W kx a pa) (hb : QE X K W kx b pb) : QE X K W kx (.BinOp a .BitXor b pos) (pBin opXor pa pb) := q_op op_xor sim_I0 ha hb
/-- one comparison, for a value and for a test -/
structure CmpQ (X : Cx) (K : PySem.W.Frag) (op : CmpOp) (f : D → D → (RV → Prop) → Prop) : Prop where
  ex : ∃ r, OpR X (compareOp op) r ∧ Sim2 K r f
theorem c_lt : CmpQ X K .Lt opLt := ⟨_, op_lt, sim_B0⟩
theorem c_le : CmpQ X K .LtE opLe := ⟨_, op_le, sim_B0⟩
theorem c_gt : CmpQ X K .Gt opGt := ⟨_, op_gt, sim_B0⟩
theorem c_ge : CmpQ X K .GtE opGe := ⟨_, op_ge, sim_B0⟩
theorem c_eq (hK : X.K = K) (hu : X.A.units + 64 < cLine) : CmpQ X K .Eq (opEq false) := ⟨_, o_eq hK hu, sim_eq⟩
theorem c_ne (hK : X.K = K) (hu : X.A.units + 64 < cLine) : CmpQ X K .NotEq (opEq true) := ⟨_, o_ne hK hu, sim_ne⟩
theorem c_in (hK : X.K = K) (hu : X.A.units + 65 < cLine) : CmpQ X K .In (opIn false) := ⟨_, o_in hK hu, sim_in false⟩
theorem c_notin (hK : X.K = K) (hu : X.A.units + 65 < cLine) : CmpQ X K .NotIn (opIn true) := ⟨_, o_notin hK hu, sim_in true⟩
theorem c_is : CmpQ X K .Is (opIs false) := ⟨_, o_is, sim_is false⟩
theorem c_isnot : CmpQ X K .IsNot (opIs true) := ⟨_, o_isnot, sim_is true⟩
theorem q_cmp1 {op : CmpOp} {f : D → D → (RV → Prop) → Prop} {a b : Expr} {pa pb : PTE} {pos : Pos} (c : CmpQ X K op f) (ha : QE X K W kx a pa) (hb : QE X K W kx b pb) (hm : behindInMarks op b = false) : QE X K W kx (.Compare a [op] [b] pos) (pBin f pa pb) := by
  obtain ⟨r, h1, h2⟩ := c.ex
  exact q_cmp h1 h2 ha hb hm
theorem qt_cmp1 {op : CmpOp} {f : D → D → (RV → Prop) → Prop} {a b : Expr} {pa pb : PTE} {pos : Pos} (c : CmpQ X K op f) (ha : QE X K W kx a pa) (hb : QE X K W kx b pb) (hm : behindInMarks op b = false) : QT X K W kx (.Compare a [op] [b] pos) (pTest (pBin f pa pb)) := by
  obtain ⟨r, h1, h2⟩ := c.ex
  exact qt_cmp h1 h2 ha hb hm
/-- a < b < c: the answers of both are bools -/
def pChain (f g : D → D → (RV → Prop) → Prop) (pa pb pc : PTE) : PTE := fun env k => pa env fun r e1 => pb e1 fun s e2 => wD r e2 fun d => wD s e2 fun e => f d e fun t => ∃ b, t = .val (.bl b) ∧
  if b = true then pc e2 fun u e3 => wD s e3 fun e' => wD u e3 fun c => g e' c fun t => k t e3 else k (.val (.bl false)) e2
theorem liftChain {r r' : R2} {f g : D → D → (RV → Prop) → Prop} {pa pb pc : PTE} (hs : Sim2 K r f) (hs' : Sim2 K r' g) (σ : L2.St) (H : Hp) (Q : VK) (h : lift K W kx (pChain f g pa pb pc) σ H Q) : tChain r r' (lift K W kx pa) (lift K W kx pb) (lift K W kx pc) σ H Q := by
  obtain ⟨po, G, F, env, k, st, hx, hp, hq⟩ := h
  refine ⟨po, G, F, env, _, st, hx, hp, fun F1 H1 e1 r1 v1 s1 st1 at1 k1 => ?_⟩
  obtain ⟨G2, sG, st2, back⟩ := RV.hold st1 at1
  refine ⟨po, G2, F1, e1, _, st2, hx.weak sG s1, k1, fun F2 H2 e2 r2 v2 s2 st3 at2 k2 => ?_⟩
  obtain ⟨st4, at3⟩ := back F2 H2 e2 s2 st3
  obtain ⟨d, ed, e, ee, z⟩ := k2
  have at2' := at2.weak sG
  obtain ⟨G3, sG3, st5, back3⟩ := RV.hold st4 at2'
  refine hs po G3 F2 H2 σ e2 d e v1 v2 _ _ st5 (RV.rd st4 at3 ed) (RV.rd st4 at2' ee) z fun F3 H3 t w s3 st6 a6 ⟨b, et, kb⟩ => ?_
  subst et
  obtain ⟨st7, at7⟩ := back3 F3 H3 e2 s3 st6
  have ew : w = .bl b := by
    have a6 : Rep K po F3 (.bl b) w := a6
    cases a6
    rfl
  subst ew
  refine ⟨b, rfl, ?_⟩
  have s03 := (s1.trans s2).trans s3
  cases b with
  | false => exact hq F3 H3 e2 (.val (.bl false)) _ s03 st7 (Rep.bl false) kb
  | true =>
    refine ⟨po, G3, F3, e2, _, st6, hx.weak sG3 s03, kb, fun F4 H4 e4 u w' s4 st8 a8 k8 => ?_⟩
    obtain ⟨st9, at9⟩ := back3 F4 H4 e4 (s3.trans s4) st8
    obtain ⟨e', ee', c, ec, z2⟩ := k8
    exact hs' po G F4 H4 σ e4 e' c v2 w' Q _ st9 (RV.rd st9 at9 ee') (RV.rd st9 (a8.weak sG3) ec) z2 fun F' H' t w s st' a' kk => hq F' H' e4 t w ((s03.trans s4).trans s) st' a' kk
theorem q_chain {op op' : CmpOp} {f g : D → D → (RV → Prop) → Prop} {a b c : Expr} {pa pb pc : PTE} {pos : Pos} (h1 : CmpQ X K op f) (h2 : CmpQ X K op' g) (ha : QE X K W kx a pa) (hb : QE X K W kx b pb) (hc : QE X K W kx c pc) (hm : lastMarks [op, op'] [b, c] = false := by with_unfolding_all rfl) :
    QE X K W kx (.Compare a [op, op'] [b, c] pos) (pChain f g pa pb pc) := by
  obtain ⟨r, o1, s1⟩ := h1.ex
  obtain ⟨r', o2, s2⟩ := h2.ex
  exact ⟨ha.hK, PE.imp (pe_chain o1 o2 ha.pe hb.pe hc.pe hm) (liftChain s1 s2)⟩
theorem qt_chain {op op' : CmpOp} {f g : D → D → (RV → Prop) → Prop} {a b c : Expr} {pa pb pc : PTE} {pos : Pos} (h1 : CmpQ X K op f) (h2 : CmpQ X K op' g) (ha : QE X K W kx a pa) (hb : QE X K W kx b pb) (hc : QE X K W kx c pc) (hm : lastMarks [op, op'] [b, c] = false := by with_unfolding_all rfl) :
    QT X K W kx (.Compare a [op, op'] [b, c] pos) (pTest (pChain f g pa pb pc)) := by
  obtain ⟨r, o1, s1⟩ := h1.ex
  obtain ⟨r', o2, s2⟩ := h2.ex
  refine ⟨ha.hK, PT.imp (pt_chain o1 o2 ha.pe hb.pe hc.pe hm) fun σ H Q h => ?_⟩
  have h2 := liftTest σ H Q h
  exact liftChain s1 s2 σ H _ h2
/-- -a, ~a -/
def pUn (g : Int → Int) (p : PTE) : PTE := fun env k => p env fun r e1 => wD r e1 fun d => ∃ i, d = .int i ∧ k (.val (.int (g i))) e1
theorem q_un {op : UnaryOp} {g : Int → Int} {a : Expr} {p : PTE} {pos : Pos} (ho : UnR X (unaryOp op) (rU fun i => .int (g i))) (ha : QE X K W kx a p) : QE X K W kx (.UnaryOp op a pos) (pUn g p) :=
  ⟨ha.hK, PE.imp (pe_un ho ha.pe) fun σ H Q ⟨po, G, F, env, k, st, hx, hp, hq⟩ => ⟨po, G, F, env, _, st, hx, hp, fun F1 H1 e1 r v s1 st1 a1 ⟨d, ed, i, ei, kk⟩ => by
    subst ei
    exact ⟨i, (RV.rd st1 a1 ed).int, hq F1 H1 e1 (.val (.int (g i))) _ s1 st1 (Rep.int _) kk⟩⟩⟩
theorem q_neg {a : Expr} {p : PTE} {pos : Pos} (ha : QE X K W kx a p) : QE X K W kx (.UnaryOp .USub a pos) (pUn (fun i => -i) p) := q_un un_neg ha
theorem q_ix {a b : Expr} {pa pb : PTE} {pos : Pos} (ha : QE X K W kx a pa) (hb : QE X K W kx b pb) (hs : PlainIx b) : QE X K W kx (.Subscript a b pos) (pBin opIx pa pb) :=
  ⟨ha.hK, PE.imp (pe_ix (i_seq ha.hK) ha.pe hb.pe hs) (lift2 sim_ix)⟩
/-! ### slices -/
abbrev PTO := PEnv → (Option Int → PEnv → Prop) → Prop
def liftO (K : PySem.W.Frag) (W : WX) (kx : KX) (p : PTO) : TO := fun σ H Q => ∃ (po : Option Pt) (G F : Hp) (env : PEnv) (k : Option Int → PEnv → Prop), St K po G F H σ env ∧ XRel K po G F W kx ∧ p env k ∧
  ∀ (F' H' : Hp) (env' : PEnv) (i : Option Int), Same F F' → St K po G F' H' σ env' → k i env' → Q i H'
structure QO (X : Cx) (K : PySem.W.Frag) (W : WX) (kx : KX) (e : Option Expr) (p : PTO) : Prop where
  hK : X.K = K
  po : PO X e (liftO K W kx p)
theorem PO.imp {e : Option Expr} {t t' : TO} (h : PO X e t) (i : ∀ σ H Q, t' σ H Q → t σ H Q) : PO X e t' := ⟨fun pins s σ H Q I q => h.run pins s σ H Q I (i _ _ _ q)⟩
def pNoP : PTO := fun env k => k none env
def pPart (p : PTE) : PTO := fun env k => p env fun r e1 => wD r e1 fun d => ∃ i, d = .int i ∧ k (some i) e1
theorem qo_none (hK : X.K = K) : QO X K W kx none pNoP := ⟨hK, PO.imp po_none fun σ H Q ⟨po, G, F, env, k, st, hx, hp, hq⟩ => hq F H env none (Same.refl F) st hp⟩
theorem qo_some {e : Expr} {p : PTE} (h : QE X K W kx e p) : QO X K W kx (some e) (pPart p) := ⟨h.hK, PO.imp (po_some h.pe) fun σ H Q ⟨po, G, F, env, k, st, hx, hp, hq⟩ => ⟨po, G, F, env, _, st, hx, hp, fun F1 H1 e1 r v s1 st1 a1 ⟨d, ed, i, ei, kk⟩ => by
  subst ei
  exact ⟨i, (RV.rd st1 a1 ed).int, hq F1 H1 e1 (some i) s1 st1 kk⟩⟩⟩
def pSl (pa : PTE) (pl ph : PTO) : PTE := fun env k => pa env fun r e1 => pl e1 fun lo e2 => ph e2 fun hi e3 => wD r e3 fun d => opSl lo hi d fun t => k t e3
theorem q_slice {e : Expr} {lo hi : Option Expr} {pa : PTE} {pl ph : PTO} {p2 pos : Pos} (ha : QE X K W kx e pa) (hl : QO X K W kx lo pl) (hh : QO X K W kx hi ph) : QE X K W kx (.Subscript e (.Slice lo hi none p2) pos) (pSl pa pl ph) := by
  refine ⟨ha.hK, PE.imp (pe_slice (s_seq ha.hK) ha.pe hl.po hh.po) fun σ H Q ⟨po, G, F, env, k, st, hx, hp, hq⟩ => ⟨po, G, F, env, _, st, hx, hp, fun F1 H1 e1 r1 v1 s1 st1 at1 k1 => ?_⟩⟩
  obtain ⟨G2, sG, st2, back⟩ := RV.hold st1 at1
  refine ⟨po, G2, F1, e1, _, st2, hx.weak sG s1, k1, fun F2 H2 e2 lo s2 st3 k2 => ⟨po, G2, F2, e2, _, st3, hx.weak sG (s1.trans s2), k2, fun F3 H3 e3 hi s3 st4 k3 => ?_⟩⟩
  obtain ⟨st5, at5⟩ := back F3 H3 e3 (s2.trans s3) st4
  obtain ⟨d, ed, hf⟩ := k3
  have hd := RV.rd st5 at5 ed
  have s03 := (s1.trans s2).trans s3
  unfold opSl at hf
  split at hf
  · obtain ⟨a, xs, rfl, h1, r1⟩ := hd.lst st5.a.fh
    refine .inl ⟨a, xs, rfl, .inl (.inl h1), fun p np => ?_⟩
    obtain ⟨st6, a6⟩ := st5.newT np (RepO.lst (r1.cut lo hi))
    exact hq _ _ _ _ _ s03 st6 a6 hf
  · obtain ⟨a, xs, rfl, f1, h1, r1⟩ := hd.tup st5.a.fh
    refine .inr (.inl ⟨a, xs, rfl, h1, fun z => ?_, fun _ p np => ?_⟩)
    · have e : ∀ ds : List D, ds.length = xs.length → cutD ds lo hi = ds := fun ds hl => by
        unfold cutD
        rw [hl, z.1, z.2, List.drop_zero, Nat.sub_zero, ← hl, List.take_length]
      rw [e _ r1.len] at hf
      exact hq F3 H3 e3 (.val (.tup _)) _ s03 st5 (Rep.tup f1 r1) hf
    · have nf := st5.a.fh.free np
      exact hq _ _ e3 (.val (.tup _)) _ (s03.trans (Same.new nf)) (st5.newF np) (Rep.tup upd_same ((r1.cut lo hi).mono (Same.new nf))) hf
  · cases hd.str
    exact .inr (.inr ⟨_, rfl, hf.1, hq F3 H3 e3 (.val (.str _)) _ s03 st5 (Rep.str _) hf.2⟩)
  · exact hf.elim
/-! ### built-ins -/
def SimC (K : PySem.W.Frag) (r : List V → Hp → VK → Prop) (f : List D → (RV → Prop) → Prop) : Prop := ∀ (po : Option Pt) (G F H : Hp) (σ : L2.St) (env : PEnv) (ds : List D) (vs : List V) (Q : VK) (k : RV → Prop), St K po G F H σ env → Rdbs K po F H ds vs → f ds k →
  (∀ (F' H' : Hp) (t : RV) (w : V), Same F F' → St K po G F' H' σ env → t.At K po G F' H' σ env w → k t → Q w H') → r vs H Q
def pCB (f : List D → (RV → Prop) → Prop) (p : PTA) : PTE := fun env k => p env fun rs e1 => ∃ ds, dsO e1 rs = some ds ∧ f ds fun t => k t e1
theorem liftCB {r : List V → Hp → VK → Prop} {f : List D → (RV → Prop) → Prop} {p : PTA} (hs : SimC K r f) (σ : L2.St) (H : Hp) (Q : VK) (h : lift K W kx (pCB f p) σ H Q) : tCB r (liftA K W kx p) σ H Q := by
  obtain ⟨po, G, F, env, k, st, hx, hp, hq⟩ := h
  exact ⟨po, G, F, env, _, st, hx, hp, fun F1 H1 e1 rs vs s1 st1 a1 ⟨ds, ed, hf⟩ => hs po G F1 H1 σ e1 ds vs Q _ st1 (a1.rd st1 ed) hf fun F' H' t w s st' a' kk => hq F' H' e1 t w (s1.trans s) st' a' kk⟩
theorem q_callB {x : Str} {id' : String} {r : List V → Hp → VK → Prop} {f : List D → (RV → Prop) → Prop} {e : Expr} {es : List Expr} {p : PTA} {pp pos : Pos} (hc : CallR X (.builtin id') r) (hs : SimC K r f) (hg : Gl X x) (hm : X.mg x = none) (hv : bootBuiltins x = some (.builtin id')) (ha : QA X K W kx (e :: es) p)
    (hn : x ≠ "__name__" := by decide) (hdb : (x == ("__debug__" : Str)) = false := by decide) (he : starEach (e :: es) X.env = (false, eval e X.env) :: starEach es X.env := by rfl) (hpl : (backTo pos (starEach es X.env)).any (·.1) = false := by rfl) :
    QE X K W kx (.Call (.Name x pp) (e :: es) [] pos) (pCB f p) := ⟨ha.hK, PE.imp (pe_callB hc hg hm hv ha.pa hn hdb he hpl) (liftCB hs)⟩
theorem q_callTy {x : Str} {T : String} {r : List V → Hp → VK → Prop} {f : List D → (RV → Prop) → Prop} {e : Expr} {es : List Expr} {p : PTA} {pp pos : Pos} (hc : CallR X (.type T) r) (hs : SimC K r f) (hg : Gl X x) (hm : X.mg x = none) (hv : bootBuiltins x = some (.type T)) (ha : QA X K W kx (e :: es) p)
    (hn : x ≠ "__name__" := by decide) (hdb : (x == ("__debug__" : Str)) = false := by decide) (he : starEach (e :: es) X.env = (false, eval e X.env) :: starEach es X.env := by rfl) (hpl : (backTo pos (starEach es X.env)).any (·.1) = false := by rfl) :
    QE X K W kx (.Call (.Name x pp) (e :: es) [] pos) (pCB f p) := ⟨ha.hK, PE.imp (pe_callTy hc hg hm hv ha.pa hn hdb he hpl) (liftCB hs)⟩
theorem q_callF {x : Str} {id : String} {r : List V → Hp → VK → Prop} {f : List D → (RV → Prop) → Prop} {e : Expr} {es : List Expr} {p : PTA} {pp pos : Pos} (hc : CallR X (.builtin id) r) (hs : SimC K r f) (hg : Gl X x) (hm : X.mg x = some (.builtin id)) (ha : QA X K W kx (e :: es) p)
    (hdb : (x == ("__debug__" : Str)) = false := by decide) (he : starEach (e :: es) X.env = (false, eval e X.env) :: starEach es X.env := by rfl) (hpl : (backTo pos (starEach es X.env)).any (·.1) = false := by rfl) :
    QE X K W kx (.Call (.Name x pp) (e :: es) [] pos) (pCB f p) := ⟨ha.hK, PE.imp (pe_callBfun hc hg hm ha.pa hdb he hpl) (liftCB hs)⟩
theorem CallR.or {f : Value} {r s : List V → Hp → VK → Prop} (h1 : CallR X f r) (h2 : CallR X f s) : CallR X f (fun xs H Q => r xs H Q ∨ s xs H Q) := fun pins st σ H xs us Q I rr h =>
  h.elim (h1 pins st σ H xs us Q I rr) (h2 pins st σ H xs us Q I rr)
end
section
variable {K : PySem.W.Frag} {po : Option Pt} {F H : Hp}
theorem Rdbs.one {d : D} {vs : List V} (h : Rdbs K po F H [d] vs) : ∃ v, vs = [v] ∧ Rdb K po F H d v := by
  obtain ⟨v, us, rfl, h1, h2⟩ := h
  have h2 : us = [] := h2
  subst h2
  exact ⟨v, rfl, h1⟩
theorem Rdbs.two {d e : D} {vs : List V} (h : Rdbs K po F H [d, e] vs) : ∃ v u, vs = [v, u] ∧ Rdb K po F H d v ∧ Rdb K po F H e u := by
  obtain ⟨v, us, rfl, h1, h2⟩ := h
  obtain ⟨u, rfl, h3⟩ := Rdbs.one h2
  exact ⟨v, u, rfl, h1, h3⟩
theorem Rdb.dK {kvs : List (Key × D)} {v : V} (s : Same F H) (h : Rdb K po F H (.dK kvs) v) : ∃ a xs, v = .ref a ∧ H a = some (.dK xs) ∧ RepK K po F kvs xs := by
  rcases h with h | ⟨a, o, rfl, e, h⟩
  · cases h with
    | dK h1 h2 => exact ⟨_, _, rfl, s _ _ h1, h2⟩
  · cases h with
    | dK r => exact ⟨_, _, rfl, e, r⟩
theorem Rdb.dT {kvs : List (List Key × D)} {v : V} (s : Same F H) (h : Rdb K po F H (.dT kvs) v) : ∃ a xs, v = .ref a ∧ H a = some (.dT xs) ∧ RepT K po F kvs xs := by
  rcases h with h | ⟨a, o, rfl, e, h⟩
  · cases h with
    | dT h1 h2 => exact ⟨_, _, rfl, s _ _ h1, h2⟩
  · cases h with
    | dT r => exact ⟨_, _, rfl, e, r⟩
theorem RepK.len : ∀ {ds : List (Key × D)} {vs : List (Key × V)}, RepK K po F ds vs → ds.length = vs.length
  | _, _, .nil => rfl
  | _, _, .cons _ r => by simp [RepK.len r]
theorem RepT.len : ∀ {ds : List (List Key × D)} {vs : List (List Key × V)}, RepT K po F ds vs → ds.length = vs.length
  | _, _, .nil => rfl
  | _, _, .cons _ r => by simp [RepT.len r]
end
section
variable {X : Cx} {K : PySem.W.Frag}
def fLen : List D → (RV → Prop) → Prop
  | [.lst ds], k => k (.val (.int ds.length))
  | [.tup ds], k => k (.val (.int ds.length))
  | [.str z], k => z.length ≤ sizeLine ∧ k (.val (.int z.length))
  | [.dK kvs], k => k (.val (.int kvs.length))
  | [.dT kvs], k => k (.val (.int kvs.length))
  | _, _ => False
def rLenK (K : PySem.W.Frag) : List V → Hp → VK → Prop := fun xs H Q => rLn K xs H Q ∨ (∃ z, xs = [.str z] ∧ z.length ≤ sizeLine ∧ Q (.int z.length) H) ∨ (∃ a kvs, xs = [V.ref a] ∧ H a = some (.dK kvs) ∧ Q (.int kvs.length) H) ∨ rLenT xs H Q
theorem f_len (hK : X.K = K) : CallR X (.builtin "len") (rLenK K) := by
  subst hK
  exact CallR.or call_len_seq (CallR.or call_len_str (CallR.or call_lenD call_len_dT))
theorem sim_len : SimC K (rLenK K) fLen := by
  intro po G F H σ env ds vs Q k st hd hf hq
  have hv : ∀ {d : D} {w : V}, Rep K po F d w → k (.val d) → Q w H := fun {d w} r h => hq F H (.val d) w (Same.refl F) st r h
  unfold fLen at hf
  split at hf
  · obtain ⟨v, rfl, he⟩ := hd.one
    obtain ⟨a, xs, rfl, h1, r1⟩ := he.lst st.a.fh
    refine .inl ⟨a, xs, rfl, .inl (.inl (.inl h1)), ?_⟩
    rw [← r1.len]
    exact hv (Rep.int _) hf
  · obtain ⟨v, rfl, he⟩ := hd.one
    obtain ⟨a, xs, rfl, f1, h1, r1⟩ := he.tup st.a.fh
    refine .inl ⟨a, xs, rfl, .inr h1, ?_⟩
    rw [← r1.len]
    exact hv (Rep.int _) hf
  · obtain ⟨v, rfl, he⟩ := hd.one
    cases he.str
    exact .inr (.inl ⟨_, rfl, hf.1, hv (Rep.int _) hf.2⟩)
  · obtain ⟨v, rfl, he⟩ := hd.one
    obtain ⟨a, xs, rfl, h1, r1⟩ := he.dK st.a.fh
    refine .inr (.inr (.inl ⟨a, xs, rfl, h1, ?_⟩))
    rw [← r1.len]
    exact hv (Rep.int _) hf
  · obtain ⟨v, rfl, he⟩ := hd.one
    obtain ⟨a, xs, rfl, h1, r1⟩ := he.dT st.a.fh
    refine .inr (.inr (.inr ⟨a, xs, rfl, h1, ?_⟩))
    rw [← r1.len]
    exact hv (Rep.int _) hf
  · exact hf.elim
def fAbs : List D → (RV → Prop) → Prop
  | [.int i], k => k (.val (.int (if i < 0 then -i else i)))
  | _, _ => False
theorem sim_abs : SimC K (fun xs H Q => ∃ i, xs = [.int i] ∧ Q (.int (if i < 0 then -i else i)) H) fAbs := by
  intro po G F H σ env ds vs Q k st hd hf hq
  unfold fAbs at hf
  split at hf
  · obtain ⟨v, rfl, he⟩ := hd.one
    cases he.int
    exact ⟨_, rfl, hq F H (.val (.int _)) _ (Same.refl F) st (Rep.int _) hf⟩
  · exact hf.elim
def fInt : List D → (RV → Prop) → Prop
  | [.int i], k => k (.val (.int i))
  | [.bl b], k => k (.val (.int (if b then 1 else 0)))
  | [.str a], k => ∃ n, PySem.intText? a = some n ∧ a.length ≤ 640 ∧ k (.val (.int n))
  | _, _ => False
def rIntK : List V → Hp → VK → Prop := fun xs H Q => ((∃ i, xs = [.int i] ∧ Q (.int i) H) ∨ ∃ k, xs = [.bl k] ∧ Q (.int (if k then 1 else 0)) H) ∨ ∃ a n, xs = [.str a] ∧ PySem.intText? a = some n ∧ a.length ≤ 640 ∧ Q (.int n) H
theorem f_int : CallR X (.type "int") rIntK := CallR.or call_int1 call_int_str
theorem sim_int : SimC K rIntK fInt := by
  intro po G F H σ env ds vs Q k st hd hf hq
  have hv : ∀ {d : D} {w : V}, Rep K po F d w → k (.val d) → Q w H := fun {d w} r h => hq F H (.val d) w (Same.refl F) st r h
  unfold fInt at hf
  split at hf
  · obtain ⟨v, rfl, he⟩ := hd.one
    cases he.int
    exact .inl (.inl ⟨_, rfl, hv (Rep.int _) hf⟩)
  · obtain ⟨v, rfl, he⟩ := hd.one
    cases he.bl
    exact .inl (.inr ⟨_, rfl, hv (Rep.int _) hf⟩)
  · obtain ⟨v, rfl, he⟩ := hd.one
    cases he.str
    obtain ⟨n, h1, h2, h3⟩ := hf
    exact .inr ⟨_, n, rfl, h1, h2, hv (Rep.int _) h3⟩
  · exact hf.elim
def fMax2 : List D → (RV → Prop) → Prop
  | [.int i, .int j], k => k (.val (.int (if j > i then j else i)))
  | [.lst ds], k => ∃ ns : List Int, ds = ns.map D.int ∧ 0 < ns.length ∧ ∀ m, m ∈ ns → (∀ y, y ∈ ns → y ≤ m) → k (.val (.int m))
  | _, _ => False
def fMin2 : List D → (RV → Prop) → Prop
  | [.int i, .int j], k => k (.val (.int (if j < i then j else i)))
  | [.lst ds], k => ∃ ns : List Int, ds = ns.map D.int ∧ 0 < ns.length ∧ ∀ m, m ∈ ns → (∀ y, y ∈ ns → m ≤ y) → k (.val (.int m))
  | _, _ => False
def rMaxK (K : PySem.W.Frag) : List V → Hp → VK → Prop := fun xs H Q => (∃ i j, xs = [.int i, .int j] ∧ Q (.int (if j > i then j else i)) H) ∨ rMax K xs H Q
def rMinK' (K : PySem.W.Frag) : List V → Hp → VK → Prop := fun xs H Q => (∃ i j, xs = [.int i, .int j] ∧ Q (.int (if j < i then j else i)) H) ∨ rMin K xs H Q
theorem f_max (hK : X.K = K) (hc : X.calm = true) : CallR X (.builtin "max") (rMaxK K) := by
  subst hK
  exact CallR.or (call_max2 hc) (cr_max hc)
theorem f_min (hK : X.K = K) (hc : X.calm = true) : CallR X (.builtin "min") (rMinK' K) := by
  subst hK
  exact CallR.or (call_min2 hc) (cr_min hc)
theorem sim_max : SimC K (rMaxK K) fMax2 := by
  intro po G F H σ env ds vs Q k st hd hf hq
  have hv : ∀ {d : D} {w : V}, Rep K po F d w → k (.val d) → Q w H := fun {d w} r h => hq F H (.val d) w (Same.refl F) st r h
  unfold fMax2 at hf
  split at hf
  · obtain ⟨v, u, rfl, h1, h2⟩ := hd.two
    cases h1.int; cases h2.int
    exact .inl ⟨_, _, rfl, hv (Rep.int _) hf⟩
  · obtain ⟨v, rfl, he⟩ := hd.one
    obtain ⟨ns, rfl, h0, h3⟩ := hf
    obtain ⟨a, xs, rfl, h1, r1⟩ := he.lst st.a.fh
    cases r1.mapI
    exact .inr ⟨a, ns, rfl, .inl (.inl h1), h0, fun m h4 h5 => hv (Rep.int _) (h3 m h4 h5)⟩
  · exact hf.elim
theorem sim_min : SimC K (rMinK' K) fMin2 := by
  intro po G F H σ env ds vs Q k st hd hf hq
  have hv : ∀ {d : D} {w : V}, Rep K po F d w → k (.val d) → Q w H := fun {d w} r h => hq F H (.val d) w (Same.refl F) st r h
  unfold fMin2 at hf
  split at hf
  · obtain ⟨v, u, rfl, h1, h2⟩ := hd.two
    cases h1.int; cases h2.int
    exact .inl ⟨_, _, rfl, hv (Rep.int _) hf⟩
  · obtain ⟨v, rfl, he⟩ := hd.one
    obtain ⟨ns, rfl, h0, h3⟩ := hf
    obtain ⟨a, xs, rfl, h1, r1⟩ := he.lst st.a.fh
    cases r1.mapI
    exact .inr ⟨a, ns, rfl, .inl (.inl h1), h0, fun m h4 h5 => hv (Rep.int _) (h3 m h4 h5)⟩
  · exact hf.elim
def fSum : List D → (RV → Prop) → Prop
  | [.lst ds], k => ∃ ns : List Int, ds = ns.map D.int ∧ k (.val (.int ns.sum))
  | _, _ => False
theorem f_sum (hK : X.K = K) (hc : X.calm = true) : CallR X (.builtin "sum") (rSum K) := by
  subst hK
  exact cr_sum hc
theorem sim_sum : SimC K (rSum K) fSum := by
  intro po G F H σ env ds vs Q k st hd hf hq
  unfold fSum at hf
  split at hf
  · obtain ⟨v, rfl, he⟩ := hd.one
    obtain ⟨ns, rfl, h3⟩ := hf
    obtain ⟨a, xs, rfl, h1, r1⟩ := he.lst st.a.fh
    cases r1.mapI
    exact ⟨a, ns, rfl, .inl (.inl h1), hq F H (.val (.int _)) _ (Same.refl F) st (Rep.int _) h3⟩
  · exact hf.elim
def fAny : List D → (RV → Prop) → Prop
  | [.lst ds], k => ∃ bs : List Bool, ds = bs.map D.bl ∧ k (.val (.bl (bs.any id)))
  | _, _ => False
def fAll : List D → (RV → Prop) → Prop
  | [.lst ds], k => ∃ bs : List Bool, ds = bs.map D.bl ∧ k (.val (.bl (bs.all id)))
  | _, _ => False
theorem f_any (hK : X.K = K) (hc : X.calm = true) : CallR X (.builtin "any") (rAny K) := by
  subst hK
  exact cr_any hc
theorem f_all (hK : X.K = K) (hc : X.calm = true) : CallR X (.builtin "all") (rAll K) := by
  subst hK
  exact cr_all hc
theorem Reps.ofBls {po : Option Pt} {F : Hp} : ∀ {ns : List Bool} {vs : List V}, Reps K po F (ns.map D.bl) vs → vs = ns.map V.bl
  | [], _, .nil => rfl
  | n :: ns, _, .cons h r => by
    cases h
    rw [Reps.ofBls r]
    rfl
theorem sim_any : SimC K (rAny K) fAny := by
  intro po G F H σ env ds vs Q k st hd hf hq
  unfold fAny at hf
  split at hf
  · obtain ⟨v, rfl, he⟩ := hd.one
    obtain ⟨ns, rfl, h3⟩ := hf
    obtain ⟨a, xs, rfl, h1, r1⟩ := he.lst st.a.fh
    cases r1.ofBls
    exact ⟨a, ns, rfl, .inl (.inl h1), hq F H (.val (.bl _)) _ (Same.refl F) st (Rep.bl _) h3⟩
  · exact hf.elim
theorem sim_all : SimC K (rAll K) fAll := by
  intro po G F H σ env ds vs Q k st hd hf hq
  unfold fAll at hf
  split at hf
  · obtain ⟨v, rfl, he⟩ := hd.one
    obtain ⟨ns, rfl, h3⟩ := hf
    obtain ⟨a, xs, rfl, h1, r1⟩ := he.lst st.a.fh
    cases r1.ofBls
    exact ⟨a, ns, rfl, .inl (.inl h1), hq F H (.val (.bl _)) _ (Same.refl F) st (Rep.bl _) h3⟩
  · exact hf.elim
/-- tuple(list), tuple(tuple) -/
def fTup : List D → (RV → Prop) → Prop
  | [.lst ds], k => k (.val (.tup ds))
  | [.tup ds], k => k (.val (.tup ds))
  | _, _ => False
theorem f_tup (hK : X.K = K) : CallR X (.type "tuple") (rTu K) := by
  subst hK
  exact call_tuple_of
theorem sim_tup : SimC K (rTu K) fTup := by
  intro po G F H σ env ds vs Q k st hd hf hq
  unfold fTup at hf
  split at hf
  · obtain ⟨v, rfl, he⟩ := hd.one
    obtain ⟨a, xs, rfl, h1, r1⟩ := he.lst st.a.fh
    refine ⟨a, xs, rfl, .inl ⟨.inl (.inl h1), fun p np => ?_⟩⟩
    have nf := st.a.fh.free np
    exact hq _ _ (.val (.tup _)) _ (Same.new nf) (st.newF np) (Rep.tup upd_same (r1.mono (Same.new nf))) hf
  · obtain ⟨v, rfl, he⟩ := hd.one
    obtain ⟨a, xs, rfl, f1, h1, r1⟩ := he.tup st.a.fh
    exact ⟨a, xs, rfl, .inr ⟨h1, hq F H (.val (.tup _)) _ (Same.refl F) st (Rep.tup f1 r1) hf⟩⟩
  · exact hf.elim
/-- list(list), list(tuple) -/
def fLst : List D → (RV → Prop) → Prop
  | [.lst ds], k => k (.tmp (.lst ds))
  | [.tup ds], k => k (.tmp (.lst ds))
  | _, _ => False
theorem f_lst (hK : X.K = K) : CallR X (.type "list") (rLi K) := by
  subst hK
  exact call_list_of
theorem sim_lst : SimC K (rLi K) fLst := by
  intro po G F H σ env ds vs Q k st hd hf hq
  unfold fLst at hf
  split at hf
  · obtain ⟨v, rfl, he⟩ := hd.one
    obtain ⟨a, xs, rfl, h1, r1⟩ := he.lst st.a.fh
    refine ⟨a, xs, rfl, .inl (.inl (.inl h1)), fun p np => ?_⟩
    obtain ⟨st2, a2⟩ := st.newT np (RepO.lst r1)
    exact hq _ _ _ _ (Same.refl F) st2 a2 hf
  · obtain ⟨v, rfl, he⟩ := hd.one
    obtain ⟨a, xs, rfl, f1, h1, r1⟩ := he.tup st.a.fh
    refine ⟨a, xs, rfl, .inr h1, fun p np => ?_⟩
    obtain ⟨st2, a2⟩ := st.newT np (RepO.lst r1)
    exact hq _ _ _ _ (Same.refl F) st2 a2 hf
  · exact hf.elim
/-- sorted(list of ints) -/
def fSorted : List D → (RV → Prop) → Prop
  | [.lst ds], k => ∃ ns : List Int, ds = ns.map D.int ∧ ∀ ns' : List Int, ns'.Perm ns → ns'.Pairwise (· ≤ ·) → k (.tmp (.lst (ns'.map D.int)))
  | _, _ => False
theorem f_sorted (hK : X.K = K) : CallR X (.builtin "sorted") (rSortedI K) := by
  subst hK
  exact cr_sortedI
theorem sim_sorted : SimC K (rSortedI K) fSorted := by
  intro po G F H σ env ds vs Q k st hd hf hq
  unfold fSorted at hf
  split at hf
  · obtain ⟨v, rfl, he⟩ := hd.one
    obtain ⟨ns, rfl, h3⟩ := hf
    obtain ⟨a, xs, rfl, h1, r1⟩ := he.lst st.a.fh
    cases r1.mapI
    refine ⟨a, ns, rfl, .inl (.inl h1), fun ns' p h4 h5 np => ?_⟩
    obtain ⟨st2, a2⟩ := st.newT np (RepO.lst (Reps.ints ns'))
    exact hq _ _ _ _ (Same.refl F) st2 a2 (h3 ns' h4 h5)
  · exact hf.elim
def fGcd : List D → (RV → Prop) → Prop
  | [.int a, .int b], k => k (.val (.int ((Nat.gcd a.natAbs b.natAbs : Nat) : Int)))
  | _, _ => False
theorem sim_gcd : SimC K rGcd fGcd := by
  intro po G F H σ env ds vs Q k st hd hf hq
  unfold fGcd at hf
  split at hf
  · obtain ⟨v, u, rfl, h1, h2⟩ := hd.two
    cases h1.int; cases h2.int
    exact ⟨_, _, rfl, hq F H (.val (.int _)) _ (Same.refl F) st (Rep.int _) hf⟩
  · exact hf.elim
def fDivmod : List D → (RV → Prop) → Prop
  | [.int i, .int j], k => CDivP i j ∧ k (.val (.tup [.int (i / j), .int (i % j)]))
  | _, _ => False
theorem sim_divmod : SimC K (fun xs H Q => ∃ i j, xs = [.int i, .int j] ∧ CDivP i j ∧ ∀ p, H p = none → Q (.ref p) (upd H p (.tup [.int (i / j), .int (i % j)]))) fDivmod := by
  intro po G F H σ env ds vs Q k st hd hf hq
  unfold fDivmod at hf
  split at hf
  · obtain ⟨v, u, rfl, h1, h2⟩ := hd.two
    cases h1.int; cases h2.int
    refine ⟨_, _, rfl, hf.1, fun p np => ?_⟩
    have nf := st.a.fh.free np
    exact hq _ _ (.val (.tup _)) _ (Same.new nf) (st.newF np) (Rep.tup upd_same (.cons (.int _) (.cons (.int _) .nil))) hf.2
  · exact hf.elim
/-- isinstance(x, a built-in class) -/
def tyn : D → Option String
  | .non => some "NoneType"
  | .bl _ => some "bool"
  | .int _ => some "int"
  | .str _ => some "str"
  | .tup _ => some "tuple"
  | .lst _ => some "list"
  | .dK _ => some "dict"
  | _ => none
def fIsi : List D → (RV → Prop) → Prop
  | [d, .ty T], k => ∃ n b, tyn d = some n ∧ (∀ K, PySem.W.kitOne K (.type n) (.type T) = some b) ∧ k (.val (.bl b))
  | _, _ => False
theorem f_isi (hK : X.K = K) : CallR X (.builtin "isinstance") (rIsi K) := by
  subst hK
  exact call_isi
theorem Rdb.tyx {po : Option Pt} {F H : Hp} {d : D} {v : V} {n : String} (s : Same F H) (h : Rdb K po F H d v) (e : tyn d = some n) : TyX K H v (.type n) := by
  unfold tyn at e
  split at e
  · cases e; cases h.non; exact .base .non
  · cases e; cases h.bl; exact .base (.bl _)
  · cases e; cases h.int; exact .base (.int _)
  · cases e; cases h.str; exact .base (.str _)
  · cases e
    obtain ⟨a, xs, rfl, _, h1, _⟩ := h.tup s
    exact tyT h1
  · cases e
    obtain ⟨a, xs, rfl, h1, _⟩ := h.lst s
    exact .base (.lst h1)
  · cases e
    obtain ⟨a, xs, rfl, h1, _⟩ := h.dK s
    exact .base (.dK h1)
  · cases e
theorem sim_isi : SimC K (rIsi K) fIsi := by
  intro po G F H σ env ds vs Q k st hd hf hq
  unfold fIsi at hf
  split at hf
  · obtain ⟨v, u, rfl, h1, h2⟩ := hd.two
    cases h2.ty
    obtain ⟨n, b, e1, e2, kk⟩ := hf
    exact ⟨_, _, .type n, .type _, b, rfl, .ty _, h1.tyx st.a.fh e1, e2 K, hq F H (.val (.bl b)) _ (Same.refl F) st (Rep.bl _) kk⟩
  · exact hf.elim
end
/-! ### walks -/
section
variable {X : Cx} {K : PySem.W.Frag} {W : WX} {kx : KX} {tg : Expr}
theorem wk_list {po : Option Pt} {F : Hp} {a : Addr} {xs : List V} {ds : List D} (h : F a = some (.lst xs)) (r : Reps K po F ds xs) : Wk K po F (Itl K a) ds where
  go := fun G F' H' σ env i s st hi => ⟨xs, xs[i]'(by rw [← r.len]; exact hi), .inl (.inl (st.a.fh _ _ (s _ _ h))), List.getElem?_eq_getElem _⟩
  yl := fun G F' H' σ env i d x H'' s st e y => by
    obtain ⟨rfl, y⟩ := y
    obtain ⟨v, h1, h2⟩ := r.get e
    have := y xs (.inl (.inl (st.a.fh _ _ (s _ _ h))))
    rw [h1] at this
    cases this
    exact ⟨F', Same.refl F', st, h2.mono s⟩
  st := fun G F' H' σ env s st => ⟨xs, .inl (.inl (st.a.fh _ _ (s _ _ h))), by rw [r.len]; exact Nat.le_refl _⟩
theorem wk_tup {po : Option Pt} {F : Hp} {a : Addr} {xs : List V} {ds : List D} (h : SqT K F a xs) (r : Reps K po F ds xs) : Wk K po F (Itt K a) ds where
  go := fun G F' H' σ env i s st hi => ⟨xs, xs[i]'(by rw [← r.len]; exact hi), SqT.same (s.trans st.a.fh) h, List.getElem?_eq_getElem _⟩
  yl := fun G F' H' σ env i d x H'' s st e y => by
    obtain ⟨rfl, y⟩ := y
    obtain ⟨v, h1, h2⟩ := r.get e
    have := y xs (SqT.same (s.trans st.a.fh) h)
    rw [h1] at this
    cases this
    exact ⟨F', Same.refl F', st, h2.mono s⟩
  st := fun G F' H' σ env s st => ⟨xs, SqT.same (s.trans st.a.fh) h, by rw [r.len]; exact Nat.le_refl _⟩
def rgD (lo : Int) (n : Nat) : List D := (List.range n).map fun i => .int (lo + (i : Nat))
theorem wk_rng {po : Option Pt} {F : Hp} {lo : Int} {n : Nat} : Wk K po F (Itr lo n) (rgD lo n) where
  go := fun G F' H' σ env i s st hi => by
    unfold rgD at hi
    rw [List.length_map, List.length_range] at hi
    exact hi
  yl := fun G F' H' σ env i d x H'' s st e y => by
    obtain ⟨rfl, rfl⟩ := y
    unfold rgD at e
    rw [List.getElem?_map] at e
    cases q : (List.range n)[i]? with
    | none => rw [q] at e; cases e
    | some j =>
      rw [q] at e
      cases e
      have ej : j = i := by
        obtain ⟨h3, h4⟩ := List.getElem?_eq_some_iff.mp q
        rw [List.getElem_range] at h4
        exact h4.symm
      subst ej
      exact ⟨F', Same.refl F', st, Rep.int _⟩
  st := fun G F' H' σ env s st => by
    show n ≤ (rgD lo n).length
    unfold rgD
    rw [List.length_map, List.length_range]
    exact Nat.le_refl _
/-- for x in a list or a tuple -/
def iSeq (K : PySem.W.Frag) (tl : TE) : TI := fun σ H R => tl σ H fun x H1 => ∃ a, x = .ref a ∧ (((∃ xs, SqL K H1 a xs) ∧ R (Itl K a) H1) ∨ ((∃ xs, SqT K H1 a xs) ∧ R (Itt K a) H1))
theorem pi_seq {l : Expr} {tl : TE} (hK : X.K = K) (hl : PE X l tl) : PI X tg l (iSeq K tl) := by
  subst hK
  refine ⟨fun pins s σ H R I h => ?_⟩
  refine thn (hl.run pins s σ H _ I h) fun v s1 ⟨x, H1, I1, r1, q1⟩ => ?_
  obtain ⟨a, e, q1⟩ := q1
  subst e
  cases r1
  rcases q1 with ⟨⟨xs, hq⟩, q⟩ | ⟨⟨xs, hq⟩, q⟩
  · obtain ⟨its, rv, p, hz⟩ := I1.list hq
    refine wpAny_pyIter_list p.isList ?_
    refine ⟨s1.heap.objs.size, [s1.heap.objs.size], _, _, H1, rfl, I1.kept (t' := s1.toks) fun b o e => Heap.get?_push_of_some _ e, turn_list a _, ⟨_, Heap.get?_push_size _ rfl, rfl, rfl⟩, fun b hb => ?_, q⟩
    have e : b = s1.heap.objs.size := by simpa using hb
    subst e
    exact I1.fpOk (Nat.le_refl _) (I1.hok.fresh (Nat.le_refl _))
  · obtain ⟨its, rv, p, hz⟩ := I1.tuple hq
    refine wpAny_pyIter_tuple (show s1.heap.IsTuple a its.toArray from p) ?_
    refine ⟨s1.heap.objs.size, [s1.heap.objs.size], _, _, H1, rfl, I1.kept (t' := s1.toks) fun b o e => Heap.get?_push_of_some _ e, turn_tuple a _, ⟨_, Heap.get?_push_size _ rfl, rfl, rfl⟩, fun b hb => ?_, q⟩
    have e : b = s1.heap.objs.size := by simpa using hb
    subst e
    exact I1.fpOk (Nat.le_refl _) (I1.hok.fresh (Nat.le_refl _))
def seqD : D → Option (List D)
  | .lst ds => some ds
  | .tup ds => some ds
  | .gtup ds => some ds
  | _ => none
def pISeq (p : PTE) : PTI := fun env k => p env fun r e1 => wD r e1 fun d => ∃ ds, seqD d = some ds ∧ k ds (r.fz e1)
theorem qi_seq {l : Expr} {p : PTE} (h : QE X K W kx l p) : QI X K W kx tg l (pISeq p) := by
  refine ⟨h.hK, PI.imp (pi_seq h.hK h.pe) fun σ H R ⟨po, G, F, env, k, st, hx, hp, hq⟩ => ⟨po, G, F, env, _, st, hx, hp, fun F1 H1 e1 r v s1 st1 a1 ⟨d, ed, ds, es, kk⟩ => ?_⟩⟩
  obtain ⟨F2, s2, st2, r2⟩ := RV.frz st1 a1 ed
  cases r2 with
  | tup h1 h2 =>
    cases es
    exact ⟨_, rfl, .inr ⟨⟨_, SqT.lt (st2.a.fh _ _ h1)⟩, hq F2 H1 _ _ _ (s1.trans s2) st2 (wk_tup (SqT.lt h1) h2) kk⟩⟩
  | lst h1 h2 =>
    cases es
    exact ⟨_, rfl, .inl ⟨⟨_, .inl (.inl (st2.a.fh _ _ h1))⟩, hq F2 H1 _ _ _ (s1.trans s2) st2 (wk_list h1 h2) kk⟩⟩
  | gtup h1 h2 =>
    cases es
    exact ⟨_, rfl, .inr ⟨⟨_, SqT.same st2.a.fh h1⟩, hq F2 H1 _ _ _ (s1.trans s2) st2 (wk_tup h1 h2) kk⟩⟩
  | non => cases es
  | bl _ => cases es
  | int _ => cases es
  | str _ => cases es
  | ty _ => cases es
  | ad _ => cases es
  | pot _ _ => cases es
  | ins _ _ => cases es
  | dK _ _ => cases es
  | dZ _ _ => cases es
  | dT _ _ => cases es
def pIRg1 (p : PTA) : PTI := fun env k => p env fun rs e1 => ∃ j : Int, dsO e1 rs = some [.int j] ∧ -(2 ^ 62) ≤ j ∧ j < 2 ^ 62 ∧ k (rgD 0 j.toNat) e1
def pIRg2 (p : PTA) : PTI := fun env k => p env fun rs e1 => ∃ i j : Int, dsO e1 rs = some [.int i, .int j] ∧ (-(2 ^ 62) ≤ i ∧ i < 2 ^ 62 ∧ -(2 ^ 62) ≤ j ∧ j < 2 ^ 62) ∧ k (rgD i (j - i).toNat) e1
theorem qi_range1 {a : Expr} {pa : PTA} {p pos : Pos} (hg : Gl X "range") (hm : X.mg "range" = none) (ha : QA X K W kx [a] pa) (hs : starEach [a] X.env = [(false, eval a X.env)] := by rfl) : QI X K W kx tg (.Call (.Name "range" p) [a] [] pos) (pIRg1 pa) :=
  ⟨ha.hK, PI.imp (pi_range1 hg hm ha.pa hs) fun σ H R ⟨po, G, F, env, k, st, hx, hp, hq⟩ => ⟨po, G, F, env, _, st, hx, hp, fun F1 H1 e1 rs vs s1 st1 a1 ⟨j, ed, h1, h2, kk⟩ => by
    obtain ⟨v, rfl, hv⟩ := (a1.rd st1 ed).one
    cases hv.int
    exact ⟨j, rfl, h1, h2, hq F1 H1 e1 _ _ s1 st1 wk_rng kk⟩⟩⟩
theorem qi_range2 {a b : Expr} {pa : PTA} {p pos : Pos} (hg : Gl X "range") (hm : X.mg "range" = none) (ha : QA X K W kx [a, b] pa) (hs : starEach [a, b] X.env = [(false, eval a X.env), (false, eval b X.env)] := by rfl) (hs2 : starEach [b] X.env = [(false, eval b X.env)] := by rfl) : QI X K W kx tg (.Call (.Name "range" p) [a, b] [] pos) (pIRg2 pa) :=
  ⟨ha.hK, PI.imp (pi_range2 hg hm ha.pa hs hs2) fun σ H R ⟨po, G, F, env, k, st, hx, hp, hq⟩ => ⟨po, G, F, env, _, st, hx, hp, fun F1 H1 e1 rs vs s1 st1 a1 ⟨i, j, ed, hb, kk⟩ => by
    obtain ⟨v, u, rfl, hv, hu⟩ := (a1.rd st1 ed).two
    cases hv.int; cases hu.int
    exact ⟨i, j, rfl, hb, hq F1 H1 e1 _ _ s1 st1 wk_rng kk⟩⟩⟩
end
end Pl

/-! fields, lists that change, instances made, errors raised, draws, a law's frame -/
namespace Pl
open PySem L2 My PyProof.Rows PySem.Spec

section
variable {X : Cx} {K : PySem.W.Frag} {W : WX} {kx : KX}
theorem RepF.lookup {po : Option Pt} {F : Hp} {f : Str} : ∀ {fs : List (Str × D)} {xs : List (Str × V)} {y : D}, RepF K po F fs xs → fs.lookup f = some y → ∃ v, xs.lookup f = some v ∧ Rep K po F y v
  | _, _, _, .nil, h => by cases h
  | _, _, y, @RepF.cons _ _ _ g d v ds vs r rr, h => by
    rw [List.lookup_cons] at h ⊢
    by_cases c : f = g
    · subst c
      simp only [beq_self_eq_true] at h ⊢
      cases h
      exact ⟨v, rfl, r⟩
    · have cb : (f == g) = false := beq_eq_false_iff_ne.mpr c
      simp only [cb] at h ⊢
      exact RepF.lookup rr h
theorem Rdb.ins {po : Option Pt} {F H : Hp} {C : Addr} {fs : List (Str × D)} {v : V} (s : Same F H) (h : Rdb K po F H (.ins C fs) v) : ∃ a dx xs, v = .ref a ∧ H a = some (.ins C dx xs) ∧ RepF K po F fs xs := by
  rcases h with h | ⟨a, o, rfl, e, h⟩
  · cases h with
    | ins h1 h2 => exact ⟨_, _, _, rfl, s _ _ h1, h2⟩
  · cases h with
    | ins r => exact ⟨_, _, _, rfl, e, r⟩
def pFld (C : Addr) (f : Str) (p : PTE) : PTE := fun env k => p env fun r e1 => wD r e1 fun d => ∃ fs y, d = .ins C fs ∧ fs.lookup f = some y ∧ k (.val y) e1
theorem q_fld {C : Addr} {e : Expr} {f : Str} {p : PTE} {pos : Pos} (c : Cls K C) (n : NoAttr K C f) (h : QE X K W kx e p) (hb : attributeBase e f X.env (eval e X.env) = eval e X.env) : QE X K W kx (.Attribute e f pos) (pFld C f p) :=
  ⟨h.hK, PE.imp (pe_fldK K h.hK h.pe hb) fun σ H Q ⟨po, G, F, env, k, st, hx, hp, hq⟩ => ⟨po, G, F, env, _, st, hx, hp, fun F1 H1 e1 r v s1 st1 a1 ⟨d, ed, fs, y, e2, el, kk⟩ => by
    subst e2
    obtain ⟨a, dx, xs, rfl, h1, h2⟩ := (RV.rd st1 a1 ed).ins st1.a.fh
    obtain ⟨w, h3, h4⟩ := h2.lookup el
    exact ⟨a, C, dx, xs, w, rfl, h1, c, n, h3, hq F1 H1 e1 (.val y) w s1 st1 h4 kk⟩⟩⟩
/-! ### lists that change -/
/-- a method of the object in a slot, by values: what the object becomes, what is given -/
def SimM (K : PySem.W.Frag) (r : V → List V → Hp → VK → Prop) (f : D → List D → (D → D → Prop) → Prop) : Prop := ∀ (po : Option Pt) (F H : Hp) (a : Addr) (o : HO) (d : D) (ds : List D) (vs : List V) (Q : VK) (k : D → D → Prop), Same F H → H a = some o → F a = none → RepO K po F d o → Reps K po F ds vs → f d ds k →
  (∀ (o' : HO) (d' e : D) (w : V), RepO K po F d' o' → Rep K po F e w → k d' e → Q w (upd H a o')) → r (.ref a) vs H Q
def pMeth (T : String) (i : Nat) (f : D → List D → (D → D → Prop) → Prop) (p : PTA) : PTE := fun env k => (T = "list" ∧ ∃ ds, env[i]? = some (.own (.lst ds))) ∧ p env fun rs e1 => ∃ ds d, dsO e1 rs = some ds ∧ (fzs rs e1)[i]? = some (.own d) ∧ f d ds fun d' e => k (.val e) ((fzs rs e1).set i (.own d'))
theorem meth_sim {r : V → List V → Hp → VK → Prop} {f : D → List D → (D → D → Prop) → Prop} {i : Nat} {T : String} {p : PTA} (hs : SimM K r f) (σ : L2.St) (H : Hp) (Q : VK) (h : lift K W kx (pMeth T i f p) σ H Q) : tBM K T r (tVar i) (liftA K W kx p) σ H Q := by
  obtain ⟨po, G, F, env, k, st, hx, ⟨⟨hT, ds0, e0⟩, hp⟩, hq⟩ := h
  obtain ⟨a, o, ea, w⟩ := st.ow i _ e0
  refine ⟨.ref a, ea, .inl ⟨hT, ?_⟩, po, G, F, env, _, st, hx, hp, fun F1 H1 e1 rs vs s1 st1 a1 ⟨ds, d, ed, eo, hf⟩ => ?_⟩
  · have := w.rep
    cases this with
    | lst _ => exact ⟨_, .inl (.inl w.at_)⟩
  · obtain ⟨F2, s2, st2, r2⟩ := RvA.frz st1 a1 ed
    obtain ⟨b, u, eb, wu⟩ := st2.ow i d eo
    rw [ea] at eb
    cases eb
    refine hs po F2 H1 a u d ds vs Q _ st2.a.fh wu.at_ wu.nf wu.rep r2 hf fun o' d' e w' ro re kk => ?_
    exact hq F2 _ _ (.val e) w' (s1.trans s2) (st2.mut eo ea ro) re kk
def fAppend : D → List D → (D → D → Prop) → Prop
  | .lst ds, [d], k => ds.length < sizeLine ∧ k (.lst (ds ++ [d])) .non
  | _, _, _ => False
theorem sim_append : SimM K rAppend fAppend := by
  intro po F H a o d ds vs Q k fh ho nf ro rs hf hq
  unfold fAppend at hf
  split at hf
  · cases ro with
    | lst r =>
      cases rs with
      | cons rd rs =>
        cases rs
        exact ⟨a, _, _, rfl, rfl, ho, by rw [← r.len]; exact hf.1, hq _ _ _ _ (.lst (r.app (.cons rd .nil))) .non hf.2⟩
  · exact hf.elim
/-- xs.pop() -/
def fPop : D → List D → (D → D → Prop) → Prop
  | .lst ds, [], k => ∃ y, ds[ds.length - 1]? = some y ∧ k (.lst ds.dropLast) y
  | _, _, _ => False
def pMeth0 (T : String) (i : Nat) (f : D → List D → (D → D → Prop) → Prop) : PTE := fun env k => T = "list" ∧ (∃ ds, env[i]? = some (.own (.lst ds))) ∧ ∃ d, env[i]? = some (.own d) ∧ f d [] fun d' e => k (.val e) (env.set i (.own d'))
theorem meth0_sim {r : V → List V → Hp → VK → Prop} {f : D → List D → (D → D → Prop) → Prop} {i : Nat} {T : String} (hs : SimM K r f) (σ : L2.St) (H : Hp) (Q : VK) (h : lift K W kx (pMeth0 T i f) σ H Q) : tBM0 K T r (tVar i) σ H Q := by
  obtain ⟨po, G, F, env, k, st, hx, ⟨hT, ⟨ds0, e0⟩, d, eo, hf⟩, hq⟩ := h
  obtain ⟨a, o, ea, w⟩ := st.ow i _ e0
  obtain ⟨b, u, eb, wu⟩ := st.ow i d eo
  rw [ea] at eb
  cases eb
  refine ⟨.ref a, ea, .inl ⟨hT, ?_⟩, hs po F H a u d [] [] Q _ st.a.fh wu.at_ wu.nf wu.rep .nil hf fun o' d' e w' ro re kk => hq F _ _ (.val e) w' (Same.refl F) (st.mut eo ea ro) re kk⟩
  have := w.rep
  cases this with
  | lst _ => exact ⟨_, .inl (.inl w.at_)⟩
theorem Reps.dropLast {po : Option Pt} {F : Hp} {ds : List D} {xs : List V} (r : Reps K po F ds xs) : Reps K po F ds.dropLast xs.dropLast := by
  rw [List.dropLast_eq_take, List.dropLast_eq_take, ← r.len]
  exact r.take _
theorem sim_pop : SimM K rPop fPop := by
  intro po F H a o d ds vs Q k fh ho nf ro rs hf hq
  unfold fPop at hf
  split at hf
  · cases ro with
    | lst r =>
      cases rs
      obtain ⟨y, ey, kk⟩ := hf
      obtain ⟨v, ev, rv⟩ := r.get ey
      exact ⟨a, _, v, rfl, rfl, ho, by rw [← r.len]; exact ev, hq _ _ _ _ (.lst r.dropLast) rv kk⟩
  · exact hf.elim
def fExtend : D → List D → (D → D → Prop) → Prop
  | .lst ds, [.lst es], k => ds.length + es.length ≤ sizeLine ∧ k (.lst (ds ++ es)) .non
  | _, _, _ => False
theorem sim_extend : SimM K rExtend fExtend := by
  intro po F H a o d ds vs Q k fh ho nf ro rs hf hq
  unfold fExtend at hf
  split at hf
  · cases ro with
    | lst r =>
      cases rs with
      | cons rd rs =>
        cases rs
        cases rd with
        | lst h1 h2 =>
          exact ⟨a, _, _, _, rfl, rfl, ho, fh _ _ h1, by rw [← r.len, ← h2.len]; exact hf.1, hq _ _ _ _ (.lst (r.app h2)) .non hf.2⟩
  · exact hf.elim
theorem q_mb {c : Expr} {es : List Expr} {i : Nat} {T : String} {r : V → List V → Hp → VK → Prop} {f : D → List D → (D → D → Prop) → Prop} {p : PTA} (ha : QA X K W kx es p) (hp : PA X es (liftA K W kx p) → PE X c (tBM X.K T r (tVar i) (liftA K W kx p))) (hs : SimM K r f) : QE X K W kx c (pMeth T i f p) := by
  have hK := ha.hK
  subst hK
  exact ⟨rfl, PE.imp (hp ha.pa) (meth_sim hs)⟩
theorem q_mb0 {c : Expr} {i : Nat} {T : String} {r : V → List V → Hp → VK → Prop} {f : D → List D → (D → D → Prop) → Prop} (hK : X.K = K) (hp : PE X c (tBM0 X.K T r (tVar i))) (hs : SimM K r f) : QE X K W kx c (pMeth0 T i f) := by
  subst hK
  exact ⟨rfl, PE.imp hp (meth0_sim hs)⟩
/-- xs[i] = e -/
def pSetL (i : Nat) (pe pi : PTE) : PTS := fun pd env => (∃ d0, env[i]? = some (.own d0)) ∧ pe env fun r e1 => ∃ y, r.d e1 = some y ∧ pi (r.fz e1) fun s e2 => wD s e2 fun j => ∃ n ds m, j = .int n ∧ e2[i]? = some (.own (.lst ds)) ∧ ixN ds.length n = some m ∧ pd.nx (e2.set i (.own (.lst (ds.set m y))))
theorem qs_setL {i : Nat} {o ix e : Expr} {pe pi : PTE} {spos pos : Pos} (hv : PE X o (tVar i)) (he : QE X K W kx e pe) (hi : QE X K W kx ix pi)
    (hsub : ∀ v, assign (.Subscript o ix spos) X.env v = (do
      let ov ← holding [v] (eval o X.env)
      let iv ← holding [v, ov] (eval ix X.env)
      standAt spos
      holding [v, ov, iv] (setItem ov iv v)
      release [v, ov, iv] []) := by intro _; rfl)
    (hs : swapsWithSole [.Subscript o ix spos] e pos.line X.env = pure false := by rfl) (hw : swappedStores [.Subscript o ix spos] e X.env = pure none := by rfl)
    (h1 : (assignEach [.Subscript o ix spos] X.env).map (·.2) = [assign (.Subscript o ix spos) X.env] := by rfl) : QS X K W kx (.Assign [.Subscript o ix spos] e pos) (pSetL i pe pi) := by
  refine ⟨he.hK, PS.imp (ps_asg he.pe (pg_sub hv hi.pe set_list hsub) hs hw h1) fun D σ H ⟨po, G, F, env, pd, st, hx, hen, ⟨d0, e0⟩, hp⟩ => ⟨po, G, F, env, _, st, hx, hp, fun F1 H1 e1 r v s1 st1 a1 ⟨y, ey, k1⟩ => ?_⟩⟩
  obtain ⟨F2, s2, st2, r2⟩ := RV.frz st1 a1 ey
  obtain ⟨a, o0, ea, _⟩ := st.ow i _ e0
  refine ⟨.ref a, ea, po, G, F2, _, _, st2, hx.weak (Same.refl G) (s1.trans s2), k1, fun F3 H3 e3 s u s3 st3 a3 ⟨j, ej, n, ds, m, e4, e5, e6, kk⟩ => ?_⟩
  subst e4
  obtain ⟨b, o', eb, w⟩ := st3.ow i _ e5
  rw [ea] at eb
  cases eb
  have w1 := w.rep
  have w2 := w.at_
  cases w1 with
  | lst rl =>
    refine ⟨a, _, n, m, rfl, (RV.rd st3 a3 ej).int, w2, by rw [← rl.len]; exact e6, ?_⟩
    exact hen.nx F3 _ σ _ (s1.trans (s2.trans s3)) (st3.mut e5 ea (.lst (rl.set m (r2.mono s3)))) kk
/-! ### instances made -/
/-- what __init__ promises: the new instance's fields -/
def spI (K : PySem.W.Frag) (C : Addr) (S : List D → (List (Str × D) → Prop) → (Addr → List (Str × D) → Prop) → Prop) : Sp := fun vs H Q E => ∃ (po : Option Pt) (G F : Hp) (x dx : Addr) (us : List V) (ds : List D) (k : List (Str × D) → Prop) (kx : Addr → List (Str × D) → Prop),
  vs = .ref x :: us ∧ StA po G F H ∧ OwnAt K po G F H x (.ins C dx []) (.ins C []) ∧ Reps K po F ds us ∧ S ds k kx ∧
  (∀ (F' H' : Hp) (fs : List (Str × D)) (xs : List (Str × V)), Same F F' → StA po G F' H' → OwnAt K po G F' H' x (.ins C dx xs) (.ins C fs) → k fs → Q .non H') ∧
  (∀ (F' H' : Hp) (c : Addr) (d : Option Addr) (fs : List (Str × D)), Same F F' → StA po G F' H' → XD K po F' H' d fs → kx c fs → E (.ref c) d H')
/-- C(..): the new instance stays as it is from then on -/
def pMake (C : Addr) (S : List D → (List (Str × D) → Prop) → (Addr → List (Str × D) → Prop) → Prop) (kx : KX) (p : PTA) : PTE := fun env k => p env fun rs e1 => ∃ ds, dsO e1 rs = some ds ∧ S ds (fun fs => k (.val (.ins C fs)) (fzs rs e1)) fun c fs => kx c fs (fzs rs e1)
variable {kk : Nat} {f C : Addr} {fd : FuncData} {ps : List Str} {x : Str} {p pos : Pos} {e : Expr} {es : List Expr} {pa : PTA} {S : List D → (List (Str × D) → Prop) → (Addr → List (Str × D) → Prop) → Prop}
theorem q_make (M : Mk X.K C f) (Fn : FnOk X.prog X.w X.K X.mg X.base (L2.CX X.prog X.w) kk f fd ps (spI K C S)) (hr : Room (kk + 1) X.A) (hg : Gl X x) (hm : X.mg x = some (.ref C)) (hb : Binds X.K fd ps []) (tk : Takes X (fun c d _ H => W c d [] H))
    (hW : ∀ c d σ H, W c d [] H ↔ W c d σ H) (ha : QA X K W kx (e :: es) pa) (hdb : (x == ("__debug__" : Str)) = false := by decide) (he : starEach (e :: es) X.env = (false, eval e X.env) :: starEach es X.env := by rfl) (hpl : (backTo pos (starEach es X.env)).any (·.1) = false := by rfl) :
    QE X K W kx (.Call (.Name x p) (e :: es) [] pos) (pMake C S kx pa) := by
  refine ⟨ha.hK, PE.imp (pe_make (E := fun c d H => W c d [] H) M Fn hr hg hm hb .nil (passes_call tk fun _ _ _ _ h => h) ha.pa hdb he hpl) fun σ H Q ⟨po, G, F, env, k, st, hx, hp, hq⟩ => ⟨po, G, F, env, _, st, hx, hp, fun F1 H1 e1 rs vs s1 st1 a1 ⟨ds, ed, hS⟩ x dx nx ndx ne => ?_⟩⟩
  obtain ⟨F2, s2, st2, r2⟩ := RvA.frz st1 a1 ed
  have st3 := (st2.newO (o := .own x) ndx)
  have nx2 : upd H1 dx (.own x) x = none := by rw [upd_ne (Ne.symm ne)]; exact nx
  obtain ⟨st4, ax⟩ := st3.newT nx2 (RepO.ins (K := K) (po := po) (F := F2) (C := C) (dx := dx) .nil)
  obtain ⟨a, o, ea, w, hn⟩ := ax
  cases ea
  have eo : o = .ins C dx [] := by
    have := w.at_
    rw [upd_same] at this
    exact (Option.some.inj this).symm
  subst eo
  refine ⟨po, gOwn G σ (fzs rs e1) _, F2, x, dx, vs, ds, _, _, by rw [List.append_nil], st4.gOwnA, ⟨w.at_, w.nf, ?_, w.np, w.rep⟩, r2, hS, fun F' H' fs xs s' a' w' kk' => ⟨rfl, ?_⟩, fun F' H' c d fs s' a' x' kk' => ?_⟩
  · cases z : gOwn G σ (fzs rs e1) (upd (upd H1 dx (.own x)) x (.ins C dx [])) x with
    | none => rfl
    | some u =>
      rcases gOwn_or z with q | ⟨i, d, q1, q2, q3⟩
      · rw [w.ng] at q; cases q
      · exact absurd q2 (hn i d q1)
  · have st5 := st4.gBack s' a'
    have wx : OwnAt K po G F' H' x (.ins C dx xs) (.ins C fs) := w'.weak gOwn_same
    obtain ⟨h1, h2, h3⟩ := st5.frzT wx fun i d q z => hn i d q z
    exact hq _ H' _ (.val (.ins C fs)) _ ((s1.trans s2).trans (s'.trans h2)) h1 h3 kk'
  · have st5 := st4.gBack s' a'
    exact (hW _ _ σ _).mpr (hx F' H' σ _ c d fs ((s1.trans s2).trans s') st5 x' kk')
end
/-! ### raising -/
section
variable {X : Cx} {K : PySem.W.Frag} {W : WX} {kx : KX}
def pRaise0 (C : Addr) (kx : KX) : PTS := fun _ env => kx C [] env
theorem qs_raise0 {C : Addr} {e : Expr} {pos : Pos} (hK : X.K = K) (hc : X.calm = true) (tk : Takes X W) (h : PMk X e (fun _ H Q => Q (.ref C) none H)) : QS X K W kx (.Raise (some e) none pos) (pRaise0 C kx) :=
  ⟨hK, PS.imp (ps_raise hc tk h) fun D σ H ⟨po, G, F, env, pd, st, hx, he, hp⟩ => hx F H σ env C none [] (Same.refl F) st (.inl ⟨rfl, rfl⟩) hp⟩
def pNever : PTS := fun _ _ => False
theorem qs_never {s : Stmt} (hK : X.K = K) : QS X K W kx s pNever := ⟨hK, PS.imp ps_never fun D σ H ⟨po, G, F, env, pd, st, hx, he, hp⟩ => hp⟩
end
/-! ### without exceptions; draws; a law's frame -/
theorem FnOk.cx {P : Program} {w : World} {K : PySem.W.Frag} {mg : Str → Option Value} {base : Heap} {CX : CXT} {k : Nat} {f : Addr} {fd : FuncData} {ps : List Str} {sp : Sp} (F : FnOk P w K mg base CX0 k f fd ps sp) : FnOk P w K mg base CX k f fd ps sp :=
  ⟨F.len, fun A outer s H args us vs Q E hr he hb hv hs => codeAny_mono (F.run A outer s H args us vs Q E hr he hb hv hs) fun r s' q => by
    cases r with
    | error e => exact q.elim
    | ok fl => cases fl <;> exact q⟩
def SDraw : QSpec := fun ds k _ => ∃ many : Int, ds = [.pot, .int many] ∧ 0 < many ∧ small many ∧ ∀ r : Int, 0 ≤ r → r < many → k (.val (.int r))
theorem draw_ok {P : Program} {w : World} {K : PySem.W.Frag} {mg : Str → Option Value} {base : Heap} {k : Nat} {f : Addr} {fd : FuncData} {ps : List Str} (F : FnOk P w K mg base CX0 k f fd ps spDraw) : FnOk P w K mg base (L2.CX P w) k f fd ps (spP K SDraw) := by
  refine (FnOk.cx F).imp fun vs H Q E ⟨po, G, F, ds, k, kx, a, r, ⟨many, ed, h0, hs, hk⟩, q, _⟩ => ?_
  subst ed
  cases r with
  | cons r1 r2 =>
    cases r1 with
    | pot p ep =>
      cases r2 with
      | cons r3 r4 =>
        cases r3
        cases r4
        obtain ⟨hp, out⟩ := a.pt p ep
        have ne : ∀ b, b ∈ p.l → F b = none ∧ G b = none := fun b hb => out b (by
          have : b = p.a ∨ b = p.g := by simpa [Pt.l] using hb
          rcases this with z | z <;> simp [pl, z])
        refine ⟨p, many, rfl, hp, h0, hs, fun r H' r0 r1 hp' bt => ?_⟩
        refine q F H' (.val (.int r)) _ (Same.refl F) ⟨fun b o e => ?_, fun b o e => ?_, a.dj, fun p' ep' => ?_⟩ (Rep.int r) (hk r r0 r1)
        · exact bt b o (fun z => by rw [(ne b z).1] at e; cases e) (a.fh _ _ e)
        · exact bt b o (fun z => by rw [(ne b z).2] at e; cases e) (a.gh _ _ e)
        · rw [ep] at ep'
          cases ep'
          exact ⟨hp', out⟩
/-- behind the pot's making a law goes on over values -/
theorem law_run {K : PySem.W.Frag} {p : PTS} {Q : VK} {nx : L2.St → Hp → Prop} {N : Nat} {a : Addr} {q : Pt} {H H' : Hp} {σ : L2.St} (hp : q.At H') (hσ : σ = some (.ref a) :: some (.ref q.a) :: List.replicate N none)
    (hQ : ∀ H, Q (.bl true) H) (h : p { nx := fun _ => False, rt := fun r env => r.d env = some (.bl true) } (.val (.ad a) :: .val .pot :: noes N)) : liftS K W0 kx0 p { nx := nx, rt := Q } σ H' := by
  subst hσ
  refine ⟨some q, fun _ => none, fun _ => none, _, { nx := fun _ => False, rt := fun r env => r.d env = some (.bl true) }, ⟨⟨(fun _ _ z => nomatch z), (fun _ _ z => nomatch z), (fun _ _ z => nomatch z), fun p ep => ?_⟩, ?_, fun i d e => ?_, fun i d e => ?_, fun i j d e z => ?_⟩, XRel.none, ⟨fun _ _ _ _ _ _ z => False.elim z, fun _ _ _ _ _ _ z => False.elim z, fun _ _ _ _ _ _ z => False.elim z, fun F1 H1 σ1 e1 r v s1 st1 a1 k1 => ?_⟩, h⟩
  · cases ep
    exact ⟨hp, fun _ _ => ⟨rfl, rfl⟩⟩
  · simp [noes_len]
  · cases i with
    | zero =>
      cases (show Sl.val (.ad a) = .val d by simpa using e)
      exact ⟨_, rfl, .ad a⟩
    | succ i =>
      cases i with
      | zero =>
        cases (show Sl.val .pot = .val d by simpa using e)
        exact ⟨_, rfl, .pot q rfl⟩
      | succ i =>
        have := noes_get (n := N) (i := i) (s := .val d) (by simpa using e)
        cases this
  · cases i with
    | zero => cases (show Sl.val (.ad a) = .own d by simpa using e)
    | succ i =>
      cases i with
      | zero => cases (show Sl.val .pot = .own d by simpa using e)
      | succ i =>
        have := noes_get (n := N) (i := i) (s := .own d) (by simpa using e)
        cases this
  · cases i with
    | zero => cases (show Sl.val (.ad a) = .own d by simpa using z)
    | succ i =>
      cases i with
      | zero => cases (show Sl.val .pot = .own d by simpa using z)
      | succ i =>
        have := noes_get (n := N) (i := i) (s := .own d) (by simpa using z)
        cases this
  · have := (RV.rd st1 a1 k1).bl
    subst this
    exact hQ H1
end Pl

/-! truth; steps of readings -/
namespace Pl
open PySem L2 My PyProof.Rows PySem.Spec

section
variable {X : Cx} {K : PySem.W.Frag} {W : WX} {kx : KX}
/-- a value's truth -/
def truD : D → Option Bool
  | .non => some false
  | .bl b => some b
  | .int i => some (i != 0)
  | .str z => if z.length ≤ sizeLine then some ((z.length : Int) != 0) else none
  | .lst ds => some (!ds.isEmpty)
  | .tup ds => some (!ds.isEmpty)
  | .dK kvs => some (!kvs.isEmpty)
  | _ => none
theorem isEmpty_len {α β : Type} {l : List α} {m : List β} (h : l.length = m.length) : l.isEmpty = m.isEmpty := by
  cases l <;> cases m <;> simp_all
theorem Rdb.tru {po : Option Pt} {F H : Hp} {d : D} {v : V} {b : Bool} (s : Same F H) (h : Rdb K po F H d v) (e : truD d = some b) : TruV K v H b := by
  unfold truD at e
  split at e
  · cases e; cases h.non; rfl
  · cases e; cases h.bl; rfl
  · cases e; cases h.int; rfl
  · split at e
    · rename_i hl
      cases e; cases h.str; exact ⟨hl, rfl⟩
    · cases e
  · cases e
    obtain ⟨a, xs, rfl, h1, r⟩ := h.lst s
    exact .inl ⟨xs, .inl (.inl h1), by rw [isEmpty_len r.len]⟩
  · cases e
    obtain ⟨a, xs, rfl, _, h1, r⟩ := h.tup s
    exact .inr (.inl ⟨xs, h1, by rw [isEmpty_len r.len]⟩)
  · cases e
    obtain ⟨a, xs, rfl, h1, r⟩ := h.dK s
    exact .inr (.inr ⟨xs, h1, by rw [isEmpty_len r.len]⟩)
  · cases e
def pTru (p : PTE) : PTT := fun env k => p env fun r e1 => wD r e1 fun d => ∃ b, truD d = some b ∧ k b e1
theorem qt_tru {e : Expr} {p : PTE} (h : QE X K W kx e p) (he : ∀ whole, isTrue e X.env whole = (do let v ← whole; standAt e.pos; holding [v] (truthy v)) := by intro _; rfl) : QT X K W kx e (pTru p) := by
  have hK := h.hK
  subst hK
  exact ⟨rfl, PT.imp (pt_truth h.pe he) fun σ H Q ⟨po, G, F, env, k, st, hx, hp, hq⟩ => ⟨po, G, F, env, _, st, hx, hp, fun F1 H1 e1 r v s1 st1 a1 ⟨d, ed, b, eb, kk⟩ => ⟨b, (RV.rd st1 a1 ed).tru st1.a.fh eb, hq F1 H1 e1 b s1 st1 kk⟩⟩⟩
def pNotV' (p : PTE) : PTE := fun env k => p env fun r e1 => wD r e1 fun d => ∃ b, truD d = some b ∧ k (.val (.bl (!b))) e1
theorem q_notT {a : Expr} {p : PTE} {pos : Pos} (h : QE X K W kx a p) : QE X K W kx (.UnaryOp .Not a pos) (pNotV' p) := by
  have hK := h.hK
  subst hK
  exact ⟨rfl, PE.imp (pe_notT h.pe) fun σ H Q ⟨po, G, F, env, k, st, hx, hp, hq⟩ => ⟨po, G, F, env, _, st, hx, hp, fun F1 H1 e1 r v s1 st1 a1 ⟨d, ed, b, eb, kk⟩ => ⟨b, (RV.rd st1 a1 ed).tru st1.a.fh eb, hq F1 H1 e1 (.val (.bl (!b))) _ s1 st1 (Rep.bl _) kk⟩⟩⟩
end
/-! ### steps -/
section
variable {K : PySem.W.Frag}
theorem i_sq {p q : PTS} {pd : PEnds} {env : PEnv} (h : p { pd with nx := q pd } env) : pSeq p q pd env := h
theorem i_next {pd : PEnds} {env : PEnv} (h : pd.nx env) : pNext pd env := h
theorem i_break {pd : PEnds} {env : PEnv} (h : pd.bk env) : pBreak pd env := h
theorem i_cont {pd : PEnds} {env : PEnv} (h : pd.ct env) : pCont pd env := h
theorem i_nx {f b c : PEnv → Prop} {r : RV → PEnv → Prop} {e : PEnv} (h : f e) : PEnds.nx ⟨f, r, b, c⟩ e := h
theorem i_bk {f b c : PEnv → Prop} {r : RV → PEnv → Prop} {e : PEnv} (h : b e) : PEnds.bk ⟨f, r, b, c⟩ e := h
theorem i_ct {f b c : PEnv → Prop} {r : RV → PEnv → Prop} {e : PEnv} (h : c e) : PEnds.ct ⟨f, r, b, c⟩ e := h
theorem i_rt {f b c : PEnv → Prop} {r : RV → PEnv → Prop} {t : RV} {e : PEnv} (h : r t e) : PEnds.rt ⟨f, r, b, c⟩ t e := h
theorem i_drop {p : PTE} {pd : PEnds} {env : PEnv} (h : p env fun _ e1 => pd.nx e1) : pDrop p pd env := h
theorem i_ret {p : PTE} {pd : PEnds} {env : PEnv} (h : p env fun r e1 => pd.rt r e1) : pRet p pd env := h
theorem i_retN {pd : PEnds} {env : PEnv} (h : pd.rt (.val .non) env) : pRetN pd env := h
theorem i_if {t : PTT} {p q : PTS} {pd : PEnds} {env : PEnv} (h : t env fun b e1 => if b = true then p pd e1 else q pd e1) : pIfS t p q pd env := h
theorem i_set {i : Nat} {p : PTE} {pd : PEnds} {env : PEnv} (h : p env fun r e1 => stS i r e1 pd.nx) : pSet i p pd env := h
theorem i_stV {i : Nat} {d : D} {env : PEnv} {φ : PEnv → Prop} (h : φ (env.set i (.val d))) : stS i (.val d) env φ := h
theorem i_stO {i : Nat} {d : D} {env : PEnv} {φ : PEnv → Prop} (h : φ (env.set i (.own d))) : stS i (.tmp d) env φ := h
theorem i_stN {i j : Nat} {d : D} {env : PEnv} {φ : PEnv → Prop} (e : env[j]? = some (.own d)) (h : φ ((env.set j (.val d)).set i (.val d))) : stS i (.nm j) env φ :=
  ⟨d, by unfold RV.d; dsimp only; rw [e], by unfold RV.fz; dsimp only; rw [e]; exact h⟩
theorem i_aug {i : Nat} {f : D → D → (RV → Prop) → Prop} {p : PTE} {pd : PEnds} {env : PEnv} {d : D} (e : env[i]? = some (.val d)) (h : p env fun r e1 => wD r e1 fun e => f d e fun t => stS i t e1 pd.nx) : pAug i f p pd env := ⟨d, e, h⟩
theorem i_par {i j : Nat} {p : PTA} {pd : PEnds} {env : PEnv} (h : p env fun rs e1 => ∃ d e, dsO e1 rs = some [d, e] ∧ pd.nx (((fzs rs e1).set i (.val d)).set j (.val e))) : pPar i j p pd env := h
theorem i_asg {p : PTE} {g : PTG} {pd : PEnds} {env : PEnv} (h : p env fun r e1 => g r e1 pd.nx) : pAsg p g pd env := h
theorem i_gname {i : Nat} {r : RV} {env : PEnv} {k : PEnv → Prop} (h : stS i r env k) : pGName i r env k := h
theorem i_gnil {env : PEnv} {k : PEnv → Prop} (h : k env) : pGNil [] env k := ⟨rfl, h⟩
theorem i_gcons {p : PTG} {q : PTGs} {d : D} {ds : List D} {env : PEnv} {k : PEnv → Prop} (h : p (.val d) env fun e1 => q ds e1 k) : pGCons p q (d :: ds) env k := h
theorem i_gtup {n : Nat} {p : PTGs} {r : RV} {env : PEnv} {k : PEnv → Prop} {ds : List D} (e : r.d env = some (.tup ds)) (l : ds.length = n) (h : p ds env k) : pGTup n p r env k := ⟨ds, e, l, h⟩
theorem i_var {i : Nat} {env : PEnv} {k : RV → PEnv → Prop} {d : D} (e : env[i]? = some (.val d)) (h : k (.val d) env) : pVar i env k := by unfold pVar; rw [e]; exact h
theorem i_varO {i : Nat} {env : PEnv} {k : RV → PEnv → Prop} {d : D} (e : env[i]? = some (.own d)) (h : k (.nm i) env) : pVar i env k := by unfold pVar; rw [e]; exact h
theorem i_c {d : D} {env : PEnv} {k : RV → PEnv → Prop} (h : k (.val d) env) : pC d env k := h
theorem i_bin {f : D → D → (RV → Prop) → Prop} {pa pb : PTE} {env : PEnv} {k : RV → PEnv → Prop} (h : pa env fun r e1 => pb e1 fun s e2 => wD r e2 fun d => wD s e2 fun e => f d e fun t => k t e2) : pBin f pa pb env k := h
theorem i_wV {d : D} {env : PEnv} {φ : D → Prop} (h : φ d) : wD (.val d) env φ := ⟨d, rfl, h⟩
theorem i_wT {d : D} {env : PEnv} {φ : D → Prop} (h : φ d) : wD (.tmp d) env φ := ⟨d, rfl, h⟩
theorem i_wN {i : Nat} {d : D} {env : PEnv} {φ : D → Prop} (e : env[i]? = some (.own d)) (h : φ d) : wD (.nm i) env φ := ⟨d, by unfold RV.d; dsimp only; rw [e], h⟩
theorem i_test {p : PTE} {env : PEnv} {k : Bool → PEnv → Prop} (h : p env fun r e1 => ∃ b, r.d e1 = some (.bl b) ∧ k b e1) : pTest p env k := h
theorem i_tb {b : Bool} {env : PEnv} {k : Bool → Prop} (h : k b) : ∃ b', RV.d env (.val (.bl b)) = some (.bl b') ∧ k b' := ⟨b, rfl, h⟩
theorem i_tru {p : PTE} {env : PEnv} {k : Bool → PEnv → Prop} (h : p env fun r e1 => wD r e1 fun d => ∃ b, truD d = some b ∧ k b e1) : pTru p env k := h
theorem i_truB {b : Bool} {k : Bool → Prop} (h : k b) : ∃ b', truD (.bl b) = some b' ∧ k b' := ⟨b, rfl, h⟩
theorem i_truL {ds : List D} {k : Bool → Prop} (h : k (!ds.isEmpty)) : ∃ b', truD (.lst ds) = some b' ∧ k b' := ⟨_, rfl, h⟩
theorem i_truT {ds : List D} {k : Bool → Prop} (h : k (!ds.isEmpty)) : ∃ b', truD (.tup ds) = some b' ∧ k b' := ⟨_, rfl, h⟩
theorem i_truI {i : Int} {k : Bool → Prop} (h : k (i != 0)) : ∃ b', truD (.int i) = some b' ∧ k b' := ⟨_, rfl, h⟩
theorem i_andT {p q : PTT} {env : PEnv} {k : Bool → PEnv → Prop} (h : p env fun b e1 => if b = true then q e1 k else k false e1) : pAndT p q env k := h
theorem i_orT {p q : PTT} {env : PEnv} {k : Bool → PEnv → Prop} (h : p env fun b e1 => if b = true then k true e1 else q e1 k) : pOrT p q env k := h
theorem i_notT {p : PTT} {env : PEnv} {k : Bool → PEnv → Prop} (h : p env fun b e1 => k (!b) e1) : pNotT p env k := h
theorem i_andV {p q : PTE} {env : PEnv} {k : RV → PEnv → Prop} (h : p env fun r e1 => ∃ b, r.d e1 = some (.bl b) ∧ if b = true then q e1 k else k (.val (.bl false)) e1) : pAndV p q env k := h
theorem i_orV {p q : PTE} {env : PEnv} {k : RV → PEnv → Prop} (h : p env fun r e1 => ∃ b, r.d e1 = some (.bl b) ∧ if b = true then k (.val (.bl true)) e1 else q e1 k) : pOrV p q env k := h
theorem i_notV {p : PTE} {env : PEnv} {k : RV → PEnv → Prop} (h : p env fun r e1 => wD r e1 fun d => ∃ b, truD d = some b ∧ k (.val (.bl (!b))) e1) : pNotV' p env k := h
theorem i_ifE {t : PTT} {p q : PTE} {env : PEnv} {k : RV → PEnv → Prop} (h : t env fun b e1 => if b = true then p e1 k else q e1 k) : pIfE t p q env k := h
theorem i_aNil {env : PEnv} {k : List RV → PEnv → Prop} (h : k [] env) : pANil env k := h
theorem i_aCons {p : PTE} {q : PTA} {env : PEnv} {k : List RV → PEnv → Prop} (h : p env fun r e1 => q e1 fun rs e2 => k (rvA r :: rs) e2) : pACons p q env k := h
theorem i_tup {p : PTA} {env : PEnv} {k : RV → PEnv → Prop} (h : p env fun rs e1 => ∃ ds, dsO e1 rs = some ds ∧ ds.length ≤ sizeLine ∧ k (.val (.tup ds)) (fzs rs e1)) : pTup p env k := h
theorem i_lst {p : PTA} {env : PEnv} {k : RV → PEnv → Prop} (h : p env fun rs e1 => ∃ ds, dsO e1 rs = some ds ∧ ds.length ≤ sizeLine ∧ k (.tmp (.lst ds)) (fzs rs e1)) : pLst p env k := h
theorem i_un {g : Int → Int} {p : PTE} {env : PEnv} {k : RV → PEnv → Prop} (h : p env fun r e1 => wD r e1 fun d => ∃ i, d = .int i ∧ k (.val (.int (g i))) e1) : pUn g p env k := h
theorem i_ei {i : Int} {φ : Int → Prop} (h : φ i) : ∃ j, D.int i = .int j ∧ φ j := ⟨i, rfl, h⟩
theorem i_noP {env : PEnv} {k : Option Int → PEnv → Prop} (h : k none env) : pNoP env k := h
theorem i_part {p : PTE} {env : PEnv} {k : Option Int → PEnv → Prop} (h : p env fun r e1 => wD r e1 fun d => ∃ i, d = .int i ∧ k (some i) e1) : pPart p env k := h
theorem i_sl {pa : PTE} {pl ph : PTO} {env : PEnv} {k : RV → PEnv → Prop} (h : pa env fun r e1 => pl e1 fun lo e2 => ph e2 fun hi e3 => wD r e3 fun d => opSl lo hi d fun t => k t e3) : pSl pa pl ph env k := h
theorem i_slL {lo hi : Option Int} {ds : List D} {k : RV → Prop} (h : k (.tmp (.lst (cutD ds lo hi)))) : opSl lo hi (.lst ds) k := h
theorem i_slT {lo hi : Option Int} {ds : List D} {k : RV → Prop} (h : k (.val (.tup (cutD ds lo hi)))) : opSl lo hi (.tup ds) k := h
theorem i_cB {f : List D → (RV → Prop) → Prop} {p : PTA} {env : PEnv} {k : RV → PEnv → Prop} (h : p env fun rs e1 => ∃ ds, dsO e1 rs = some ds ∧ f ds fun t => k t e1) : pCB f p env k := h
theorem i_call {S : QSpec} {kx : KX} {p : PTA} {env : PEnv} {k : RV → PEnv → Prop} (h : p env fun rs e1 => ∃ ds, dsO e1 rs = some ds ∧ S ds (fun t => k t (aftE t rs e1)) fun c fs => kx c fs (fzs rs e1)) : pCall S kx p env k := h
theorem i_make {C : Addr} {S : List D → (List (Str × D) → Prop) → (Addr → List (Str × D) → Prop) → Prop} {kx : KX} {p : PTA} {env : PEnv} {k : RV → PEnv → Prop} (h : p env fun rs e1 => ∃ ds, dsO e1 rs = some ds ∧ S ds (fun fs => k (.val (.ins C fs)) (fzs rs e1)) fun c fs => kx c fs (fzs rs e1)) : pMake C S kx p env k := h
theorem i_callU {S : QSpec} {kx : KX} {rs : List RV} {ds : List D} {e1 : PEnv} {k : RV → PEnv → Prop} (e : dsO e1 rs = some ds) (hu : unl rs = true) (h : S ds (fun t => k t e1) fun c fs => kx c fs e1) : ∃ ds, dsO e1 rs = some ds ∧ S ds (fun t => k t (aftE t rs e1)) fun c fs => kx c fs (fzs rs e1) := by
  refine ⟨ds, e, ?_⟩
  have e1' : (fun t => k t (aftE t rs e1)) = fun t => k t e1 := by
    funext t
    unfold aftE
    rw [if_pos hu]
  rw [e1', fzs_unl hu]
  exact h
theorem i_aft {d : D} {rs : List RV} {e1 : PEnv} {k : RV → PEnv → Prop} (hf : d.flat = true) (h : k (.val d) e1) : k (.val d) (aftE (.val d) rs e1) := by
  unfold aftE
  split
  · exact h
  · dsimp only
    rw [if_pos hf]
    exact h
theorem i_fld {C : Addr} {f : Str} {p : PTE} {env : PEnv} {k : RV → PEnv → Prop} (h : p env fun r e1 => wD r e1 fun d => ∃ fs y, d = .ins C fs ∧ fs.lookup f = some y ∧ k (.val y) e1) : pFld C f p env k := h
theorem i_chain {f g : D → D → (RV → Prop) → Prop} {pa pb pc : PTE} {env : PEnv} {k : RV → PEnv → Prop} (h : pa env fun r e1 => pb e1 fun s e2 => wD r e2 fun d => wD s e2 fun e => f d e fun t => ∃ b, t = .val (.bl b) ∧
  if b = true then pc e2 fun u e3 => wD s e3 fun e' => wD u e3 fun c => g e' c fun t => k t e3 else k (.val (.bl false)) e2) : pChain f g pa pb pc env k := h
theorem i_eb {b : Bool} {φ : Bool → Prop} (h : φ b) : ∃ b', RV.val (.bl b) = .val (.bl b') ∧ φ b' := ⟨b, rfl, h⟩
theorem i_for {i : PTI} {g : PTG} {b : PTS} {pd : PEnds} {env : PEnv} (h : i env fun ds e1 => pLoop g b pd ds e1) : pFor i g b pd env := h
theorem i_iseq {p : PTE} {env : PEnv} {k : List D → PEnv → Prop} (h : p env fun r e1 => wD r e1 fun d => ∃ ds, seqD d = some ds ∧ k ds (r.fz e1)) : pISeq p env k := h
theorem i_irg1 {p : PTA} {env : PEnv} {k : List D → PEnv → Prop} (h : p env fun rs e1 => ∃ j : Int, dsO e1 rs = some [.int j] ∧ -(2 ^ 62) ≤ j ∧ j < 2 ^ 62 ∧ k (rgD 0 j.toNat) e1) : pIRg1 p env k := h
theorem i_irg2 {p : PTA} {env : PEnv} {k : List D → PEnv → Prop} (h : p env fun rs e1 => ∃ i j : Int, dsO e1 rs = some [.int i, .int j] ∧ (-(2 ^ 62) ≤ i ∧ i < 2 ^ 62 ∧ -(2 ^ 62) ≤ j ∧ j < 2 ^ 62) ∧ k (rgD i (j - i).toNat) e1) : pIRg2 p env k := h
theorem i_lc {i : PTI} {g : PTG} {t : PTT} {p : PTE} {vs : List Nat} {env : PEnv} {k : RV → PEnv → Prop} (h : i env fun ds e1 => pLcL g t p vs k ds [] (wipeP e1 vs)) : pLc i g t p vs env k := h
theorem i_yes {env : PEnv} {k : Bool → PEnv → Prop} (h : k true env) : pYes env k := h
theorem i_mb {T : String} {i : Nat} {f : D → List D → (D → D → Prop) → Prop} {p : PTA} {env : PEnv} {k : RV → PEnv → Prop} {ds : List D} (hT : T = "list") (e : env[i]? = some (.own (.lst ds))) (h : p env fun rs e1 => ∃ ds d, dsO e1 rs = some ds ∧ (fzs rs e1)[i]? = some (.own d) ∧ f d ds fun d' e => k (.val e) ((fzs rs e1).set i (.own d'))) : pMeth T i f p env k := ⟨⟨hT, ds, e⟩, h⟩
theorem i_mb0 {T : String} {i : Nat} {f : D → List D → (D → D → Prop) → Prop} {env : PEnv} {k : RV → PEnv → Prop} {ds : List D} (hT : T = "list") (e : env[i]? = some (.own (.lst ds))) (h : f (.lst ds) [] fun d' e => k (.val e) (env.set i (.own d'))) : pMeth0 T i f env k := ⟨hT, ⟨ds, e⟩, _, e, h⟩
theorem i_setL {i : Nat} {pe pi : PTE} {pd : PEnds} {env : PEnv} {d0 : D} (e : env[i]? = some (.own d0)) (h : pe env fun r e1 => ∃ y, r.d e1 = some y ∧ pi (r.fz e1) fun s e2 => wD s e2 fun j => ∃ n ds m, j = .int n ∧ e2[i]? = some (.own (.lst ds)) ∧ ixN ds.length n = some m ∧ pd.nx (e2.set i (.own (.lst (ds.set m y))))) : pSetL i pe pi pd env := ⟨⟨d0, e⟩, h⟩
theorem i_raise0 {C : Addr} {kx : KX} {pd : PEnds} {env : PEnv} (h : kx C [] env) : pRaise0 C kx pd env := h
-- operators by the kinds of values
theorem o_addI {i j : Int} {k : RV → Prop} (h : k (.val (.int (i + j)))) : opAdd (.int i) (.int j) k := h
theorem o_addT {a b : List D} {k : RV → Prop} (l : a.length + b.length ≤ sizeLine) (h : k (.val (.tup (a ++ b)))) : opAdd (.tup a) (.tup b) k := ⟨l, h⟩
theorem o_addL {a b : List D} {k : RV → Prop} (l : a.length + b.length ≤ sizeLine) (h : k (.tmp (.lst (a ++ b)))) : opAdd (.lst a) (.lst b) k := ⟨l, h⟩
theorem o_addS {a b : Str} {k : RV → Prop} (l : a.length + b.length ≤ sizeLine) (h : k (.val (.str (a ++ b)))) : opAdd (.str a) (.str b) k := ⟨l, h⟩
theorem o_I0 {g : Int → Int → Int} {i j : Int} {k : RV → Prop} (h : k (.val (.int (g i j)))) : opI0 g (.int i) (.int j) k := h
theorem o_IC {C : Int → Int → Prop} {g : Int → Int → Int} {i j : Int} {k : RV → Prop} (c : C i j) (h : k (.val (.int (g i j)))) : opIC C g (.int i) (.int j) k := ⟨c, h⟩
theorem o_B0 {g : Int → Int → Bool} {i j : Int} {k : RV → Prop} (h : k (.val (.bl (g i j)))) : opB0 g (.int i) (.int j) k := h
theorem o_mulI {i j : Int} {k : RV → Prop} (c : CMul i j ∨ CMulW i j) (h : k (.val (.int (i * j)))) : opMul (.int i) (.int j) k := ⟨c, h⟩
theorem o_ixL {ds : List D} {i : Int} {d : D} {k : RV → Prop} (e : L2.atI ds i = some d) (h : k (.val d)) : opIx (.lst ds) (.int i) k := ⟨d, e, h⟩
theorem o_ixT {ds : List D} {i : Int} {d : D} {k : RV → Prop} (e : L2.atI ds i = some d) (h : k (.val d)) : opIx (.tup ds) (.int i) k := ⟨d, e, h⟩
theorem o_isN {d : D} {k : RV → Prop} (h : k (.val (.bl (isNon d)))) : opIs false d .non k := by
  cases d <;> exact h
theorem o_isnN {d : D} {k : RV → Prop} (h : k (.val (.bl (!isNon d)))) : opIs true d .non k := by
  cases d <;> exact h
theorem o_isB {a b : Bool} {k : RV → Prop} (h : k (.val (.bl (decide (a = b))))) : opIs false (.bl a) (.bl b) k := h
theorem o_isnB {a b : Bool} {k : RV → Prop} (h : k (.val (.bl (!decide (a = b))))) : opIs true (.bl a) (.bl b) k := h
theorem o_eqD {d e : D} {b : Bool} {k : RV → Prop} (h1 : d.dat 60 = true) (h2 : e.dat 60 = true) (eb : deq d e = b) (h : k (.val (.bl b))) : opEq false d e k := ⟨h1, h2, by rw [if_neg (by decide), eb]; exact h⟩
theorem o_neD {d e : D} {b : Bool} {k : RV → Prop} (h1 : d.dat 60 = true) (h2 : e.dat 60 = true) (eb : deq d e = b) (h : k (.val (.bl (!b)))) : opEq true d e k := ⟨h1, h2, by rw [if_pos rfl, eb]; exact h⟩
theorem o_eqI {i j : Int} {k : RV → Prop} (h : k (.val (.bl (decide (i = j))))) : opEq false (.int i) (.int j) k := o_eqD rfl rfl (by unfold deq; rw [D.py, D.py, PyData.eqv, Bool.beq_eq_decide_eq]) h
theorem o_neI {i j : Int} {k : RV → Prop} (h : k (.val (.bl (!decide (i = j))))) : opEq true (.int i) (.int j) k := o_neD rfl rfl (by unfold deq; rw [D.py, D.py, PyData.eqv, Bool.beq_eq_decide_eq]) h
theorem f_lenL {ds : List D} {k : RV → Prop} (h : k (.val (.int ds.length))) : fLen [.lst ds] k := h
theorem f_lenT {ds : List D} {k : RV → Prop} (h : k (.val (.int ds.length))) : fLen [.tup ds] k := h
theorem f_intI {i : Int} {k : RV → Prop} (h : k (.val (.int i))) : fInt [.int i] k := h
theorem f_intB {b : Bool} {k : RV → Prop} (h : k (.val (.int (if b then 1 else 0)))) : fInt [.bl b] k := h
theorem f_absI {i : Int} {k : RV → Prop} (h : k (.val (.int (if i < 0 then -i else i)))) : fAbs [.int i] k := h
theorem f_tupL {ds : List D} {k : RV → Prop} (h : k (.val (.tup ds))) : fTup [.lst ds] k := h
theorem f_tupT {ds : List D} {k : RV → Prop} (h : k (.val (.tup ds))) : fTup [.tup ds] k := h
theorem f_lstL {ds : List D} {k : RV → Prop} (h : k (.tmp (.lst ds))) : fLst [.lst ds] k := h
theorem f_lstT {ds : List D} {k : RV → Prop} (h : k (.tmp (.lst ds))) : fLst [.tup ds] k := h
theorem f_gcdI {a b : Int} {k : RV → Prop} (h : k (.val (.int ((Nat.gcd a.natAbs b.natAbs : Nat) : Int)))) : fGcd [.int a, .int b] k := h
theorem f_isiT {d : D} {n T : String} {b : Bool} {k : RV → Prop} (e : tyn d = some n) (h2 : ∀ K, PySem.W.kitOne K (.type n) (.type T) = some b) (h : k (.val (.bl b))) : fIsi [d, .ty T] k := ⟨n, b, e, h2, h⟩
theorem m_app {ds : List D} {d : D} {k : D → D → Prop} (l : ds.length < sizeLine) (h : k (.lst (ds ++ [d])) .non) : fAppend (.lst ds) [d] k := ⟨l, h⟩
/-! ### loops -/
theorem loop_nil {g : PTG} {b : PTS} {pd : PEnds} {env : PEnv} (h : pd.nx env) : pLoop g b pd [] env := h
theorem loop_cons {g : PTG} {b : PTS} {pd : PEnds} {d : D} {ds : List D} {env : PEnv} (h : g (.val d) env fun e1 => b { pd with nx := pLoop g b pd ds, ct := pLoop g b pd ds, bk := pd.nx } e1) : pLoop g b pd (d :: ds) env := h
/-- a loop by an invariant of the turns -/
theorem loop_inv {g : PTG} {b : PTS} {pd : PEnds} {env : PEnv} {ds : List D} (I : Nat → PEnv → Prop) (h0 : I 0 env)
    (hs : ∀ (i : Nat) (d : D) (e : PEnv), ds[i]? = some d → I i e → ∀ nx : PEnv → Prop, (∀ e', I (i + 1) e' → nx e') → (∀ e', I ds.length e' → pd.nx e') → g (.val d) e fun e1 => b { pd with nx := nx, ct := nx, bk := pd.nx } e1) (hd : ∀ e, I ds.length e → pd.nx e) : pLoop g b pd ds env := by
  have main : ∀ (es : List D) (n : Nat) (e : PEnv), ds.drop n = es → n ≤ ds.length → I n e → pLoop g b pd es e := by
    intro es
    induction es with
    | nil =>
      intro n e hd' hn hi
      have : n = ds.length := by
        have := congrArg List.length hd'
        simp at this
        omega
      subst this
      exact hd e hi
    | cons d es ih =>
      intro n e hd' hn hi
      have hl : n < ds.length := by
        have := congrArg List.length hd'
        simp at this
        omega
      have e0 : ds[n]? = some d := by
        rw [List.drop_eq_getElem_cons hl] at hd'
        rw [List.getElem?_eq_getElem hl]
        exact congrArg some (List.cons.inj hd').1
      have e1 : ds.drop (n + 1) = es := by
        rw [List.drop_eq_getElem_cons hl] at hd'
        exact (List.cons.inj hd').2
      exact hs n d e e0 hi _ (fun e' h' => ih (n + 1) e' e1 hl h') hd
  exact main ds 0 env rfl (Nat.zero_le _) h0
/-- a loop over a range -/
theorem loop_rg {g : PTG} {b : PTS} {pd : PEnds} {env : PEnv} {lo : Int} {n : Nat} (I : Nat → PEnv → Prop) (h0 : I 0 env)
    (hs : ∀ (i : Nat) (e : PEnv), i < n → I i e → ∀ nx : PEnv → Prop, (∀ e', I (i + 1) e' → nx e') → (∀ e', I n e' → pd.nx e') → g (.val (.int (lo + (i : Nat)))) e fun e1 => b { pd with nx := nx, ct := nx, bk := pd.nx } e1) (hd : ∀ e, I n e → pd.nx e) : pLoop g b pd (rgD lo n) env := by
  have ln : (rgD lo n).length = n := by unfold rgD; rw [List.length_map, List.length_range]
  refine loop_inv I h0 (fun i d e hi hI nx hn hd' => ?_) (by rw [ln]; exact hd)
  have hi' : i < n := by rw [← ln]; exact (List.getElem?_eq_some_iff.mp hi).1
  have : d = .int (lo + (i : Nat)) := by
    unfold rgD at hi
    rw [List.getElem?_map, List.getElem?_range hi'] at hi
    exact (Option.some.inj hi).symm
  subst this
  exact hs i e hi' hI nx hn (by rw [ln] at hd'; exact hd')
/-- a while by a measure -/
theorem while_inv {t : PTT} {b : PTS} {pd : PEnds} {env : PEnv} (I : Nat → PEnv → Prop) {m : Nat} (h0 : I m env)
    (hs : ∀ (m : Nat) (e : PEnv), I m e → ∀ nx : PEnv → Prop, (∀ m' e', m' < m → I m' e' → nx e') → t e fun c e1 => if c = true then b { pd with nx := nx, ct := nx, bk := pd.nx } e1 else pd.nx e1)
    (mono : ∀ (n1 n2 : PEnv → Prop) e, (∀ e', n1 e' → n2 e') → (t e fun c e1 => if c = true then b { pd with nx := n1, ct := n1, bk := pd.nx } e1 else pd.nx e1) → t e fun c e1 => if c = true then b { pd with nx := n2, ct := n2, bk := pd.nx } e1 else pd.nx e1) : pWhile t b pd env := by
  have main : ∀ (n m : Nat) (e : PEnv), m < n → I m e → pWl t b pd n e := by
    intro n
    induction n with
    | zero => intro m e h; exact absurd h (Nat.not_lt_zero _)
    | succ n ih =>
      intro m e h hi
      exact hs m e hi (pWl t b pd n) fun m' e' hm hi' => ih m' e' (by omega) hi'
  exact ⟨m + 1, main (m + 1) m env (Nat.lt_succ_self m) h0⟩
/-- a comprehension by an invariant of the turns -/
theorem lc_inv {g : PTG} {t : PTT} {p : PTE} {vs : List Nat} {k : RV → PEnv → Prop} {ds : List D} {env : PEnv} (I : Nat → List D → PEnv → Prop) (h0 : I 0 [] env)
    (hs : ∀ (i : Nat) (d : D) (acc : List D) (e : PEnv), ds[i]? = some d → I i acc e → ∀ nx : List D → PEnv → Prop, (∀ acc e', I (i + 1) acc e' → nx acc e') →
      g (.val d) e fun e1 => t e1 fun b e2 => if b = true then p e2 fun r e3 => ∃ y, r.d e3 = some y ∧ acc.length < sizeLine ∧ nx (acc ++ [y]) (wipeP (r.fz e3) vs) else nx acc (wipeP e2 vs))
    (hd : ∀ acc e, I ds.length acc e → k (.tmp (.lst acc)) e) : pLcL g t p vs k ds [] env := by
  have main : ∀ (es : List D) (n : Nat) (acc : List D) (e : PEnv), ds.drop n = es → n ≤ ds.length → I n acc e → pLcL g t p vs k es acc e := by
    intro es
    induction es with
    | nil =>
      intro n acc e hd' hn hi
      have : n = ds.length := by
        have := congrArg List.length hd'
        simp at this
        omega
      subst this
      exact hd acc e hi
    | cons d es ih =>
      intro n acc e hd' hn hi
      have hl : n < ds.length := by
        have := congrArg List.length hd'
        simp at this
        omega
      have e0 : ds[n]? = some d := by
        rw [List.drop_eq_getElem_cons hl] at hd'
        rw [List.getElem?_eq_getElem hl]
        exact congrArg some (List.cons.inj hd').1
      have e1 : ds.drop (n + 1) = es := by
        rw [List.drop_eq_getElem_cons hl] at hd'
        exact (List.cons.inj hd').2
      exact hs n d acc e e0 hi _ fun acc' e' h' => ih (n + 1) acc' e' e1 hl h'
  exact main ds 0 [] env rfl (Nat.zero_le _) h0
end
end Pl

/-! enumerate, items stored by operators, instances compared -/
namespace Pl
open PySem L2 My PyProof.Rows PySem.Spec

section
variable {X : Cx} {K : PySem.W.Frag} {W : WX} {kx : KX}
def opIAdd : D → D → (RV → Prop) → Prop
  | .int i, .int j, k => k (.val (.int (i + j)))
  | .str a, .str b, k => a.length + b.length ≤ sizeLine ∧ k (.val (.str (a ++ b)))
  | _, _, _ => False
theorem sim_iadd : Sim2 K (fun x y H Q => rI0 (fun i j => .int (i + j)) x y H Q ∨ ∃ i j, x = .str i ∧ y = .str j ∧ i.length + j.length ≤ sizeLine ∧ Q (.str (i ++ j)) H) opIAdd := by
  intro po G F H σ env d e v u Q k st hd he hf hq
  have hv : ∀ {d : D} {w : V}, Rep K po F d w → k (.val d) → Q w H := fun {d w} r h => hq F H (.val d) w (Same.refl F) st r h
  unfold opIAdd at hf
  split at hf
  · cases hd.int; cases he.int
    exact .inl ⟨_, _, rfl, rfl, hv (Rep.int _) hf⟩
  · cases hd.str; cases he.str
    exact .inr ⟨_, _, rfl, rfl, hf.1, hv (Rep.str _) hf.2⟩
  · exact hf.elim
theorem o_iaddI {i j : Int} {k : RV → Prop} (h : k (.val (.int (i + j)))) : opIAdd (.int i) (.int j) k := h
/-! ### enumerate -/
def enD : Nat → List D → List D
  | _, [] => []
  | n, d :: ds => .tup [.int (n : Nat), d] :: enD (n + 1) ds
theorem enD_get : ∀ {ds : List D} {n i : Nat}, (enD n ds)[i]? = ds[i]?.map fun d => .tup [.int ((n + i : Nat) : Int), d]
  | [], n, i => by simp [enD]
  | d :: ds, n, 0 => by simp [enD]
  | d :: ds, n, i + 1 => by
    have := enD_get (ds := ds) (n := n + 1) (i := i)
    rw [enD, List.getElem?_cons_succ, this, List.getElem?_cons_succ, show n + 1 + i = n + (i + 1) by omega]
theorem enD_len : ∀ {ds : List D} {n : Nat}, (enD n ds).length = ds.length
  | [], _ => rfl
  | d :: ds, n => by simp [enD, enD_len]
def iEnU (K : PySem.W.Frag) (ta : TA) : TI := fun σ H R => ta σ H fun vs H1 => ∃ a xs, vs = [.ref a] ∧ ((SqL K H1 a xs ∧ R (Ite K a) H1) ∨ (SqT K H1 a xs ∧ R (EnT.Ett K a) H1))
theorem pi_enU {e : Expr} {ta : TA} {p pos tpos : Pos} {elts : List Expr} {kk : Nat} (hK : X.K = K) (hg : Gl X "enumerate") (hm : X.mg "enumerate" = none) (ha : PA X [e] ta) (hs : starEach [e] X.env = [(false, eval e X.env)] := by rfl) :
    PI X (.Tuple elts kk tpos) (.Call (.Name "enumerate" p) [e] [] pos) (iEnU K ta) := by
  subst hK
  refine ⟨fun pins s σ H R I h => ?_⟩
  refine Call_ (ld_blt I hg hm boot_enumerate (PyProof.Rows.callWith_type1 (thn (ha.run pos pins s σ H _ I h) fun us s1 ⟨vs, H1, I1, r1, q1⟩ => ?_) hs rfl))
  obtain ⟨a, xs, ex, q1⟩ := q1
  subst ex
  cases r1 with
  | cons r rr =>
    cases rr
    cases r
    have fp : ∀ b, (b = s1.heap.objs.size + 1 ∨ b = s1.heap.objs.size) → FpOk X pins H1 b := fun b e' => by
      have hle : s1.heap.objs.size ≤ b := by
        rcases e' with z | z
        · rw [z]; exact Nat.le_add_right _ _
        · rw [z]; exact Nat.le_refl _
      exact I1.fpOk hle (I1.hok.fresh hle)
    rcases q1 with ⟨hq, q⟩ | ⟨hq, q⟩
    · obtain ⟨its, rv, p', hz⟩ := I1.list hq
      refine call_enumerate_list p'.isList fun h' he hit hsz hk => wpAny_pyIter_enum he ?_
      have I2 : Inv X pins σ H1 { s1 with heap := h' } := I1.kept (t' := s1.toks) hk
      exact ⟨s1.heap.objs.size + 1, [s1.heap.objs.size + 1, s1.heap.objs.size], _, _, H1, rfl, I2, turn_enum a (s1.heap.objs.size + 1) s1.heap.objs.size, ⟨⟨.none, he⟩, hit, Nat.succ_ne_self _⟩, fun b hb => fp b (by simpa using hb), q⟩
    · obtain ⟨its, rv, p', hz⟩ := I1.tuple hq
      refine EnT.call_tup (show s1.heap.IsTuple a its.toArray from p') fun h' he hit hk => wpAny_pyIter_enum he ?_
      have J : Inv X pins σ H1 { s1 with heap := h' } := I1.kept (t' := s1.toks) hk
      exact ⟨s1.heap.objs.size + 1, [s1.heap.objs.size + 1, s1.heap.objs.size], _, _, H1, rfl, J, EnT.turn a (s1.heap.objs.size + 1) s1.heap.objs.size, ⟨⟨.none, he⟩, hit, Nat.succ_ne_self _⟩, fun b hb => fp b (by simpa using hb), q⟩
theorem en_yl {po : Option Pt} {G F F' H' H'' : Hp} {σ : L2.St} {env : PEnv} {ds : List D} {xs : List V} {i : Nat} {d : D} {x y : V} {T : Addr} (r : Reps K po F ds xs) (s : Same F F') (st : St K po G F' H' σ env) (e : (enD 0 ds)[i]? = some d)
    (e1 : x = .ref T) (e2 : H' T = none) (e3 : H'' = upd H' T (.tup [.int (i : Nat), y])) (e4 : xs[i]? = some y) : ∃ F'', Same F' F'' ∧ St K po G F'' H'' σ env ∧ Rep K po F'' d x := by
  subst e1 e3
  rw [enD_get] at e
  cases q : ds[i]? with
  | none => rw [q] at e; cases e
  | some d0 =>
    rw [q] at e
    have e := Option.some.inj e
    subst e
    obtain ⟨v, h1, h2⟩ := r.get q
    rw [e4] at h1
    cases h1
    have nf := st.a.fh.free e2
    refine ⟨_, Same.new nf, st.newF e2, Rep.tup upd_same (.cons ?_ (.cons ((h2.mono s).mono (Same.new nf)) .nil))⟩
    rw [Nat.zero_add]
    exact .int _
theorem wk_enL {po : Option Pt} {F : Hp} {a : Addr} {xs : List V} {ds : List D} (h : F a = some (.lst xs)) (r : Reps K po F ds xs) : Wk K po F (Ite K a) (enD 0 ds) where
  go := fun G F' H' σ env i s st hi => ⟨xs, xs[i]'(by rw [← r.len]; rwa [enD_len] at hi), .inl (.inl (st.a.fh _ _ (s _ _ h))), List.getElem?_eq_getElem _⟩
  yl := fun G F' H' σ env i d x H'' s st e y => by
    obtain ⟨T, z, e1, e2, e3, e4⟩ := y
    exact en_yl r s st e e1 e2 e3 (e4 xs (.inl (.inl (st.a.fh _ _ (s _ _ h)))))
  st := fun G F' H' σ env s st => ⟨xs, .inl (.inl (st.a.fh _ _ (s _ _ h))), by rw [enD_len, r.len]; exact Nat.le_refl _⟩
theorem wk_enT {po : Option Pt} {F : Hp} {a : Addr} {xs : List V} {ds : List D} (h : F a = some (.tup xs)) (r : Reps K po F ds xs) : Wk K po F (EnT.Ett K a) (enD 0 ds) where
  go := fun G F' H' σ env i s st hi => ⟨xs, xs[i]'(by rw [← r.len]; rwa [enD_len] at hi), SqT.lt (st.a.fh _ _ (s _ _ h)), List.getElem?_eq_getElem _⟩
  yl := fun G F' H' σ env i d x H'' s st e y => by
    obtain ⟨T, z, e1, e2, e3, e4⟩ := y
    exact en_yl r s st e e1 e2 e3 (e4 xs (SqT.lt (st.a.fh _ _ (s _ _ h))))
  st := fun G F' H' σ env s st => ⟨xs, SqT.lt (st.a.fh _ _ (s _ _ h)), by rw [enD_len, r.len]⟩
def pIEn (p : PTA) : PTI := fun env k => p env fun rs e1 => ∃ d ds, dsO e1 rs = some [d] ∧ (d = .lst ds ∨ d = .tup ds) ∧ k (enD 0 ds) (fzs rs e1)
theorem qi_enum {e : Expr} {pa : PTA} {p pos tpos : Pos} {elts : List Expr} {kk : Nat} (hg : Gl X "enumerate") (hm : X.mg "enumerate" = none) (ha : QA X K W kx [e] pa) (hs : starEach [e] X.env = [(false, eval e X.env)] := by rfl) :
    QI X K W kx (.Tuple elts kk tpos) (.Call (.Name "enumerate" p) [e] [] pos) (pIEn pa) := by
  refine ⟨ha.hK, PI.imp (pi_enU ha.hK hg hm ha.pa hs) fun σ H R ⟨po, G, F, env, k, st, hx, hp, hq⟩ => ⟨po, G, F, env, _, st, hx, hp, fun F1 H1 e1 rs vs s1 st1 a1 ⟨d, ds, ed, hd, kk⟩ => ?_⟩⟩
  obtain ⟨F2, s2, st2, r2⟩ := RvA.frz st1 a1 ed
  cases r2 with
  | cons r r2 =>
    cases r2
    rcases hd with rfl | rfl
    · cases r with
      | lst h1 h2 => exact ⟨_, _, rfl, .inl ⟨.inl (.inl (st2.a.fh _ _ h1)), hq F2 H1 _ _ _ (s1.trans s2) st2 (wk_enL h1 h2) kk⟩⟩
    · cases r with
      | tup h1 h2 => exact ⟨_, _, rfl, .inr ⟨SqT.lt (st2.a.fh _ _ h1), hq F2 H1 _ _ _ (s1.trans s2) st2 (wk_enT h1 h2) kk⟩⟩
theorem i_ien {p : PTA} {env : PEnv} {k : List D → PEnv → Prop} (h : p env fun rs e1 => ∃ d ds, dsO e1 rs = some [d] ∧ (d = .lst ds ∨ d = .tup ds) ∧ k (enD 0 ds) (fzs rs e1)) : pIEn p env k := h
/-! ### xs[i] op= e -/
theorem pget_list (hK : X.K = K) : PGet X (rIxL K) := by
  subst hK
  intro pins s σ H o i ov iv Q I ro ri h
  obtain ⟨p, xs, i, z, rfl, rfl, hq, he, q⟩ := h
  cases ro
  obtain ⟨t, rfl⟩ := ri
  obtain ⟨its, r, pl, hz⟩ := I.list hq
  obtain ⟨j, h1, h2, h3, h4, h5⟩ := atI_get he
  obtain ⟨w, ew, rw'⟩ := r.get h2
  have hl := r.length
  have hn := line63
  have fin : EP X pins σ Q w s := ⟨z, H, I, rw', q⟩
  by_cases h0 : 0 ≤ i
  · have hj : i.toNat = j := by
      rw [seqIndex_of h0 h5] at h1
      exact Option.some.inj h1
    exact wpAny_getItem_list pl.isList h0 (by omega) (by rw [hj]; simpa using ew) fin
  · have hj : (i + (its.toArray.size : Int)).toNat = j := by
      rw [seqIndex_neg (by omega) h4] at h1
      rw [List.size_toArray, ← hl]
      exact Option.some.inj h1
    exact wpAny_getItem_list_neg pl.isList (by omega) (by rw [List.size_toArray] <;> omega) (by omega) (by rw [hj]; simpa using ew) fin
def pAugL (i : Nat) (f : D → D → (RV → Prop) → Prop) (pi pe : PTE) : PTS := fun pd env => (∃ d0, env[i]? = some (.own d0)) ∧ pi env fun s e1 => wD s e1 fun j => ∃ n ds x, j = .int n ∧ e1[i]? = some (.own (.lst ds)) ∧ L2.atI ds n = some x ∧
  pe e1 fun r e2 => wD r e2 fun y => f x y fun t => ∃ z ds2 m, t = .val z ∧ e2[i]? = some (.own (.lst ds2)) ∧ ixN ds2.length n = some m ∧ pd.nx (e2.set i (.own (.lst (ds2.set m z))))
theorem qs_augL {i : Nat} {o ix e : Expr} {pe pi : PTE} {op : Operator} {ti : TIp} {f : D → D → (RV → Prop) → Prop} {tpos pos : Pos} (hv : PE X o (tVar i)) (hi : QE X K W kx ix pi) (he : QE X K W kx e pe) (ho : PIp X op ti) (hs : Sim2 K ti f)
    (ha : ∀ ov iv new, augStore ix ov iv new = (do holding [new, ov, iv] (setItem ov iv new); release [new, ov, iv] []; pure .next) := by intros; rfl) : QS X K W kx (.AugAssign (.Subscript o ix tpos) op e pos) (pAugL i f pi pe) := by
  refine ⟨he.hK, PS.imp (ps_augS hv hi.pe (pget_list he.hK) he.pe ho set_list ha) fun D σ H ⟨po, G, F, env, pd, st, hx, hen, ⟨d0, e0⟩, hp⟩ => ?_⟩
  obtain ⟨a, o0, ea, _⟩ := st.ow i _ e0
  refine ⟨.ref a, ea, po, G, F, env, _, st, hx, hp, fun F1 H1 e1 s v s1 st1 a1 ⟨j, ej, n, ds, x, e2, e3, e4, k1⟩ => ?_⟩
  subst e2
  have hv := (RV.rd st1 a1 ej).int
  subst hv
  obtain ⟨b, o', eb, w⟩ := st1.ow i _ e3
  rw [ea] at eb
  cases eb
  have w1 := w.rep
  have w2 := w.at_
  cases w1 with
  | lst rl =>
    obtain ⟨old, h1, h2⟩ := rl.atI e4
    refine ⟨a, _, n, old, rfl, rfl, .inl (.inl w2), h1, po, G, F1, e1, _, st1, hx.weak (Same.refl G) s1, k1, fun F2 H2 e2' r u s2 st2 a2 ⟨y, ey, hf⟩ => ?_⟩
    refine hs po G F2 H2 σ e2' x y old u _ _ st2 (.inl (h2.mono s2)) (RV.rd st2 a2 ey) hf fun F3 H3 t w' s3 st3 a3 ⟨z, ds2, m, e5, e6, e7, kk⟩ => ?_
    subst e5
    obtain ⟨b, o'', eb, wu⟩ := st3.ow i _ e6
    rw [ea] at eb
    cases eb
    have w3 := wu.rep
    have w4 := wu.at_
    cases w3 with
    | lst rl2 =>
      exact ⟨a, _, n, m, rfl, rfl, w4, by rw [← rl2.len]; exact e7, hen.nx F3 _ σ _ ((s1.trans s2).trans s3) (st3.mut e6 ea (.lst (rl2.set m a3))) kk⟩
theorem i_augL {i : Nat} {f : D → D → (RV → Prop) → Prop} {pi pe : PTE} {pd : PEnds} {env : PEnv} {d0 : D} (e : env[i]? = some (.own d0)) (h : pi env fun s e1 => wD s e1 fun j => ∃ n ds x, j = .int n ∧ e1[i]? = some (.own (.lst ds)) ∧ L2.atI ds n = some x ∧
  pe e1 fun r e2 => wD r e2 fun y => f x y fun t => ∃ z ds2 m, t = .val z ∧ e2[i]? = some (.own (.lst ds2)) ∧ ixN ds2.length n = some m ∧ pd.nx (e2.set i (.own (.lst (ds2.set m z))))) : pAugL i f pi pe pd env := ⟨⟨d0, e⟩, h⟩
/-! ### list(range(n)) -/
def pLRg (p : PTE) : PTE := fun env k => p env fun r e1 => wD r e1 fun d => ∃ n, d = .int n ∧ RgOk 0 n ∧ k (.tmp (.lst (rgD 0 n.toNat))) e1
theorem rgV_rep {po : Option Pt} {F : Hp} {n : Int} : Reps K po F (rgD 0 n.toNat) (rgV 0 n) := by
  have e : rgV 0 n = ((List.range n.toNat).map fun i : Nat => (0 : Int) + (i : Nat)).map V.int := by
    unfold rgV
    rw [Int.sub_zero, List.map_map]
    rfl
  have e2 : rgD 0 n.toNat = ((List.range n.toNat).map fun i : Nat => (0 : Int) + (i : Nat)).map D.int := by
    unfold rgD
    rw [List.map_map]
    rfl
  rw [e, e2]
  exact Reps.ints _
theorem q_lrg {c a : Expr} {p : PTE} (h : QE X K W kx a p) (hp : PE X a (lift K W kx p) → PE X c (tLstRg (tRg1 (lift K W kx p)))) : QE X K W kx c (pLRg p) := by
  refine ⟨h.hK, PE.imp (hp h.pe) fun σ H Q ⟨po, G, F, env, k, st, hx, hp, hq⟩ => ⟨po, G, F, env, _, st, hx, hp, fun F1 H1 e1 r v s1 st1 a1 ⟨d, ed, n, en, ok, kk⟩ => ?_⟩⟩
  subst en
  refine ⟨n, (RV.rd st1 a1 ed).int, ok, fun q nq => ?_⟩
  obtain ⟨st2, a2⟩ := st1.newT nq (RepO.lst rgV_rep)
  exact hq F1 _ e1 _ _ s1 st2 a2 kk
theorem i_lrg {p : PTE} {env : PEnv} {k : RV → PEnv → Prop} (h : p env fun r e1 => wD r e1 fun d => ∃ n, d = .int n ∧ RgOk 0 n ∧ k (.tmp (.lst (rgD 0 n.toNat))) e1) : pLRg p env k := h
/-! ### xs.index(y) -/
def pIndex (p : PTE) (pa : PTA) : PTE := fun env k => p env fun r e1 => wD r e1 fun d => (∃ ds, d = .lst ds) ∧ pa e1 fun rs e2 => wD r e2 fun d2 => ∃ ds y j z, d2 = .lst ds ∧ dsO e2 rs = some [y] ∧ (D.lst ds).dat 60 = true ∧ y.dat 60 = true ∧ ds[j]? = some z ∧ deq z y = true ∧
  (∀ (m : Nat) (z' : D), m < j → ds[m]? = some z' → deq z' y = false) ∧ k (.val (.int (j : Nat))) e2
theorem pys_get : ∀ {ds : List D} {i : Nat}, (pys ds)[i]? = ds[i]?.map D.py
  | [], i => by simp [pys]
  | d :: ds, 0 => by simp [pys]
  | d :: ds, i + 1 => by
    have := pys_get (ds := ds) (i := i)
    simp [pys, this]
theorem q_index {c o e : Expr} {p : PTE} {pa : PTA} (h : QE X K W kx o p) (ha : QA X K W kx [e] pa) (hp : PE X o (lift K W kx p) → PA X [e] (liftA K W kx pa) → PE X c (tBM X.K "list" (rIndexD X.K) (lift K W kx p) (liftA K W kx pa))) : QE X K W kx c (pIndex p pa) := by
  have hK := h.hK
  subst hK
  refine ⟨rfl, PE.imp (hp h.pe ha.pa) fun σ H Q ⟨po, G, F, env, k, st, hx, hp, hq⟩ => ⟨po, G, F, env, _, st, hx, hp, fun F1 H1 e1 r1 v1 s1 st1 at1 ⟨d, ed, ⟨ds0, e0⟩, k1⟩ => ?_⟩⟩
  subst e0
  have hd := RV.rd st1 at1 ed
  obtain ⟨a, xs, rfl, h1, _⟩ := hd.lst st1.a.fh
  obtain ⟨G2, sG, st2, back⟩ := RV.hold st1 at1
  refine ⟨.inl ⟨rfl, _, .inl (.inl h1)⟩, po, G2, F1, e1, _, st2, hx.weak sG s1, k1, fun F2 H2 e2 rs vs s2 st3 a3 ⟨d2, ed2, ds, y, j, z, e3, ey, dt1, dt2, ez, eq1, hno, kk⟩ => ?_⟩
  subst e3
  obtain ⟨st4, at4⟩ := back F2 H2 e2 s2 st3
  have hl := RV.rd st4 at4 ed2
  obtain ⟨u, rfl, hy⟩ := (a3.rd st4 ey).one
  have sh := dat_shaped (by decide) dt1
  rw [D.py] at sh
  refine ⟨a, u, y.py, pys ds, j, z.py, rfl, rfl, hl.lstDp st4.a.fh dt1, hy.dp st4.a.fh dt2, sh, dat_shaped (by decide) dt2, by rw [pys_get, ez]; rfl, eq1, fun m z' hm q => ?_, hq F2 H2 e2 (.val (.int (j : Nat))) _ (s1.trans s2) st4 (Rep.int _) kk⟩
  rw [pys_get] at q
  cases w : ds[m]? with
  | none => rw [w] at q; cases q
  | some z0 =>
    rw [w] at q
    cases q
    exact hno m z0 hm w
theorem i_index {p : PTE} {pa : PTA} {env : PEnv} {k : RV → PEnv → Prop} (h : p env fun r e1 => wD r e1 fun d => (∃ ds, d = .lst ds) ∧ pa e1 fun rs e2 => wD r e2 fun d2 => ∃ ds y j z, d2 = .lst ds ∧ dsO e2 rs = some [y] ∧ (D.lst ds).dat 60 = true ∧ y.dat 60 = true ∧ ds[j]? = some z ∧ deq z y = true ∧
  (∀ (m : Nat) (z' : D), m < j → ds[m]? = some z' → deq z' y = false) ∧ k (.val (.int (j : Nat))) e2) : pIndex p pa env k := h
/-! ### classes of one's own -/
structure IsOwn (K : PySem.W.Frag) (C : Addr) : Prop where
  cl : Cls K C
  ha : PySem.W.findIn K (.ref C) "__class__" = some (some (.builtin "object.__class__"))
  hn : PySem.W.specialIn K (.builtin "object.__class__") "__get__" = some (some (.builtin "getset_descriptor.__get__"))
  ht : PySem.W.takesIn K (.builtin "object.__class__") = some true
  hm : PySem.W.mroIn K C (.type "object") = some true
theorem kitSelf {C : Addr} : PySem.W.kitOne K (.ref C) (.ref C) = some true := by
  unfold PySem.W.kitOne
  rw [if_pos (by simp)]
def fIsC (C : Addr) : List D → (RV → Prop) → Prop := fun ds k => ∃ fs, ds = [.ins C fs, .ad C] ∧ k (.val (.bl true))
theorem sim_isC {C : Addr} (c : IsOwn K C) : SimC K (rIsi K) (fIsC C) := by
  intro po G F H σ env ds vs Q k st hd hf hq
  obtain ⟨fs, rfl, kk⟩ := hf
  obtain ⟨v, u, rfl, h1, h2⟩ := hd.two
  cases h2.ad
  obtain ⟨a, dx, xs, rfl, h3, _⟩ := h1.ins st.a.fh
  exact ⟨_, _, .ref C, .ref C, true, rfl, .own _, .base (.ins h3 c.cl c.ha c.hn c.ht c.hm), kitSelf, hq F H (.val (.bl true)) _ (Same.refl F) st (Rep.bl _) kk⟩
theorem i_isC {C : Addr} {fs : List (Str × D)} {k : RV → Prop} (h : k (.val (.bl true))) : fIsC C [.ins C fs, .ad C] k := ⟨fs, rfl, h⟩
/-- x != y of equal instances -/
def opNeI (C : Addr) (P : List (Str × D) → Prop) : D → D → (RV → Prop) → Prop := fun d e k => ∃ fs, d = .ins C fs ∧ e = .ins C fs ∧ P fs ∧ k (.val (.bl false))
end
end Pl

/-! instances that change; instances compared; small sizes -/
namespace Pl
open PySem L2 My PyProof.Rows PySem.Spec

theorem szL {n : Nat} (h : n ≤ 16000000) : n ≤ sizeLine := Nat.le_trans h (by decide)
theorem szK {n : Nat} (h : n < 16000000) : n < sizeLine := Nat.lt_of_lt_of_le h (by decide)
theorem iteDT {c A B : Prop} [Decidable c] (h : c) (k : A) : if decide c = true then A else B := by rw [decide_eq_true h]; exact iteT k
theorem iteDF {c A B : Prop} [Decidable c] (h : ¬ c) (k : B) : if decide c = true then A else B := by rw [decide_eq_false h]; exact iteF k
theorem iteNT {c A B : Prop} [Decidable c] (h : ¬ c) (k : A) : if (!decide c) = true then A else B := by rw [decide_eq_false h]; exact iteT k
theorem iteNF {c A B : Prop} [Decidable c] (h : c) (k : B) : if (!decide c) = true then A else B := by rw [decide_eq_true h]; exact iteF k
/-! ### classes of plain values -/
def isW : D → Bool
  | .int _ => true
  | _ => false
def isIB : D → Bool
  | .int _ => true
  | .bl _ => true
  | _ => false
def isB : D → Bool
  | .bl _ => true
  | _ => false
def isT : D → Bool
  | .tup _ => true
  | _ => false
def isL : D → Bool
  | .lst _ => true
  | _ => false
def isS : D → Bool
  | .str _ => true
  | _ => false
def btw : D → Int → Int → Bool
  | .int n, l, h => decide (l ≤ n ∧ n ≤ h)
  | _, _, _ => false
/-- its class is a built-in one -/
def plainD (d : D) : Prop := ∃ n, tyn d = some n
theorem pl_int (i : Int) : plainD (.int i) := ⟨_, rfl⟩
theorem isi_int {d : D} {k : RV → Prop} (p : plainD d) (h : k (.val (.bl (isIB d)))) : fIsi [d, .ty "int"] k := by
  obtain ⟨n, e⟩ := p
  cases d <;> cases e
  · exact ⟨_, false, rfl, fun _ => kit_ty (r := false) (by decide +kernel), h⟩
  · exact ⟨_, true, rfl, fun _ => kit_ty (r := true) (by decide +kernel), h⟩
  · exact ⟨_, true, rfl, fun _ => kit_ty (r := true) (by decide +kernel), h⟩
  · exact ⟨_, false, rfl, fun _ => kit_ty (r := false) (by decide +kernel), h⟩
  · exact ⟨_, false, rfl, fun _ => kit_ty (r := false) (by decide +kernel), h⟩
  · exact ⟨_, false, rfl, fun _ => kit_ty (r := false) (by decide +kernel), h⟩
  · exact ⟨_, false, rfl, fun _ => kit_ty (r := false) (by decide +kernel), h⟩
theorem isi_bool {d : D} {k : RV → Prop} (p : plainD d) (h : k (.val (.bl (isB d)))) : fIsi [d, .ty "bool"] k := by
  obtain ⟨n, e⟩ := p
  cases d <;> cases e
  · exact ⟨_, false, rfl, fun _ => kit_ty (r := false) (by decide +kernel), h⟩
  · exact ⟨_, true, rfl, fun _ => kit_ty (r := true) (by decide +kernel), h⟩
  · exact ⟨_, false, rfl, fun _ => kit_ty (r := false) (by decide +kernel), h⟩
  · exact ⟨_, false, rfl, fun _ => kit_ty (r := false) (by decide +kernel), h⟩
  · exact ⟨_, false, rfl, fun _ => kit_ty (r := false) (by decide +kernel), h⟩
  · exact ⟨_, false, rfl, fun _ => kit_ty (r := false) (by decide +kernel), h⟩
  · exact ⟨_, false, rfl, fun _ => kit_ty (r := false) (by decide +kernel), h⟩
theorem isi_tup {d : D} {k : RV → Prop} (p : plainD d) (h : k (.val (.bl (isT d)))) : fIsi [d, .ty "tuple"] k := by
  obtain ⟨n, e⟩ := p
  cases d <;> cases e
  · exact ⟨_, false, rfl, fun _ => kit_ty (r := false) (by decide +kernel), h⟩
  · exact ⟨_, false, rfl, fun _ => kit_ty (r := false) (by decide +kernel), h⟩
  · exact ⟨_, false, rfl, fun _ => kit_ty (r := false) (by decide +kernel), h⟩
  · exact ⟨_, false, rfl, fun _ => kit_ty (r := false) (by decide +kernel), h⟩
  · exact ⟨_, true, rfl, fun _ => kit_ty (r := true) (by decide +kernel), h⟩
  · exact ⟨_, false, rfl, fun _ => kit_ty (r := false) (by decide +kernel), h⟩
  · exact ⟨_, false, rfl, fun _ => kit_ty (r := false) (by decide +kernel), h⟩
theorem isi_lst {d : D} {k : RV → Prop} (p : plainD d) (h : k (.val (.bl (isL d)))) : fIsi [d, .ty "list"] k := by
  obtain ⟨n, e⟩ := p
  cases d <;> cases e
  · exact ⟨_, false, rfl, fun _ => kit_ty (r := false) (by decide +kernel), h⟩
  · exact ⟨_, false, rfl, fun _ => kit_ty (r := false) (by decide +kernel), h⟩
  · exact ⟨_, false, rfl, fun _ => kit_ty (r := false) (by decide +kernel), h⟩
  · exact ⟨_, false, rfl, fun _ => kit_ty (r := false) (by decide +kernel), h⟩
  · exact ⟨_, false, rfl, fun _ => kit_ty (r := false) (by decide +kernel), h⟩
  · exact ⟨_, true, rfl, fun _ => kit_ty (r := true) (by decide +kernel), h⟩
  · exact ⟨_, false, rfl, fun _ => kit_ty (r := false) (by decide +kernel), h⟩
theorem isi_str {d : D} {k : RV → Prop} (p : plainD d) (h : k (.val (.bl (isS d)))) : fIsi [d, .ty "str"] k := by
  obtain ⟨n, e⟩ := p
  cases d <;> cases e
  · exact ⟨_, false, rfl, fun _ => kit_ty (r := false) (by decide +kernel), h⟩
  · exact ⟨_, false, rfl, fun _ => kit_ty (r := false) (by decide +kernel), h⟩
  · exact ⟨_, false, rfl, fun _ => kit_ty (r := false) (by decide +kernel), h⟩
  · exact ⟨_, true, rfl, fun _ => kit_ty (r := true) (by decide +kernel), h⟩
  · exact ⟨_, false, rfl, fun _ => kit_ty (r := false) (by decide +kernel), h⟩
  · exact ⟨_, false, rfl, fun _ => kit_ty (r := false) (by decide +kernel), h⟩
  · exact ⟨_, false, rfl, fun _ => kit_ty (r := false) (by decide +kernel), h⟩
section
variable {X : Cx} {K : PySem.W.Frag} {W : WX} {kx : KX}
/-- C(..), a new instance that may change yet -/
def pMakeO (C : Addr) (S : List D → (List (Str × D) → Prop) → (Addr → List (Str × D) → Prop) → Prop) (kx : KX) (p : PTA) : PTE := fun env k => p env fun rs e1 => ∃ ds, dsO e1 rs = some ds ∧ S ds (fun fs => k (.tmp (.ins C fs)) (fzs rs e1)) fun c fs => kx c fs (fzs rs e1)
variable {kk : Nat} {f C : Addr} {fd : FuncData} {ps : List Str} {x : Str} {p pos : Pos} {e : Expr} {es : List Expr} {pa : PTA} {S : List D → (List (Str × D) → Prop) → (Addr → List (Str × D) → Prop) → Prop}
theorem q_makeO (M : Mk X.K C f) (Fn : FnOk X.prog X.w X.K X.mg X.base (L2.CX X.prog X.w) kk f fd ps (spI K C S)) (hr : Room (kk + 1) X.A) (hg : Gl X x) (hm : X.mg x = some (.ref C)) (hb : Binds X.K fd ps []) (tk : Takes X (fun c d _ H => W c d [] H))
    (hW : ∀ c d σ H, W c d [] H ↔ W c d σ H) (ha : QA X K W kx (e :: es) pa) (hdb : (x == ("__debug__" : Str)) = false := by decide) (he : starEach (e :: es) X.env = (false, eval e X.env) :: starEach es X.env := by rfl) (hpl : (backTo pos (starEach es X.env)).any (·.1) = false := by rfl) :
    QE X K W kx (.Call (.Name x p) (e :: es) [] pos) (pMakeO C S kx pa) := by
  refine ⟨ha.hK, PE.imp (pe_make (E := fun c d H => W c d [] H) M Fn hr hg hm hb .nil (passes_call tk fun _ _ _ _ h => h) ha.pa hdb he hpl) fun σ H Q ⟨po, G, F, env, k, st, hx, hp, hq⟩ => ⟨po, G, F, env, _, st, hx, hp, fun F1 H1 e1 rs vs s1 st1 a1 ⟨ds, ed, hS⟩ x dx nx ndx ne => ?_⟩⟩
  obtain ⟨F2, s2, st2, r2⟩ := RvA.frz st1 a1 ed
  have st3 := (st2.newO (o := .own x) ndx)
  have nx2 : upd H1 dx (.own x) x = none := by rw [upd_ne (Ne.symm ne)]; exact nx
  obtain ⟨st4, ax⟩ := st3.newT nx2 (RepO.ins (K := K) (po := po) (F := F2) (C := C) (dx := dx) .nil)
  obtain ⟨a, o, ea, w, hn⟩ := ax
  cases ea
  have eo : o = .ins C dx [] := by
    have := w.at_
    rw [upd_same] at this
    exact (Option.some.inj this).symm
  subst eo
  refine ⟨po, gOwn G σ (fzs rs e1) _, F2, x, dx, vs, ds, _, _, by rw [List.append_nil], st4.gOwnA, ⟨w.at_, w.nf, ?_, w.np, w.rep⟩, r2, hS, fun F' H' fs xs s' a' w' kk' => ⟨rfl, ?_⟩, fun F' H' c d fs s' a' x' kk' => ?_⟩
  · cases z : gOwn G σ (fzs rs e1) (upd (upd H1 dx (.own x)) x (.ins C dx [])) x with
    | none => rfl
    | some u =>
      rcases gOwn_or z with q | ⟨i, d, q1, q2, q3⟩
      · rw [w.ng] at q; cases q
      · exact absurd q2 (hn i d q1)
  · have st5 := st4.gBack s' a'
    have wx : OwnAt K po G F' H' x (.ins C dx xs) (.ins C fs) := w'.weak gOwn_same
    exact hq _ H' _ (.tmp (.ins C fs)) _ ((s1.trans s2).trans s') st5 ⟨x, _, rfl, wx, fun i d q z => hn i d q z⟩ kk'
  · have st5 := st4.gBack s' a'
    exact (hW _ _ σ _).mpr (hx F' H' σ _ c d fs ((s1.trans s2).trans s') st5 x' kk')
theorem i_makeO {kx : KX} {p : PTA} {env : PEnv} {k : RV → PEnv → Prop} (h : p env fun rs e1 => ∃ ds, dsO e1 rs = some ds ∧ S ds (fun fs => k (.tmp (.ins C fs)) (fzs rs e1)) fun c fs => kx c fs (fzs rs e1)) : pMakeO C S kx p env k := h
/-- a field put, in its place or at the end -/
def putD (f : Str) (d : D) : List (Str × D) → List (Str × D)
  | [] => [(f, d)]
  | (g, x) :: r => if g = f then (g, d) :: r else (g, x) :: putD f d r
theorem RepF.put {po : Option Pt} {F : Hp} {f : Str} {d : D} {v : V} (h : Rep K po F d v) : ∀ {fs : List (Str × D)} {xs : List (Str × V)}, RepF K po F fs xs → RepF K po F (putD f d fs) (putF f v xs)
  | _, _, .nil => .cons h .nil
  | _, _, @RepF.cons _ _ _ g _ _ _ _ r rr => by
    unfold putD putF
    split
    · exact .cons h rr
    · exact .cons r (RepF.put h rr)
theorem RepF.len {po : Option Pt} {F : Hp} : ∀ {fs : List (Str × D)} {xs : List (Str × V)}, RepF K po F fs xs → fs.length = xs.length
  | _, _, .nil => rfl
  | _, _, .cons _ r => by simp [RepF.len r]
/-- o.f = e, o a slot's instance -/
def pSetF (i : Nat) (C : Addr) (f : Str) (pe : PTE) : PTS := fun pd env => (∃ d0, env[i]? = some (.own d0)) ∧ pe env fun r e1 => ∃ y fs, r.d e1 = some y ∧ (r.fz e1)[i]? = some (.own (.ins C fs)) ∧ fs.length < 1000 ∧ pd.nx ((r.fz e1).set i (.own (.ins C (putD f y fs))))
theorem qs_setF {i : Nat} {o e : Expr} {f : Str} {pe : PTE} {pos pos' : Pos} (hc : Cls K C) (hn : NoAttr K C f) (hv : PE X o (tVar i)) (he : QE X K W kx e pe) (hs : swapsWith e (some (.Attribute o f pos')) pos.line X.env = pure false := by rfl) : QS X K W kx (.Assign [.Attribute o f pos'] e pos) (pSetF i C f pe) := by
  have hK := he.hK
  subst hK
  refine ⟨rfl, PS.imp (ps_fld hv he.pe hs) fun D σ H ⟨po, G, F, env, pd, st, hx, hen, ⟨d0, e0⟩, hp⟩ => ⟨po, G, F, env, _, st, hx, hp, fun F1 H1 e1 r v s1 st1 a1 ⟨y, fs, ey, e2, hl, kk⟩ => ?_⟩⟩
  obtain ⟨F2, s2, st2, r2⟩ := RV.frz st1 a1 ey
  obtain ⟨a, o', ea, w⟩ := st2.ow i _ e2
  have w1 := w.rep
  have w2 := w.at_
  cases w1 with
  | @ins _ dx _ xs rl =>
    exact ⟨.ref a, ea, a, C, dx, xs, rfl, w2, hc, hn, by rw [← rl.len]; exact hl, hen.nx F2 _ σ _ (s1.trans s2) (st2.mut e2 ea (.ins (rl.put r2))) kk⟩
theorem i_setF {i : Nat} {f : Str} {pe : PTE} {pd : PEnds} {env : PEnv} {d0 : D} (e : env[i]? = some (.own d0)) (h : pe env fun r e1 => ∃ y fs, r.d e1 = some y ∧ (r.fz e1)[i]? = some (.own (.ins C fs)) ∧ fs.length < 1000 ∧ pd.nx ((r.fz e1).set i (.own (.ins C (putD f y fs))))) : pSetF i C f pe pd env := ⟨⟨d0, e⟩, h⟩
end
/-! ### machines -/
def tupI (ns : List Int) : D := .tup (ns.map .int)
def lstI (ns : List Int) : D := .lst (ns.map .int)
def evsD (evs : List (List Int)) : D := .tup (evs.map tupI)
def machF (n : Int) (evs : List (List Int)) : List (Str × D) := [("standings", .int n), ("events", evsD evs)]
def machD (C : Addr) (n : Int) (evs : List (List Int)) : D := .ins C (machF n evs)
def partsD (n : Int) (evs : List (List Int)) : D := .tup [.int n, evsD evs]
section
variable {K : PySem.W.Frag} {po : Option Pt} {F H : Hp}
theorem Rep.it {ns : List Int} {v : V} (h : Rep K po F (tupI ns) v) : IT K F v ns := by
  cases h with
  | tup h r => exact ⟨_, rfl, by rw [← r.mapI]; exact SqT.lt h⟩
theorem Reps.its : ∀ {evs : List (List Int)} {xs : List V}, Reps K po F (evs.map tupI) xs → All2 (IT K F) xs evs
  | [], _, .nil => .nil
  | e :: evs, _, .cons h r => .cons h.it (Reps.its r)
theorem Rep.its {evs : List (List Int)} {v : V} (h : Rep K po F (evsD evs) v) : ITs K F v evs := by
  cases h with
  | tup h r => exact ⟨_, _, rfl, SqT.lt h, r.its⟩
end
end Pl

/-! facts about lists of values, machines, runs -/
namespace Pl
open PySem L2 My PyProof.Rows PySem.Spec

/-! ### data -/
theorem dats_of {n : Nat} : ∀ {ds : List D}, (∀ d ∈ ds, d.dat n = true) → dats n ds = true
  | [], _ => rfl
  | d :: ds, h => by
    unfold dats
    rw [h d (by simp), dats_of fun e he => h e (by simp [he])]
    rfl
theorem dat_int {n : Nat} {i : Int} : (D.int i).dat n = true := by cases n <;> rfl
theorem dat_tup {n : Nat} {ds : List D} (h : ∀ d ∈ ds, d.dat n = true) : (D.tup ds).dat (n + 1) = true := by unfold D.dat; exact dats_of h
theorem dat_lst {n : Nat} {ds : List D} (h : ∀ d ∈ ds, d.dat n = true) : (D.lst ds).dat (n + 1) = true := by unfold D.dat; exact dats_of h
theorem dat_tupI {n : Nat} (ns : List Int) : (tupI ns).dat (n + 1) = true := dat_tup fun d hd => by
  obtain ⟨i, _, rfl⟩ := List.mem_map.mp hd
  exact dat_int
theorem dat_lstI {n : Nat} (ns : List Int) : (lstI ns).dat (n + 1) = true := dat_lst fun d hd => by
  obtain ⟨i, _, rfl⟩ := List.mem_map.mp hd
  exact dat_int
theorem dat_evs {n : Nat} (evs : List (List Int)) : (evsD evs).dat (n + 2) = true := dat_tup fun d hd => by
  obtain ⟨i, _, rfl⟩ := List.mem_map.mp hd
  exact dat_tupI i
theorem pys_map {α : Type} (f : α → D) : ∀ l : List α, pys (l.map f) = l.map fun x => (f x).py
  | [] => rfl
  | x :: l => by simp [pys, pys_map f l]
/-! data that tell themselves apart: no truth values within -/
mutual
def D.nob : D → Bool
  | .non => true
  | .int _ => true
  | .str _ => true
  | .tup ds => nobs ds
  | .lst ds => nobs ds
  | _ => false
def nobs : List D → Bool
  | [] => true
  | d :: ds => d.nob && nobs ds
end
mutual
theorem deq_iff : ∀ (d e : D), d.nob = true → e.nob = true → (deq d e = true ↔ d = e)
  | .non, .non, _, _ => by simp [deq, D.py, PyData.eqv]
  | .int i, .int j, _, _ => by simp [deq, D.py, PyData.eqv]
  | .str i, .str j, _, _ => by simp [deq, D.py, PyData.eqv]
  | .tup ds, .tup es, h1, h2 => by
    unfold D.nob at h1 h2
    have := deqs_iff ds es h1 h2
    unfold deqs at this
    simp [deq, D.py, PyData.eqv, this]
  | .lst ds, .lst es, h1, h2 => by
    unfold D.nob at h1 h2
    have := deqs_iff ds es h1 h2
    unfold deqs at this
    simp [deq, D.py, PyData.eqv, this]
  | .non, .int _, _, _ => by simp [deq, D.py, PyData.eqv]
  | .non, .str _, _, _ => by simp [deq, D.py, PyData.eqv]
  | .non, .tup _, _, _ => by simp [deq, D.py, PyData.eqv]
  | .non, .lst _, _, _ => by simp [deq, D.py, PyData.eqv]
  | .int _, .non, _, _ => by simp [deq, D.py, PyData.eqv]
  | .int _, .str _, _, _ => by simp [deq, D.py, PyData.eqv]
  | .int _, .tup _, _, _ => by simp [deq, D.py, PyData.eqv]
  | .int _, .lst _, _, _ => by simp [deq, D.py, PyData.eqv]
  | .str _, .non, _, _ => by simp [deq, D.py, PyData.eqv]
  | .str _, .int _, _, _ => by simp [deq, D.py, PyData.eqv]
  | .str _, .tup _, _, _ => by simp [deq, D.py, PyData.eqv]
  | .str _, .lst _, _, _ => by simp [deq, D.py, PyData.eqv]
  | .tup _, .non, _, _ => by simp [deq, D.py, PyData.eqv]
  | .tup _, .int _, _, _ => by simp [deq, D.py, PyData.eqv]
  | .tup _, .str _, _, _ => by simp [deq, D.py, PyData.eqv]
  | .tup _, .lst _, _, _ => by simp [deq, D.py, PyData.eqv]
  | .lst _, .non, _, _ => by simp [deq, D.py, PyData.eqv]
  | .lst _, .int _, _, _ => by simp [deq, D.py, PyData.eqv]
  | .lst _, .str _, _, _ => by simp [deq, D.py, PyData.eqv]
  | .lst _, .tup _, _, _ => by simp [deq, D.py, PyData.eqv]
  | .bl _, _, h, _ => by unfold D.nob at h; cases h
  | .ty _, _, h, _ => by unfold D.nob at h; cases h
  | .ad _, _, h, _ => by unfold D.nob at h; cases h
  | .pot, _, h, _ => by unfold D.nob at h; cases h
  | .gtup _, _, h, _ => by unfold D.nob at h; cases h
  | .ins _ _, _, h, _ => by unfold D.nob at h; cases h
  | .dK _, _, h, _ => by unfold D.nob at h; cases h
  | .dZ _ _ _, _, h, _ => by unfold D.nob at h; cases h
  | .dT _, _, h, _ => by unfold D.nob at h; cases h
  | _, .bl _, _, h => by unfold D.nob at h; cases h
  | _, .ty _, _, h => by unfold D.nob at h; cases h
  | _, .ad _, _, h => by unfold D.nob at h; cases h
  | _, .pot, _, h => by unfold D.nob at h; cases h
  | _, .gtup _, _, h => by unfold D.nob at h; cases h
  | _, .ins _ _, _, h => by unfold D.nob at h; cases h
  | _, .dK _, _, h => by unfold D.nob at h; cases h
  | _, .dZ _ _ _, _, h => by unfold D.nob at h; cases h
  | _, .dT _, _, h => by unfold D.nob at h; cases h
theorem deqs_iff : ∀ (ds es : List D), nobs ds = true → nobs es = true → (deqs ds es = true ↔ ds = es)
  | [], [], _, _ => by simp [deqs, pys, PyData.eqvAll]
  | [], e :: es, _, _ => by simp [deqs, pys, PyData.eqvAll]
  | d :: ds, [], _, _ => by simp [deqs, pys, PyData.eqvAll]
  | d :: ds, e :: es, h1, h2 => by
    unfold nobs at h1 h2
    rw [Bool.and_eq_true] at h1 h2
    have i1 := deq_iff d e h1.1 h2.1
    have i2 := deqs_iff ds es h1.2 h2.2
    unfold deqs at i2 ⊢
    unfold deq at i1
    simp [pys, PyData.eqvAll, i1, i2]
end
theorem nobs_of : ∀ {ds : List D}, (∀ d ∈ ds, d.nob = true) → nobs ds = true
  | [], _ => rfl
  | d :: ds, h => by
    unfold nobs
    rw [h d (by simp), nobs_of fun e he => h e (by simp [he])]
    rfl
theorem nob_tup {ds : List D} (h : ∀ d ∈ ds, d.nob = true) : (D.tup ds).nob = true := by unfold D.nob; exact nobs_of h
theorem nob_lst {ds : List D} (h : ∀ d ∈ ds, d.nob = true) : (D.lst ds).nob = true := by unfold D.nob; exact nobs_of h
theorem nob_tupI (ns : List Int) : (tupI ns).nob = true := nob_tup fun d hd => by
  obtain ⟨i, _, rfl⟩ := List.mem_map.mp hd
  rfl
theorem nob_lstI (ns : List Int) : (lstI ns).nob = true := nob_lst fun d hd => by
  obtain ⟨i, _, rfl⟩ := List.mem_map.mp hd
  rfl
theorem nob_evs (evs : List (List Int)) : (evsD evs).nob = true := nob_tup fun d hd => by
  obtain ⟨i, _, rfl⟩ := List.mem_map.mp hd
  exact nob_tupI i
theorem deq_self {d : D} (h : d.nob = true) : deq d d = true := (deq_iff d d h h).mpr rfl
theorem deq_ne {d e : D} (h1 : d.nob = true) (h2 : e.nob = true) (n : d ≠ e) : deq d e = false := by
  cases q : deq d e with
  | false => rfl
  | true => exact absurd ((deq_iff d e h1 h2).mp q) n
theorem tupI_inj {a b : List Int} (h : tupI a = tupI b) : a = b := by
  unfold tupI at h
  exact List.map_inj_right (fun x y z => D.int.inj z) |>.mp (D.tup.inj h)
theorem evsD_inj {a b : List (List Int)} (h : evsD a = evsD b) : a = b := by
  unfold evsD at h
  exact List.map_inj_right (fun x y z => tupI_inj z) |>.mp (D.tup.inj h)
/-- x in a list of ints -/
theorem inD_ints (n : Int) : ∀ ns : List Int, inD (.int n) (ns.map .int) = decide (n ∈ ns)
  | [] => by simp [inD]
  | m :: ns => by
    have ih := inD_ints n ns
    unfold inD at ih ⊢
    rw [List.map_cons, List.any_cons, ih]
    have : deq (.int m) (.int n) = decide (m = n) := by simp [deq, D.py, PyData.eqv, Bool.beq_eq_decide_eq]
    rw [this]
    by_cases c : n = m
    · subst c; simp
    · have c' : ¬ m = n := fun z => c z.symm
      simp [c, c']
/-! ### items -/
theorem atD {α β : Type} {l : List α} {f : α → β} {i : Int} {x : α} (h0 : 0 ≤ i) (h : l[i.toNat]? = some x) : L2.atI (l.map f) i = some (f x) := at_ge h0 (by rw [List.getElem?_map, h]; rfl)
theorem at_last {α : Type} {l : List α} {x : α} (h : l.getLast? = some x) : L2.atI l (-1) = some x := by
  cases l with
  | nil => cases h
  | cons a l =>
    unfold L2.atI ixN
    rw [if_neg (by decide), if_pos (by simp <;> omega)]
    have e : (-1 + ((a :: l).length : Int)).toNat = (a :: l).length - 1 := by simp <;> omega
    show (a :: l)[(-1 + (((a :: l).length : Nat) : Int)).toNat]? = some x
    rw [e, ← List.getLast?_eq_getElem?]
    exact h
theorem ixN_ge {n : Nat} {i : Int} (h0 : 0 ≤ i) (h1 : i < (n : Int)) : ixN n i = some i.toNat := by
  unfold ixN
  rw [if_pos h0, if_pos h1]
theorem rgD_map (lo : Int) (n : Nat) : rgD lo n = ((List.range n).map fun i : Nat => lo + (i : Int)).map D.int := by
  unfold rgD
  rw [List.map_map]
  rfl
theorem rgD_len (lo : Int) (n : Nat) : (rgD lo n).length = n := by unfold rgD; rw [List.length_map, List.length_range]
theorem rgD_get {lo : Int} {n i : Nat} {d : D} (h : (rgD lo n)[i]? = some d) : i < n ∧ d = .int (lo + (i : Nat)) := by
  have hi : i < n := by have := (List.getElem?_eq_some_iff.mp h).1; rwa [rgD_len] at this
  unfold rgD at h
  rw [List.getElem?_map, List.getElem?_range hi] at h
  exact ⟨hi, (Option.some.inj h).symm⟩
theorem mapD_get {α : Type} {f : α → D} {l : List α} {i : Nat} {d : D} (h : (l.map f)[i]? = some d) : ∃ x, l[i]? = some x ∧ d = f x := by
  rw [List.getElem?_map] at h
  cases q : l[i]? with
  | none => rw [q] at h; cases h
  | some x => rw [q] at h; exact ⟨x, rfl, (Option.some.inj h).symm⟩
/-! ### comprehensions -/
/-- a comprehension; an item gives f's value, or nothing -/
theorem lc_f {g : PTG} {t : PTT} {p : PTE} {vs : List Nat} {k : RV → PEnv → Prop} {ds : List D} {env : PEnv} (f : Nat → Option D) (hl : ds.length < 16000000)
    (hs : ∀ (i : Nat) (d : D) (acc : List D), ds[i]? = some d → acc.length < 16000000 → ∀ nx : List D → PEnv → Prop, (f i = none → nx acc env) → (∀ y, f i = some y → nx (acc ++ [y]) env) →
      g (.val d) env fun e1 => t e1 fun b e2 => if b = true then p e2 fun r e3 => ∃ y, r.d e3 = some y ∧ acc.length < sizeLine ∧ nx (acc ++ [y]) (wipeP (r.fz e3) vs) else nx acc (wipeP e2 vs))
    (hd : k (.tmp (.lst ((List.range ds.length).filterMap f))) env) : pLcL g t p vs k ds [] env := by
  refine lc_inv (fun i acc e => e = env ∧ acc = (List.range i).filterMap f) ⟨rfl, rfl⟩ (fun i d acc e hi hI nx hn => ?_) (fun acc e hI => by rw [hI.1, hI.2]; exact hd)
  obtain ⟨rfl, rfl⟩ := hI
  have hi' : i < ds.length := (List.getElem?_eq_some_iff.mp hi).1
  have la : ((List.range i).filterMap f).length < 16000000 := by
    have := List.length_filterMap_le f (List.range i)
    rw [List.length_range] at this
    omega
  refine hs i d _ hi la nx (fun c => hn _ _ ⟨rfl, ?_⟩) fun y c => hn _ _ ⟨rfl, ?_⟩
  · rw [List.range_succ, List.filterMap_append]
    simp [c]
  · rw [List.range_succ, List.filterMap_append]
    simp [c]
theorem fm_congr {α β : Type} {f g : α → Option β} : ∀ {l : List α}, (∀ x ∈ l, f x = g x) → l.filterMap f = l.filterMap g
  | [], _ => rfl
  | x :: l, h => by rw [List.filterMap_cons, List.filterMap_cons, h x (by simp), fm_congr fun y hy => h y (by simp [hy])]
theorem fm_map {α : Type} (f : Nat → Option α) (g : Nat → α) (n : Nat) (h : ∀ i, i < n → f i = some (g i)) : (List.range n).filterMap f = (List.range n).map g := by
  rw [← List.filterMap_eq_map]
  exact fm_congr fun i hi => h i (List.mem_range.mp hi)
theorem fm_filter {α : Type} (f : Nat → Option α) (q : Nat → Bool) (g : Nat → α) (n : Nat) (h : ∀ i, i < n → f i = if q i = true then some (g i) else none) : (List.range n).filterMap f = ((List.range n).filter q).map g := by
  rw [fm_congr (g := fun i => if q i = true then some (g i) else none) fun i hi => h i (List.mem_range.mp hi)]
  induction (List.range n) with
  | nil => rfl
  | cons a l ih =>
    by_cases c : q a = true
    · simp [List.filterMap_cons, List.filter_cons, c, ih]
    · simp [List.filterMap_cons, List.filter_cons, c, ih]
/-- .. by the items themselves -/
theorem range_fm {α β : Type} (l : List α) (f : α → Option β) : (List.range l.length).filterMap (fun i => l[i]?.bind f) = l.filterMap f := by
  induction l with
  | nil => rfl
  | cons a l ih =>
    rw [List.length_cons, List.range_succ_eq_map, List.filterMap_cons, List.filterMap_map, List.filterMap_cons]
    have e : (fun i => ((a :: l)[i]?.bind f)) ∘ Nat.succ = fun i => l[i]?.bind f := by
      funext i
      simp
    rw [e, ih]
    rfl
theorem lc_g {α : Type} {g : PTG} {t : PTT} {p : PTE} {vs : List Nat} {k : RV → PEnv → Prop} {c : α → D} {l : List α} {env : PEnv} (f : α → Option D) (hl : l.length < 16000000)
    (hs : ∀ (i : Nat) (x : α) (acc : List D), l[i]? = some x → acc.length < 16000000 → ∀ nx : List D → PEnv → Prop, (f x = none → nx acc env) → (∀ y, f x = some y → nx (acc ++ [y]) env) →
      g (.val (c x)) env fun e1 => t e1 fun b e2 => if b = true then p e2 fun r e3 => ∃ y, r.d e3 = some y ∧ acc.length < sizeLine ∧ nx (acc ++ [y]) (wipeP (r.fz e3) vs) else nx acc (wipeP e2 vs))
    (hd : k (.tmp (.lst (l.filterMap f))) env) : pLcL g t p vs k (l.map c) [] env := by
  refine lc_f (fun i => l[i]?.bind f) (by rw [List.length_map]; exact hl) (fun i d acc hi la nx h1 h2 => ?_) (by rw [List.length_map, range_fm]; exact hd)
  obtain ⟨x, hx, rfl⟩ := mapD_get hi
  exact hs i x acc hx la nx (fun z => h1 (by rw [hx]; exact z)) fun y z => h2 y (by rw [hx]; exact z)
/-! ### events that lead on, runs -/
def outsI (evs : List (List Int)) (s : Int) : List Int := ((List.range evs.length).filter fun i => decide (evB (evs.getD i []) = s)).map fun i : Nat => (i : Int)
theorem outsI_mem {evs : List (List Int)} {s k : Int} : k ∈ outsI evs s ↔ 0 ≤ k ∧ k < (evs.length : Int) ∧ evB (evs.getD k.toNat []) = s := by
  unfold outsI
  rw [List.mem_map]
  constructor
  · rintro ⟨i, hi, rfl⟩
    obtain ⟨h1, h2⟩ := List.mem_filter.mp hi
    have h1' := List.mem_range.mp h1
    exact ⟨by omega, by omega, by simpa using h2⟩
  · rintro ⟨h0, h1, h2⟩
    refine ⟨k.toNat, List.mem_filter.mpr ⟨List.mem_range.mpr (by omega), ?_⟩, by omega⟩
    simpa using h2
theorem outsI_len (evs : List (List Int)) (s : Int) : (outsI evs s).length ≤ evs.length := by
  unfold outsI
  rw [List.length_map]
  have := List.length_filter_le (fun i => decide (evB (evs.getD i []) = s)) (List.range evs.length)
  rw [List.length_range] at this
  exact this
/-- all runs of so many events, with the standings to which they lead -/
def runsL (evs : List (List Int)) : Nat → List (List Int × Int)
  | 0 => [([], 0)]
  | m + 1 => (runsL evs m).flatMap fun p => (outsI evs p.2).map fun k => (p.1 ++ [k], evA (evs.getD k.toNat []))
def runD (p : List Int × Int) : D := .tup [tupI p.1, .int p.2]
theorem flatMap_len {α β : Type} (f : α → List β) (b : Nat) : ∀ l : List α, (∀ x ∈ l, (f x).length ≤ b) → (l.flatMap f).length ≤ l.length * b
  | [], _ => by simp
  | x :: l, h => by
    rw [List.flatMap_cons, List.length_append, List.length_cons, Nat.succ_mul]
    have h1 := h x (by simp)
    have h2 := flatMap_len f b l fun y hy => h y (by simp [hy])
    omega
theorem runsL_len (evs : List (List Int)) : ∀ m : Nat, (runsL evs m).length ≤ evs.length ^ m
  | 0 => by simp [runsL]
  | m + 1 => by
    unfold runsL
    refine Nat.le_trans (flatMap_len _ evs.length _ fun x _ => by rw [List.length_map]; exact outsI_len _ _) ?_
    rw [Nat.pow_succ]
    exact Nat.mul_le_mul_right _ (runsL_len evs m)
theorem runsL_ok (evs : List (List Int)) : ∀ (m : Nat) (p : List Int × Int), p ∈ runsL evs m → walkTo evs 0 p.1 = some p.2 ∧ InEv evs p.1 ∧ p.1.length = m
  | 0, p, h => by
    have : p = ([], 0) := by simpa [runsL] using h
    subst this
    exact ⟨rfl, (fun _ z => by cases z), rfl⟩
  | m + 1, p, h => by
    unfold runsL at h
    obtain ⟨q, hq, hp⟩ := List.mem_flatMap.mp h
    obtain ⟨k, hk, rfl⟩ := List.mem_map.mp hp
    obtain ⟨h1, h2, h3⟩ := runsL_ok evs m q hq
    obtain ⟨k0, k1, k2⟩ := outsI_mem.mp hk
    refine ⟨?_, fun x hx => ?_, by simp [h3]⟩
    · rw [walkTo_app, h1]
      show walkTo evs q.2 [k] = _
      show (if 0 ≤ k ∧ k < (evs.length : Int) ∧ evB (evs.getD k.toNat []) = q.2 then walkTo evs (evA (evs.getD k.toNat [])) [] else none) = _
      rw [if_pos ⟨k0, k1, k2⟩]
      rfl
    · rcases List.mem_append.mp hx with z | z
      · exact h2 x z
      · rw [List.mem_singleton.mp z]; exact ⟨k0, k1⟩
/-- a run over values, as the program looks at it -/
def runL (evs : List (List Int)) : Int → List D → Bool
  | _, [] => true
  | s, .int k :: ds => if 0 ≤ k ∧ k < (evs.length : Int) ∧ evB (evs.getD k.toNat []) = s then runL evs (evA (evs.getD k.toNat [])) ds else false
  | _, _ :: _ => false
def runB (evs : List (List Int)) : D → Bool
  | .tup ds => runL evs 0 ds
  | _ => false
theorem runL_ints (evs : List (List Int)) : ∀ (run : List Int) (s : Int), runL evs s (run.map .int) = (walkTo evs s run).isSome
  | [], s => rfl
  | k :: run, s => by
    rw [List.map_cons]
    unfold runL walkTo
    by_cases c : 0 ≤ k ∧ k < (evs.length : Int) ∧ evB (evs.getD k.toNat []) = s
    · rw [if_pos c, if_pos c]; exact runL_ints evs run _
    · rw [if_neg c, if_neg c]; rfl
theorem four_at {evs : List (List Int)} {k : Int} (f : ∀ e ∈ evs, Four e) (h0 : 0 ≤ k) (h1 : k < (evs.length : Int)) : ∃ b a t p : Int, evs[k.toNat]? = some [b, a, t, p] ∧ evs.getD k.toNat [] = [b, a, t, p] := by
  have hk : k.toNat < evs.length := by omega
  obtain ⟨b, a, t, p, e⟩ := f _ (List.getElem_mem hk)
  exact ⟨b, a, t, p, by rw [List.getElem?_eq_getElem hk, e], by rw [List.getD_eq_getElem?_getD, List.getElem?_eq_getElem hk, e]; rfl⟩
end Pl

/-! machines read, counted, struck -/
namespace Pl
open PySem L2 My PyProof.Rows PySem.Spec

theorem hu65 {k : Nat} {A : Around} (hr : Room k A) : A.units + 65 < cLine := by have := hr.un; omega
def relS (scope sc : Scope) : Scope := { scope with names := scope.names.map fun (n, k) => if (k == NameKind.free && sc.kind == .function && sc.names.lookup n == some .cell) then (n, NameKind.cell) else (n, k) }
theorem blkOk_nest {N : List Str} {sc0 scope scopeO : Scope} {own : List (Str × Nat)} {cl : List (Str × Addr)} {C : Addr} {env : PySem.Env} (e : env.scope = sc0) (h : blkC N (relS scopeO sc0) scope own = true) : BlkOk N (compEnvC scopeO cl C env).scope scope own := by
  have : (compEnvC scopeO cl C env).scope = relS scopeO sc0 := by subst e; rfl
  rw [this]
  exact blkOk_by h
/-- a comprehension by an invariant of its list, the rest as it was -/
theorem lc_p {g : PTG} {t : PTT} {p : PTE} {vs : List Nat} {k : RV → PEnv → Prop} {ds : List D} {env : PEnv} (I : Nat → List D → Prop) (h0 : I 0 [])
    (hs : ∀ (i : Nat) (d : D) (acc : List D), ds[i]? = some d → I i acc → ∀ nx : List D → PEnv → Prop, (∀ acc', I (i + 1) acc' → nx acc' env) →
      g (.val d) env fun e1 => t e1 fun b e2 => if b = true then p e2 fun r e3 => ∃ y, r.d e3 = some y ∧ acc.length < sizeLine ∧ nx (acc ++ [y]) (wipeP (r.fz e3) vs) else nx acc (wipeP e2 vs))
    (hd : ∀ acc, I ds.length acc → k (.tmp (.lst acc)) env) : pLcL g t p vs k ds [] env :=
  lc_inv (fun i acc e => e = env ∧ I i acc) ⟨rfl, h0⟩ (fun i d acc e hi hI nx hn => by
    obtain ⟨rfl, hI⟩ := hI
    exact hs i d acc hi hI nx fun acc' h => hn _ _ ⟨rfl, h⟩) fun acc e hI => by
    obtain ⟨rfl, hI⟩ := hI
    exact hd acc hI
/-- an environment written out -/
inductive Nf : PEnv → PEnv → Prop
  | nil : Nf [] []
  | cons {x : Sl} {l l' : PEnv} : Nf l l' → Nf (x :: l) (x :: l')
theorem Nf.eq {a b : PEnv} (h : Nf a b) : a = b := by
  induction h with
  | nil => rfl
  | cons _ ih => rw [ih]
theorem i_sqN {p q : PTS} {pd : PEnds} {env env' : PEnv} (e : Nf env env') (h : p { pd with nx := q pd } env') : pSeq p q pd env := by
  rw [e.eq]
  exact h
theorem lc_norm {g : PTG} {t : PTT} {p : PTE} {vs : List Nat} {k : RV → PEnv → Prop} {ds acc : List D} {env env' : PEnv} (e : Nf env env') (h : pLcL g t p vs k ds acc env') : pLcL g t p vs k ds acc env := by
  rw [e.eq]
  exact h
/-! ### reading -/
section
variable {k : RV → Prop}
theorem f_lenE {evs : List (List Int)} (h : k (.val (.int evs.length))) : fLen [evsD evs] k := by
  have : (evs.map tupI).length = evs.length := List.length_map ..
  show k (.val (.int (evs.map tupI).length))
  rw [this]
  exact h
theorem f_lenM {α : Type} {f : α → D} {l : List α} (h : k (.val (.int l.length))) : fLen [.lst (l.map f)] k := by
  show k (.val (.int (l.map f).length))
  rw [List.length_map]
  exact h
theorem o_ixE {evs : List (List Int)} {i : Int} {e : List Int} (h0 : 0 ≤ i) (he : evs[i.toNat]? = some e) (h : k (.val (tupI e))) : opIx (evsD evs) (.int i) k := ⟨_, atD h0 he, h⟩
theorem o_ixEv {evs : List (List Int)} {i : Int} (f : ∀ e ∈ evs, Four e) (h0 : 0 ≤ i) (h1 : i < (evs.length : Int)) (h : k (.val (tupI (evs.getD i.toNat [])))) : opIx (evsD evs) (.int i) k := by
  obtain ⟨b, a, t, p, e1, e2⟩ := four_at f h0 h1
  rw [e2] at h
  exact o_ixE h0 e1 h
theorem four_getD {evs : List (List Int)} {i : Int} (f : ∀ e ∈ evs, Four e) (h0 : 0 ≤ i) (h1 : i < (evs.length : Int)) : Four (evs.getD i.toNat []) := by
  obtain ⟨b, a, t, p, e1, e2⟩ := four_at f h0 h1
  rw [e2]
  exact ⟨_, _, _, _, rfl⟩
theorem o_ix0 {e : List Int} (f : Four e) (h : k (.val (.int (evB e)))) : opIx (tupI e) (.int 0) k := by
  obtain ⟨b, a, t, p, rfl⟩ := f
  exact ⟨_, rfl, h⟩
theorem o_ix1 {e : List Int} (f : Four e) (h : k (.val (.int (evA e)))) : opIx (tupI e) (.int 1) k := by
  obtain ⟨b, a, t, p, rfl⟩ := f
  exact ⟨_, rfl, h⟩
theorem o_ixP0 {n : Int} {evs : List (List Int)} (h : k (.val (.int n))) : opIx (partsD n evs) (.int 0) k := ⟨_, rfl, h⟩
theorem o_ixP1 {n : Int} {evs : List (List Int)} (h : k (.val (evsD evs))) : opIx (partsD n evs) (.int 1) k := ⟨_, rfl, h⟩
theorem o_inT {i : Int} {ns : List Int} (h : k (.val (.bl (decide (i ∈ ns))))) : opIn false (.int i) (tupI ns) k := ⟨ns, rfl, by rw [if_neg (by decide)]; exact h⟩
theorem o_ninT {i : Int} {ns : List Int} (h : k (.val (.bl (!decide (i ∈ ns))))) : opIn true (.int i) (tupI ns) k := ⟨ns, rfl, by rw [if_pos rfl]; exact h⟩
theorem o_mulL {d : D} {n : Int} (h0 : 0 ≤ n) (h1 : n ≤ 16000000) (h : k (.tmp (.lst (List.replicate n.toNat d)))) : opMul (.lst [d]) (.int n) k := by
  refine ⟨by omega, by omega, szL (by simp; omega), ?_⟩
  have : (List.replicate n.toNat [d]).flatten = List.replicate n.toNat d := by
    induction n.toNat with
    | zero => rfl
    | succ m ih => rw [List.replicate_succ, List.replicate_succ, List.flatten_cons, ih]; rfl
  rw [this]
  exact h
end
theorem four_all {n : Int} {evs : List (List Int)} (ok : ∀ e ∈ evs, okEv n e) : ∀ e ∈ evs, Four e := fun e h => (ok e h).four
theorem ok_at {n : Int} {evs : List (List Int)} {i : Int} (ok : ∀ e ∈ evs, okEv n e) (h0 : 0 ≤ i) (h1 : i < (evs.length : Int)) : okEv n (evs.getD i.toNat []) := by
  have hk : i.toNat < evs.length := by omega
  have e : evs.getD i.toNat [] = evs[i.toNat] := by rw [List.getD_eq_getElem?_getD, List.getElem?_eq_getElem hk]; rfl
  rw [e]
  exact ok _ (List.getElem_mem hk)
theorem iteN {c A B : Prop} [Decidable c] (h1 : ¬ c → A) (h2 : c → B) : if (!decide c) = true then A else B := by
  by_cases h : c
  · exact iteNF h (h2 h)
  · exact iteNT h (h1 h)
theorem runL_int (evs : List (List Int)) (s k : Int) (ds : List D) : runL evs s (.int k :: ds) = if 0 ≤ k ∧ k < (evs.length : Int) ∧ evB (evs.getD k.toNat []) = s then runL evs (evA (evs.getD k.toNat [])) ds else false := rfl
theorem outs_fm (evs : List (List Int)) (s : Int) (L : Nat) (hL : L = evs.length) : ((List.range L).filterMap fun i => if decide (evB (evs.getD i []) = s) = true then some (D.int (i : Nat)) else none) = (outsI evs s).map .int := by
  subst hL
  rw [fm_filter _ (fun i => decide (evB (evs.getD i []) = s)) (fun i : Nat => D.int (i : Nat)) _ fun i _ => rfl]
  unfold outsI
  rw [List.map_map]
  rfl
theorem putM {n m : Int} {es fs : List (List Int)} : putD "events" (evsD fs) (putD "standings" (.int m) (machF n es)) = machF m fs := by
  have h : ¬ (("standings" : Str) = "events") := by decide
  unfold machF
  simp [putD, h]
theorem putD_le (f : Str) (d : D) : ∀ fs : List (Str × D), (putD f d fs).length ≤ fs.length + 1
  | [] => Nat.le_refl _
  | (g, x) :: r => by
    unfold putD
    split
    · simp
    · have := putD_le f d r
      simp only [List.length_cons]
      omega
theorem putD_lt {f : Str} {d : D} {fs : List (Str × D)} (h : fs.length + 1 < 1000) : (putD f d fs).length < 1000 := Nat.lt_of_le_of_lt (putD_le f d fs) h
theorem i_gconsM {α : Type} {f : α → D} {x : α} {xs : List α} {g : PTG} {gs : List D → PEnv → (PEnv → Prop) → Prop} {env : PEnv} {k : PEnv → Prop} (h : pGCons g gs (f x :: xs.map f) env k) : pGCons g gs ((x :: xs).map f) env k := h
theorem i_gnilM {α : Type} {f : α → D} {env : PEnv} {k : PEnv → Prop} (h : k env) : pGNil (([] : List α).map f) env k := ⟨rfl, h⟩
/-! ### numbers that go up -/
theorem asc_ok : ∀ (gs : List Int) (l h : Int), gs.Pairwise (· < ·) → (∀ g ∈ gs, l ≤ g ∧ g ≤ h) → ∀ (asc : List D → Int → Int → Bool), (∀ l h, asc [] l h = true) → (∀ (n : Int) ds l h, asc (.int n :: ds) l h = (btw (.int n) l h && asc ds (n + 1) h)) → asc (gs.map .int) l h = true
  | [], l, h, _, _, asc, h1, h2 => h1 l h
  | g :: gs, l, h, p, q, asc, h1, h2 => by
    obtain ⟨p1, p2⟩ := List.pairwise_cons.mp p
    rw [List.map_cons, h2]
    have b : btw (.int g) l h = true := decide_eq_true (q g (by simp))
    rw [b, asc_ok gs (g + 1) h p2 (fun x hx => ⟨by have := p1 x hx; omega, (q x (by simp [hx])).2⟩) asc h1 h2]
    rfl
/-- so many numbers, going up -/
def Goes (L : Nat) (gs : List Int) : Prop := gs.Pairwise (· < ·) ∧ ∀ g ∈ gs, 0 ≤ g ∧ g < (L : Int)
theorem Goes.nil (L : Nat) : Goes L [] := ⟨.nil, fun _ h => by cases h⟩
theorem Goes.mono {L M : Nat} {gs : List Int} (h : Goes L gs) (l : L ≤ M) : Goes M gs := ⟨h.1, fun g hg => ⟨(h.2 g hg).1, by have := (h.2 g hg).2; omega⟩⟩
theorem Goes.snoc {L : Nat} {gs : List Int} (h : Goes L gs) : Goes (L + 1) (gs ++ [(L : Int)]) := by
  refine ⟨List.pairwise_append.mpr ⟨h.1, List.pairwise_singleton _ _, fun a ha b hb => ?_⟩, fun g hg => ?_⟩
  · rw [List.mem_singleton.mp hb]
    exact (h.2 a ha).2
  · rcases List.mem_append.mp hg with z | z
    · exact (h.mono (Nat.le_succ L)).2 g z
    · rw [List.mem_singleton.mp z]; omega
theorem Goes.all : ∀ L : Nat, Goes L ((List.range L).map fun i : Nat => (i : Int))
  | 0 => Goes.nil 0
  | L + 1 => by
    rw [List.range_succ, List.map_append]
    exact (Goes.all L).snoc
theorem Goes.len {L : Nat} {gs : List Int} (h : Goes L gs) : gs.length ≤ L := by
  have : ∀ (gs : List Int) (l : Int) (M : Nat), gs.Pairwise (· < ·) → (∀ g ∈ gs, l ≤ g ∧ g < l + (M : Int)) → gs.length ≤ M := by
    intro gs
    induction gs with
    | nil => intro l M _ _; exact Nat.zero_le _
    | cons g gs ih =>
      intro l M p q
      obtain ⟨p1, p2⟩ := List.pairwise_cons.mp p
      have q1 := q g (by simp)
      have := ih (g + 1) (M - (g + 1 - l).toNat) p2 fun x hx => ⟨by have := p1 x hx; omega, by have := (q x (by simp [hx])).2; omega⟩
      simp only [List.length_cons]
      omega
  exact this gs 0 L h.1 fun g hg => ⟨(h.2 g hg).1, by have := (h.2 g hg).2; omega⟩
theorem rg0 (L : Nat) : rgD 0 L = ((List.range L).map fun i : Nat => (i : Int)).map D.int := by
  rw [rgD_map]
  congr 1
  exact List.map_congr_left fun i _ => Int.zero_add _
/-- the numbers that are kept -/
def keptI (L : Nat) (gs : List Int) : List Int := ((List.range L).filter fun i : Nat => !decide ((i : Int) ∈ gs)).map fun i : Nat => (i : Int)
def pick (evs : List (List Int)) (ks : List Int) : List (List Int) := ks.map fun k => evs.getD k.toNat []
theorem keptI_mem {L : Nat} {gs : List Int} {k : Int} : k ∈ keptI L gs ↔ 0 ≤ k ∧ k < (L : Int) ∧ k ∉ gs := by
  unfold keptI
  rw [List.mem_map]
  constructor
  · rintro ⟨i, hi, rfl⟩
    obtain ⟨h1, h2⟩ := List.mem_filter.mp hi
    have h1' := List.mem_range.mp h1
    exact ⟨by omega, by omega, by simpa using h2⟩
  · rintro ⟨h0, h1, h2⟩
    have e : ((k.toNat : Nat) : Int) = k := by omega
    refine ⟨k.toNat, List.mem_filter.mpr ⟨List.mem_range.mpr (by omega), ?_⟩, e⟩
    rw [e]
    simpa using h2
theorem keptI_len (L : Nat) (gs : List Int) : (keptI L gs).length ≤ L := by
  unfold keptI
  rw [List.length_map]
  have := List.length_filter_le (fun i : Nat => !decide ((i : Int) ∈ gs)) (List.range L)
  rw [List.length_range] at this
  exact this
theorem keptI_nil (L : Nat) : keptI L [] = (List.range L).map fun i : Nat => (i : Int) := by
  unfold keptI
  congr 1
  exact List.filter_eq_self.mpr fun _ _ => by simp
theorem pick_all (evs : List (List Int)) : pick evs (keptI evs.length []) = evs := by
  rw [keptI_nil]
  unfold pick
  rw [List.map_map]
  refine List.ext_getElem (by simp) fun i h1 h2 => ?_
  simp only [List.getElem_map, List.getElem_range, Function.comp]
  have e : ((i : Nat) : Int).toNat = i := by omega
  rw [e, List.getD_eq_getElem?_getD, List.getElem?_eq_getElem h2]
  rfl
theorem pick_ok {n : Int} {evs : List (List Int)} {ks : List Int} (ok : ∀ e ∈ evs, okEv n e) (h : ∀ k ∈ ks, 0 ≤ k ∧ k < (evs.length : Int)) : ∀ e ∈ pick evs ks, okEv n e := fun e he => by
  obtain ⟨k, hk, rfl⟩ := List.mem_map.mp he
  exact ok_at ok (h k hk).1 (h k hk).2
/-! ### how many runs lead on -/
def nW (evs : List (List Int)) : Nat → Int → Int
  | 0, _ => 1
  | m + 1, s => ((evs.filter fun e => decide (evB e = s)).map fun e => nW evs m (evA e)).sum
def rowI (n : Int) (f : Int → Int) : List Int := (List.range n.toNat).map fun s : Nat => f (s : Int)
theorem rowI_len (n : Int) (f : Int → Int) : (rowI n f).length = n.toNat := by unfold rowI; rw [List.length_map, List.length_range]
theorem rowI_get {n : Int} {f : Int → Int} {s : Int} (h0 : 0 ≤ s) (h1 : s < n) : (rowI n f)[s.toNat]? = some (f s) := by
  unfold rowI
  rw [List.getElem?_map, List.getElem?_range (by omega)]
  have e : ((s.toNat : Nat) : Int) = s := by omega
  simp [e]
theorem rowI_set {n : Int} {f : Int → Int} {s x : Int} (h0 : 0 ≤ s) (h1 : s < n) : (rowI n f).set s.toNat x = rowI n fun t => if t = s then x else f t := by
  unfold rowI
  refine List.ext_getElem (by simp) fun i h2 h3 => ?_
  rw [List.getElem_set, List.getElem_map, List.getElem_map, List.getElem_range]
  by_cases c : s.toNat = i
  · rw [if_pos c]; exact (if_pos (by omega)).symm
  · rw [if_neg c]; exact (if_neg (by omega)).symm
theorem rowI_const (n c : Int) : rowI n (fun _ => c) = List.replicate n.toNat c := by
  unfold rowI
  rw [List.map_const', List.length_range]
theorem map_rep (n : Nat) (c : Int) : (List.replicate n c).map D.int = List.replicate n (.int c) := List.map_replicate
theorem map_setI (l : List Int) (i : Nat) (x : Int) : (l.map D.int).set i (.int x) = (l.set i x).map D.int := by rw [List.map_set]
/-- the sum over the first events -/
def part (evs : List (List Int)) (f : Int → Int) (i : Nat) (s : Int) : Int := (((evs.take i).filter fun e => decide (evB e = s)).map fun e => f (evA e)).sum
theorem part_zero (evs : List (List Int)) (f : Int → Int) : part evs f 0 = fun _ => 0 := by
  funext s
  simp [part]
theorem part_all (evs : List (List Int)) (m : Nat) : part evs (nW evs m) evs.length = nW evs (m + 1) := by
  funext s
  unfold part
  rw [List.take_length]
  rfl
theorem part_succ {evs : List (List Int)} {f : Int → Int} {i : Nat} {e : List Int} (he : evs[i]? = some e) : part evs f (i + 1) = fun t => if t = evB e then part evs f i (evB e) + f (evA e) else part evs f i t := by
  funext t
  unfold part
  rw [List.take_add_one, he]
  simp only [Option.toList, List.filter_append, List.map_append, List.sum_append]
  by_cases c : t = evB e
  · subst c
    simp
  · rw [if_neg c]
    have : ¬ evB e = t := fun z => c z.symm
    simp [this]
theorem sum_map_le {α : Type} : ∀ (l : List α) (f : α → Int), (∀ x ∈ l, f x = 1) → (l.map f).sum = (l.length : Int)
  | [], _, _ => rfl
  | x :: l, f, h => by
    rw [List.map_cons, List.sum_cons, h x (by simp), sum_map_le l f fun y hy => h y (by simp [hy]), List.length_cons]
    omega
def rowsD (evs : List (List Int)) (n : Int) (m : Nat) : List D := (List.range m).map fun j => lstI (rowI n (nW evs j))
theorem rowsD_len (evs : List (List Int)) (n : Int) (m : Nat) : (rowsD evs n m).length = m := by unfold rowsD; rw [List.length_map, List.length_range]
theorem rowsD_get {evs : List (List Int)} {n : Int} {m j : Nat} (h : j < m) : (rowsD evs n m)[j]? = some (lstI (rowI n (nW evs j))) := by
  unfold rowsD
  rw [List.getElem?_map, List.getElem?_range h]
  rfl
theorem rowsD_succ (evs : List (List Int)) (n : Int) (m : Nat) : rowsD evs n m ++ [lstI (rowI n (nW evs m))] = rowsD evs n (m + 1) := by
  unfold rowsD
  rw [List.range_succ, List.map_append]
  rfl
theorem rowsD_last (evs : List (List Int)) (n : Int) (m : Nat) : (rowsD evs n (m + 1)).getLast? = some (lstI (rowI n (nW evs m))) := by
  rw [← rowsD_succ]
  exact List.getLast?_concat ..
theorem rowsD_one (evs : List (List Int)) (n : Int) : rowsD evs n 1 = [.lst (List.replicate n.toNat (.int 1))] := by
  have : rowI n (nW evs 0) = List.replicate n.toNat 1 := rowI_const n 1
  unfold rowsD
  show [lstI (rowI n (nW evs 0))] = _
  rw [this]
  unfold lstI
  rw [map_rep]
theorem row_zero (evs : List (List Int)) (n : Int) (f : Int → Int) : D.lst (List.replicate n.toNat (.int 0)) = lstI (rowI n (part evs f 0)) := by
  rw [part_zero, rowI_const]
  unfold lstI
  rw [map_rep]
theorem row_step {evs : List (List Int)} {n : Int} {f : Int → Int} {i : Nat} {e : List Int} (he : evs[i]? = some e) (h0 : 0 ≤ evB e) (h1 : evB e < n) :
    D.lst (((rowI n (part evs f i)).map D.int).set (evB e).toNat (.int (part evs f i (evB e) + f (evA e)))) = lstI (rowI n (part evs f (i + 1))) := by
  rw [map_setI, rowI_set h0 h1, ← part_succ he]
  rfl
theorem kept_fm (evs : List (List Int)) (gs : List Int) (L : Nat) (hL : L = evs.length) : ((List.range L).filterMap fun i => if (!decide (((i : Nat) : Int) ∈ gs)) = true then some (tupI (evs.getD i [])) else none) = (pick evs (keptI evs.length gs)).map tupI := by
  subst hL
  rw [fm_filter _ (fun i : Nat => !decide (((i : Nat) : Int) ∈ gs)) (fun i : Nat => tupI (evs.getD i [])) _ fun i _ => rfl]
  unfold pick keptI
  rw [List.map_map, List.map_map]
  rfl
/-! ### runs that are kept -/
def keeps (gs : List Int) (p : List Int × Int) : Bool := p.1.all fun k => !decide (k ∈ gs)
def keptL (evs : List (List Int)) (gs : List Int) (m : Nat) : List (List Int × Int) := (runsL evs m).filter (keeps gs)
def stepL (evs : List (List Int)) (p : List Int × Int) : List (List Int × Int) := (outsI evs p.2).map fun k => (p.1 ++ [k], evA (evs.getD k.toNat []))
theorem runsL_succ (evs : List (List Int)) (m : Nat) : runsL evs (m + 1) = (runsL evs m).flatMap (stepL evs) := rfl
theorem filter_flat {α β : Type} (f : α → List β) (p : β → Bool) : ∀ l : List α, (l.flatMap f).filter p = l.flatMap fun x => (f x).filter p
  | [] => rfl
  | x :: l => by rw [List.flatMap_cons, List.flatMap_cons, List.filter_append, filter_flat f p l]
theorem flat_sum {α β : Type} (f : α → List β) (g : β → Int) : ∀ l : List α, ((l.flatMap f).map g).sum = (l.map fun x => ((f x).map g).sum).sum
  | [] => rfl
  | x :: l => by rw [List.flatMap_cons, List.map_append, List.sum_append, List.map_cons, List.sum_cons, flat_sum f g l]
theorem steps_fm (evs : List (List Int)) (p : List Int × Int) : ((outsI evs p.2).filterMap fun k => some (runD (p.1 ++ [k], evA (evs.getD k.toNat [])))) = (stepL evs p).map runD := by
  unfold stepL
  rw [List.map_map, ← List.filterMap_eq_map]
  rfl
theorem flat_snoc {α β : Type} (f : α → List β) {l : List α} {j : Nat} {x : α} (h : l[j]? = some x) : (l.take j).flatMap f ++ f x = (l.take (j + 1)).flatMap f := by
  rw [List.take_add_one, h, List.flatMap_append]
  simp
theorem flat_take_len {α β : Type} (f : α → List β) (l : List α) (j : Nat) : ((l.take j).flatMap f).length ≤ (l.flatMap f).length := by
  have : l.flatMap f = (l.take j).flatMap f ++ (l.drop j).flatMap f := by rw [← List.flatMap_append, List.take_append_drop]
  rw [this, List.length_append]
  omega
theorem o_addTI {a : List Int} {k : Int} {kk : RV → Prop} (l : a.length ≤ 1000000) (h : kk (.val (tupI (a ++ [k])))) : opAdd (tupI a) (.tup [.int k]) kk := by
  refine o_addT (szL (by simp; omega)) ?_
  have e : D.tup (a.map .int ++ [.int k]) = tupI (a ++ [k]) := by unfold tupI; rw [List.map_append]; rfl
  rw [e]
  exact h
/-- the events that lead on and are kept, among the events kept -/
theorem out_kept (evs : List (List Int)) (gs : List Int) (s : Int) (f : Int → Int) :
    (((outsI evs s).filter fun k => !decide (k ∈ gs)).map fun k => f (evA (evs.getD k.toNat []))).sum = (((pick evs (keptI evs.length gs)).filter fun e => decide (evB e = s)).map fun e => f (evA e)).sum := by
  unfold outsI pick keptI
  rw [List.filter_map, List.filter_map, List.filter_map, List.filter_filter, List.filter_filter, List.map_map, List.map_map, List.map_map]
  have e : ∀ a : Nat, ((a : Nat) : Int).toNat = a := fun a => by omega
  have h1 : (fun a : Nat => ((fun k => !decide (k ∈ gs)) ∘ fun i : Nat => (i : Int)) a && decide (evB (evs.getD a []) = s)) = fun a : Nat => ((fun e => decide (evB e = s)) ∘ (fun k : Int => evs.getD k.toNat []) ∘ fun i : Nat => (i : Int)) a && !decide ((a : Int) ∈ gs) := by
    funext a
    simp only [Function.comp, e]
    rw [Bool.and_comm]
  have h2 : (fun k : Int => f (evA (evs.getD k.toNat []))) ∘ (fun i : Nat => (i : Int)) = (fun e => f (evA e)) ∘ (fun k : Int => evs.getD k.toNat []) ∘ fun i : Nat => (i : Int) := rfl
  first
  | (rw [h1, h2]; rfl)
  | (simp only [Function.comp, e, Bool.and_comm])
theorem step_kept (evs : List (List Int)) (gs : List Int) (j : Nat) (p : List Int × Int) (hp : keeps gs p = true) :
    (((stepL evs p).filter (keeps gs)).map fun q => nW (pick evs (keptI evs.length gs)) j q.2).sum = nW (pick evs (keptI evs.length gs)) (j + 1) p.2 := by
  unfold stepL
  rw [List.filter_map, List.map_map]
  have e : (keeps gs ∘ fun k : Int => (p.1 ++ [k], evA (evs.getD k.toNat []))) = fun k => !decide (k ∈ gs) := by
    funext k
    unfold keeps at hp ⊢
    simp only [Function.comp, List.all_append, hp, List.all_cons, List.all_nil, Bool.and_true, Bool.true_and]
  rw [e]
  exact out_kept evs gs p.2 (nW (pick evs (keptI evs.length gs)) j)
theorem step_gone (evs : List (List Int)) (gs : List Int) (p : List Int × Int) (hp : keeps gs p = false) : (stepL evs p).filter (keeps gs) = [] := by
  refine List.filter_eq_nil_iff.mpr fun q hq => ?_
  obtain ⟨k, _, rfl⟩ := List.mem_map.mp hq
  unfold keeps at hp ⊢
  simp only [List.all_append, hp, Bool.false_and]
  decide
theorem kept_sum (evs : List (List Int)) (gs : List Int) : ∀ (m j : Nat), ((keptL evs gs m).map fun q => nW (pick evs (keptI evs.length gs)) j q.2).sum = nW (pick evs (keptI evs.length gs)) (m + j) 0
  | 0, j => by
    unfold keptL runsL
    rw [List.filter_cons_of_pos rfl]
    simp
  | m + 1, j => by
    rw [show m + 1 + j = m + (j + 1) by omega, ← kept_sum evs gs m (j + 1)]
    unfold keptL
    rw [runsL_succ, filter_flat, flat_sum]
    generalize runsL evs m = l
    induction l with
    | nil => rfl
    | cons p l ih =>
      rw [List.map_cons, List.sum_cons, ih]
      cases c : keeps gs p with
      | true =>
        rw [List.filter_cons_of_pos c, List.map_cons, List.sum_cons, step_kept evs gs j p c]
      | false =>
        rw [List.filter_cons_of_neg (by rw [c]; decide), step_gone evs gs p c]
        simp
theorem kept_count (evs : List (List Int)) (gs : List Int) (m : Nat) : nW (pick evs (keptI evs.length gs)) m 0 = ((keptL evs gs m).length : Int) := by
  have := kept_sum evs gs m 0
  rw [Nat.add_zero] at this
  rw [← this]
  exact sum_map_le _ _ fun _ _ => rfl
theorem kept_fm2 (L : Nat) (gs : List Int) : ((List.range L).filterMap fun i => if (!decide (((i : Nat) : Int) ∈ gs)) = true then some (D.int (i : Nat)) else none) = (keptI L gs).map .int := by
  rw [fm_filter _ (fun i : Nat => !decide (((i : Nat) : Int) ∈ gs)) (fun i : Nat => D.int (i : Nat)) _ fun i _ => rfl]
  unfold keptI
  rw [List.map_map]
  rfl
theorem pick_fm (evs : List (List Int)) (ks : List Int) : (ks.filterMap fun k => some (tupI (evs.getD k.toNat []))) = (pick evs ks).map tupI := by
  unfold pick
  rw [List.map_map, ← List.filterMap_eq_map]
  rfl
theorem keptL_fm (evs : List (List Int)) (gs : List Int) (m : Nat) : ((runsL evs m).filterMap fun p => if keeps gs p = true then some (tupI p.1) else none) = (keptL evs gs m).map fun p => tupI p.1 := by
  unfold keptL
  induction runsL evs m with
  | nil => rfl
  | cons p l ih =>
    cases c : keeps gs p with
    | true => rw [List.filterMap_cons, List.filter_cons_of_pos c, if_pos c, ih]; rfl
    | false => rw [List.filterMap_cons, List.filter_cons_of_neg (by rw [c]; decide), if_neg (by rw [c]; decide), ih]
theorem cnt_keeps (gs : List Int) (p : List Int × Int) : decide (((p.1.filterMap fun k => if decide (k ∈ gs) = true then some (D.int 1) else none).length : Int) = 0) = keeps gs p := by
  unfold keeps
  induction p.1 with
  | nil => rfl
  | cons k l ih =>
    rw [List.all_cons, List.filterMap_cons]
    by_cases c : k ∈ gs
    · rw [if_pos (decide_eq_true c), decide_eq_true c]
      simp
      omega
    · rw [if_neg (by rw [decide_eq_false c]; decide), decide_eq_false c]
      exact ih
theorem i_isCM {C : Addr} {n : Int} {evs : List (List Int)} {k : RV → Prop} (h : k (.val (.bl true))) : fIsC C [machD C n evs, .ad C] k := ⟨_, rfl, h⟩
theorem o_neE {evs : List (List Int)} {k : RV → Prop} (h : k (.val (.bl false))) : opEq true (evsD evs) (evsD evs) k := o_neD (dat_evs (n := 58) _) (dat_evs (n := 58) _) (deq_self (nob_evs _)) h
theorem idx_fm (ks run : List Int) : (run.filterMap fun k => some (D.int (ks.idxOf k : Nat))) = (run.map fun k => ((ks.idxOf k : Nat) : Int)).map .int := by
  rw [List.map_map, ← List.filterMap_eq_map]
  rfl
theorem cutD_mem {ds : List D} {lo hi : Option Int} {d : D} (h : d ∈ cutD ds lo hi) : d ∈ ds := List.mem_of_mem_drop (List.mem_of_mem_take h)
theorem keptL_mem {evs : List (List Int)} {gs : List Int} {m : Nat} {p : List Int × Int} (h : p ∈ keptL evs gs m) : walkTo evs 0 p.1 = some p.2 ∧ p.1.length = m ∧ ∀ k ∈ p.1, k ∈ keptI evs.length gs := by
  obtain ⟨h1, h2⟩ := List.mem_filter.mp h
  obtain ⟨a, b, c⟩ := runsL_ok evs m p h1
  refine ⟨a, c, fun k hk => keptI_mem.mpr ⟨(b k hk).1, (b k hk).2, ?_⟩⟩
  unfold keeps at h2
  have := List.all_eq_true.mp h2 k hk
  simpa using this
/-! ### a place among numbers -/
theorem idx_get {ks : List Int} {k : Int} (h : k ∈ ks) : ∃ j : Nat, j < ks.length ∧ ks[j]? = some k ∧ (∀ m, m < j → ∀ z, ks[m]? = some z → z ≠ k) ∧ ks.idxOf k = j := by
  refine ⟨ks.idxOf k, List.idxOf_lt_length_of_mem h, by rw [List.getElem?_eq_getElem (List.idxOf_lt_length_of_mem h), List.getElem_idxOf], fun m hm z hz e => ?_, rfl⟩
  subst e
  obtain ⟨h1, h2⟩ := List.getElem?_eq_some_iff.mp hz
  have q := List.not_of_lt_findIdx hm
  rw [h2] at q
  simp at q
/-- a kept run, renumbered, is a run of the events kept -/
theorem walk_kept (evs : List (List Int)) (gs : List Int) : ∀ (run : List Int) (s t : Int), walkTo evs s run = some t → (∀ k ∈ run, k ∈ keptI evs.length gs) →
    walkTo (pick evs (keptI evs.length gs)) s (run.map fun k => ((keptI evs.length gs).idxOf k : Int)) = some t
  | [], s, t, h, _ => h
  | k :: run, s, t, h, hk => by
    rw [List.map_cons]
    unfold walkTo at h ⊢
    split at h
    · rename_i c
      obtain ⟨j, h1, h2, _, h4⟩ := idx_get (hk k (by simp))
      have e : (pick evs (keptI evs.length gs)).getD ((keptI evs.length gs).idxOf k : Int).toNat [] = evs.getD k.toNat [] := by
        have e0 : ((keptI evs.length gs).idxOf k : Int).toNat = j := by omega
        rw [e0, List.getD_eq_getElem?_getD]
        unfold pick
        rw [List.getElem?_map, h2]
        rfl
      have l : (pick evs (keptI evs.length gs)).length = (keptI evs.length gs).length := by unfold pick; rw [List.length_map]
      rw [if_pos ⟨by omega, by rw [l]; omega, by rw [e]; exact c.2.2⟩, e]
      exact walk_kept evs gs run _ t h fun x hx => hk x (by simp [hx])
    · cases h
/-! ### != of machines -/
section
variable {X : Cx} {K : PySem.W.Frag}
theorem c_neI {n : Nat} {C f : Addr} {fd : FuncData} {ps : List Str} {R : Addr → Addr → Hp → Prop} {g : D → D → (RV → Prop) → Prop} (F : FnOk X.prog X.w X.K X.mg X.base CX0 n f fd ps (spEq R)) (hr : Room (n + 1) X.A)
    (hn : PySem.W.findIn X.K (.ref C) "__ne__" = some (some (.builtin "object.__ne__"))) (hs : PySem.W.findIn X.K (.ref C) "__eq__" = some (some (.ref f))) (hf : PySem.W.isFn X.K (.ref f) = true) (hm : PySem.W.mroIn X.K C (.type "object") = some true)
    (hb : Binds X.K fd ps []) (s : Sim2 K (rNeI (DIns C R)) g) : CmpQ X K .NotEq g := ⟨_, op_neIns F hr hn hs hf hm hb pass0, s⟩
theorem St.up {po : Option Pt} {G F H H' : Hp} {σ : L2.St} {env : PEnv} (st : St K po G F H σ env) (s : Same H H') : St K po G F H' σ env :=
  ⟨⟨fun b o h => s _ _ (st.a.fh _ _ h), fun b o h => s _ _ (st.a.gh _ _ h), st.a.dj, fun p ep => ⟨(st.a.pt p ep).1.same s, (st.a.pt p ep).2⟩⟩, st.len, st.vl,
    fun i d e => (st.ow i d e).elim fun a ha => ha.elim fun o ho => ⟨a, o, ho.1, ⟨s _ _ ho.2.at_, ho.2.nf, ho.2.ng, ho.2.np, ho.2.rep⟩⟩, st.ds⟩
def opNeM (C : Addr) : D → D → (RV → Prop) → Prop := fun d e k => ∃ n evs, d = machD C n evs ∧ e = machD C n evs ∧ k (.val (.bl false))
theorem Rdb.mach {po : Option Pt} {F H : Hp} {C : Addr} {n : Int} {evs : List (List Int)} {v : V} (s : Same F H) (h : Rdb K po F H (machD C n evs) v) : MachAt K C H v n evs := by
  obtain ⟨a, dx, xs, e, h3, r⟩ := h.ins s
  subst e
  unfold machF at r
  cases r with
  | cons r1 r =>
    cases r with
    | cons r2 r =>
      cases r
      cases r1
      exact ⟨a, dx, _, rfl, h3, ITs.keep (Keep.of s) r2.its⟩
end
theorem IsOwn.is {K : PySem.W.Frag} {C : Addr} (c : IsOwn K C) {H : Hp} {x : V} {n : Int} {evs : List (List Int)} {Q : Bool → Prop} (h : MachAt K C H x n evs) (q : Q true) :
    ∃ (y c : V) (s u : Value) (b : Bool), [x, V.ref C] = [y, c] ∧ ClsV c u ∧ TyX K H y s ∧ PySem.W.kitOne K s u = some b ∧ Q b := by
  obtain ⟨m, dx, w, rfl, h2, _⟩ := h
  exact ⟨_, _, _, _, true, rfl, .own _, .base (.ins h2 c.cl c.ha c.hn c.ht c.hm), kitSelf, q⟩
end Pl

namespace Pl
open PySem L2 My
theorem two_runs {G : RV → Prop} {l : D} (c : G (.val l) → G (.tmp l)) (h : G (.val l)) : ∀ t, (t = .val l ∨ t = .tmp l) → G t := fun t e => by
  rcases e with rfl | rfl
  · exact h
  · exact c h
end Pl

/-! try over values -/
namespace Pl
open PySem L2 My PyProof.Rows PySem.Spec

theorem EndsR.weak {K : PySem.W.Frag} {po : Option Pt} {G F F1 : Hp} {pd : PEnds} {D : Ends} (h : EndsR K po G F pd D) (s : Same F F1) : EndsR K po G F1 pd D :=
  ⟨fun F' H' σ' env' s' => h.nx F' H' σ' env' (s.trans s'), fun F' H' σ' env' s' => h.bk F' H' σ' env' (s.trans s'), fun F' H' σ' env' s' => h.ct F' H' σ' env' (s.trans s'), fun F' H' σ' env' r v s' => h.rt F' H' σ' env' r v (s.trans s')⟩
section
variable {X : Cx} {K : PySem.W.Frag} {W : WX} {kx : KX}
/-- handlers without a name, a reading each -/
inductive QHds (X : Cx) (K : PySem.W.Frag) : List ExceptHandler → List (Addr × PTS) → Prop
  | nil : QHds X K [] []
  | cons {x : Str} {C : Addr} {b₀ : Stmt} {suite : List Stmt} {np pos' : Pos} {hds : List ExceptHandler} {l : List (Addr × PTS)} {p : PTS} (hc : Names X x (.ref C))
      (hs : ∀ (a : Addr) (oe : Obj) (cls : Value) (d : Option Addr) (pn : List (Addr × Obj)), Zc cls d oe → (∃ vs, oe.data = .fields vs) → QSs (X.suite a ((a, oe) :: pn)) K W0 kx0 (b₀ :: suite) p) (r : QHds X K hds l) :
      QHds X K (.ExceptHandler (some (.Name x np)) none (b₀ :: suite) pos' :: hds) ((C, p) :: l)
/-- what the handlers make of an exception -/
def pHds (K : PySem.W.Frag) (kx : KX) (pd : PEnds) : List (Addr × PTS) → KX
  | [] => kx
  | (C, p) :: r => fun c fs env => ∃ b, PySem.W.exmOne K (.ref c) (.ref C) = some b ∧ if b = true then p pd env else pHds K kx pd r c fs env
def pTry (K : PySem.W.Frag) (kx : KX) (pb : KX → PTS) (l : List (Addr × PTS)) : PTS := fun pd env => pb (pHds K kx pd l) pd env
def hdTs (K : PySem.W.Frag) (l : List (Addr × PTS)) : List (Value × (Addr → Value → Option Addr → TS)) := l.map fun p => (.ref p.1, fun _ _ _ => liftS K W0 kx0 p.2)
theorem QHds.ok {hds : List ExceptHandler} {l : List (Addr × PTS)} (h : QHds X K hds l) : HdsOk X hds (hdTs K l) := by
  induction h with
  | nil => exact .nil
  | cons hc hs _ ih => exact .cons hc (fun a oe cls d pn z v => (hs a oe cls d pn z v).ps) ih
theorem XRel.hds {po : Option Pt} {G F : Hp} {pd : PEnds} {D : Ends} (hx : XRel K po G F W kx) (he : EndsR K po G F pd D) : ∀ l : List (Addr × PTS), XRel K po G F (wMany K W D (hdTs K l)) (pHds K kx pd l)
  | [] => hx
  | (C, p) :: r => fun F' H' σ env c d fs s st x k => by
    obtain ⟨b, eb, k⟩ := k
    refine ⟨b, eb, fun hb a _ => ?_, fun hb => ?_⟩
    · rw [if_pos hb] at k
      exact ⟨po, G, F', env, pd, st, XRel.none, he.weak s, k⟩
    · rw [if_neg (by rw [hb]; decide)] at k
      exact XRel.hds hx he r F' H' σ env c d fs s st x k
theorem qs_try {body : List Stmt} {h₀ : ExceptHandler} {hds : List ExceptHandler} {pos : Pos} {pb : KX → PTS} {l : List (Addr × PTS)} (hK : X.K = K) (hs : X.stack = X.env :: X.outer) (hf : X.env.frame = some X.env.locals) (tk : Takes X W)
    (hb : ∀ (W' : WX) (kx' : KX) (pn : List (Addr × Obj)) (xe : Value → Shared → Prop), Takes (X.tr pn xe) W' → PassesOwn (model X.prog X.w) X.A X.env xe → QSs (X.tr pn xe) K W' kx' body (pb kx')) (hh : QHds X K (h₀ :: hds) l) :
    QS X K W kx (.Try body (h₀ :: hds) [] [] pos) (pTry K kx pb l) := by
  subst hK
  refine ⟨rfl, PS.imp (ps_try_many (tb := fun W' D σ H => ∃ kx', liftS X.K W' kx' (pb kx') D σ H) hs hf tk (fun W' pn xe tk' po' => ⟨fun pins s σ H D I ⟨kx', h⟩ => (hb W' kx' pn xe tk' po').ps.run pins s σ H D I h⟩) hh.ok) fun D σ H ⟨po, G, F, env, pd, st, hx, he, hp⟩ => ?_⟩
  exact ⟨pHds X.K kx pd l, po, G, F, env, pd, st, hx.hds he l, he, hp⟩
theorem i_try {pb : KX → PTS} {l : List (Addr × PTS)} {pd : PEnds} {env : PEnv} (h : pb (pHds K kx pd l) pd env) : pTry K kx pb l pd env := h
theorem i_hdT {C c : Addr} {p : PTS} {r : List (Addr × PTS)} {fs : List (Str × D)} {pd : PEnds} {env : PEnv} (e : PySem.W.exmOne K (.ref c) (.ref C) = some true) (h : p pd env) : pHds K kx pd ((C, p) :: r) c fs env := ⟨true, e, iteT h⟩
theorem i_hdF {C c : Addr} {p : PTS} {r : List (Addr × PTS)} {fs : List (Str × D)} {pd : PEnds} {env : PEnv} (e : PySem.W.exmOne K (.ref c) (.ref C) = some false) (h : pHds K kx pd r c fs env) : pHds K kx pd ((C, p) :: r) c fs env := ⟨false, e, iteF h⟩
end
/-! ### an error with one field -/
/-- its own __init__ puts the field -/
def spXI (C : Addr) (f : Str) : Sp := fun vs H Q _ => ∃ (a : Addr) (v : V), vs = [.ref a, v] ∧ H a = some (exo a C none) ∧ ∀ dx, H dx = none → dx ≠ a → Q .non (upd (upd H dx (exd dx [(f, v)])) a (exo a C (some dx)))
section
variable {X : Cx} {K : PySem.W.Frag} {W : WX} {kx : KX}
def pRaise1 (C : Addr) (f : Str) (kx : KX) (pa : PTA) : PTS := fun _ env => pa env fun rs e1 => ∃ d, dsO e1 rs = some [d] ∧ kx C [(f, d)] (fzs rs e1)
theorem qs_raise1 {x f : Str} {C fI : Addr} {k : Nat} {fd : FuncData} {ps : List Str} {e : Expr} {pa : PTA} {p pos pos2 : Pos} (hc : X.calm = true) (tk : Takes X W) (T : OexC X.K C) (iC : PySem.W.findIn X.K (.ref C) "__init__" = some (some (.ref fI))) (tI : PySem.W.typeIn X.K (.ref fI) = some (.type "function"))
    (F1 : FnOk X.prog X.w X.K X.mg X.base CX0 k fI fd ps (spXI C f)) (hr : Room (k + 1) X.A) (hb : Binds X.K fd ps []) (hg : Gl X x) (hm : X.mg x = some (.ref C)) (ha : QA X K W kx [e] pa)
    (hdb : (x == ("__debug__" : Str)) = false := by decide) (he : starEach (e :: []) X.env = (false, eval e X.env) :: starEach [] X.env := by rfl) (hpl : (backTo pos (starEach [] X.env)).any (·.1) = false := by rfl) :
    QS X K W kx (.Raise (some (.Call (.Name x p) [e] [] pos)) none pos2) (pRaise1 C f kx pa) := by
  have hK := ha.hK
  subst hK
  refine ⟨rfl, PS.imp (ps_raise hc tk (pmk_oex T iC tI F1 hr hb .nil pass0 hg hm ha.pa hdb he hpl)) fun D σ H ⟨po, G, F, env, pd, st, hx, hen, hp⟩ => ⟨po, G, F, env, _, st, hx, hp, fun F1 H1 e1 rs vs s1 st1 a1 ⟨d, ed, k⟩ => ?_⟩⟩
  obtain ⟨F2, s2, st2, r2⟩ := RvA.frz st1 a1 ed
  cases r2 with
  | @cons _ v _ _ r rr =>
    cases rr
    refine ⟨(by show 1 ≤ 1000; decide), fun a na => ⟨a, _, rfl, upd_same, fun dx ndx ne => ⟨rfl, dx, [(f, v)], upd_same, ?_, ?_, ?_⟩⟩⟩
    · rw [upd_ne ne]
      exact upd_same
    · rw [upd_ne ne] at ndx
      exact ndx
    · rw [upd_ne ne] at ndx
      have eH : ∀ v, upd (del (upd (upd (upd H1 a (exo a C none)) dx (exd dx [(f, v)])) a (exo a C (some dx))) a) dx (.xd [(f, v)]) = upd H1 dx (.xd [(f, v)]) := fun v => by
        funext b
        by_cases h1 : b = dx
        · rw [h1, upd_same, upd_same]
        · rw [upd_ne h1, upd_ne h1]
          by_cases h2 : b = a
          · rw [h2, del_same, na]
          · rw [del_ne h2, upd_ne h2, upd_ne h1, upd_ne h2]
      rw [eH]
      exact hx F2 _ σ _ C (some dx) [(f, d)] (s1.trans s2) (st2.newO ndx) (.inr ⟨dx, _, rfl, upd_same, .cons r .nil⟩) k
theorem i_raise1 {C : Addr} {f : Str} {pa : PTA} {pd : PEnds} {env : PEnv} (h : pa env fun rs e1 => ∃ d, dsO e1 rs = some [d] ∧ kx C [(f, d)] (fzs rs e1)) : pRaise1 C f kx pa pd env := h
end
/-! ### except C as n: y = n.f -/
/-- what is read of an error's class -/
structure OexG (K : PySem.W.Frag) (C : Addr) (f : Str) : Prop where
  ga : PySem.W.findIn K (.ref C) "__getattribute__" = some (some (.builtin "BaseException.__getattribute__"))
  gg : PySem.W.findIn K (.ref C) "__getattr__" = some none
  noN : PySem.W.findIn K (.ref C) f = some none
  exC : PySem.W.subIn K (.ref C) (.type "BaseException") = some true
  hdC : PySem.W.hasDictIn K C = true
  te : PySem.W.exmOne K (.ref C) (.ref C) = some true
section
variable {X : Cx} {K : PySem.W.Frag} {W : WX} {kx : KX}
def tExF (C : Addr) (f : Str) (a : Addr) (cls : Value) (d : Option Addr) (te : TE) : TE := fun σ H Q => te σ H fun x H1 => x = .ref a ∧ cls = .ref C ∧ ∃ (dd : Addr) (v : V), d = some dd ∧ H1 dd = some (.xd [(f, v)]) ∧ Q v H1
theorem pe_exF {C : Addr} {f : Str} {a : Addr} {oe : Obj} {cls : Value} {d : Option Addr} {pn : List (Addr × Obj)} {e : Expr} {te : TE} {pos : Pos} (T : OexG X.K C f) (hz : Zc cls d oe) (hf : ∃ vs, oe.data = .fields vs) (he : PE (X.suite a ((a, oe) :: pn)) e te)
    (hb : attributeBase e f X.env (eval e X.env) = eval e X.env := by rfl) : PE (X.suite a ((a, oe) :: pn)) (.Attribute e f pos) (tExF C f a cls d te) := by
  refine ⟨fun pins s σ H Q I h => ?_⟩
  refine attr_of hb (thn (he.run pins s σ H _ I h) fun u s1 hh => ?_)
  obtain ⟨x, H1, I1, rx, ex, ec, dd, v, ed, ea, q⟩ := hh
  subst ex
  obtain rfl : u = Value.ref a := rx
  subst ec
  subst ed
  obtain ⟨ha, _⟩ := I1.pin (a, oe) (List.mem_append_left _ List.mem_cons_self)
  obtain ⟨vs, hd⟩ := hf
  have hx : ObjOk X.prog X.w H1 s1.heap dd (.xd [(f, v)]) := I1.hok dd _ ea
  obtain ⟨mA, hns, hr⟩ := hx
  obtain ⟨od, ho, hl⟩ := lookIn_ns hns
  have l : List.lookup f [(f, v)] = some v := by simp [List.lookup]
  obtain ⟨u, hu, ru⟩ := RelO.some_of (v := v) (o := mA f) (by rw [← l]; exact hr f)
  have J : PySem.W.InstAt s1.heap a oe C (some od) := ⟨ha, hz.1, by unfold PySem.W.notCls; rw [hd] <;> rfl, by rw [hz.2]; exact ho⟩
  exact HandSPX.exc_get I1.kIn J T.ga T.gg T.exC (PySem.W.findObj_own T.hdC T.noN rfl (by rw [hl, hu])) (handed_of ru) ⟨v, H1, I1.tok _, ru, q⟩
def pTryAs (K : PySem.W.Frag) (kx : KX) (pb : KX → PTS) (C : Addr) (f : Str) (i j : Nat) : PTS := fun pd env => pb (fun c fs env' => ∃ b, PySem.W.exmOne K (.ref c) (.ref C) = some b ∧ if b = true then c = C ∧ (env'[i]?).isSome = true ∧ ∃ d, fs = [(f, d)] ∧ pd.nx ((env'.set i .no).set j (.val d)) else kx c fs env') pd env
theorem i_tryAs {pb : KX → PTS} {C : Addr} {f : Str} {i j : Nat} {pd : PEnds} {env : PEnv} (h : pb (fun c fs env' => ∃ b, PySem.W.exmOne K (.ref c) (.ref C) = some b ∧ if b = true then c = C ∧ (env'[i]?).isSome = true ∧ ∃ d, fs = [(f, d)] ∧ pd.nx ((env'.set i .no).set j (.val d)) else kx c fs env') pd env) : pTryAs K kx pb C f i j pd env := h
theorem St.bound {po : Option Pt} {G F H : Hp} {σ : L2.St} {env : PEnv} {i j : Nat} {d : D} {v : V} {x : Option V} (st : St K po G F H σ env) (r : Rep K po F d v) (ne : i ≠ j) : St K po G F H (((σ.set i x).set j (some v)).set i none) ((env.set i .no).set j (.val d)) := by
  refine (st.forget (i := i)).setV (i := j) r |>.slots (by simp) fun q s e ns => ?_
  by_cases c : q = i
  · subst c
    rw [List.getElem?_set_ne (Ne.symm ne), List.getElem?_set_self'] at e
    cases z : env[q]? with
    | none => rw [z] at e; cases e
    | some u => rw [z] at e; exact absurd (Option.some.inj e).symm ns
  · rw [List.set_comm _ _ ne, List.getElem?_set_ne (Ne.symm c), List.getElem?_set_ne (Ne.symm c)]
theorem qs_tryAs {i j : Nat} {x n y f : Str} {C : Addr} {body : List Stmt} {np ep ap yp sp pos pos' : Pos} {pb : KX → PTS} (hK : X.K = K) (hs : X.stack = X.env :: X.outer) (hf : X.env.frame = some X.env.locals) (hN : X.N.Nodup) (hi : X.N[i]? = some n) (hln : X.env.kindOf n = some .local) (hc : Names X x (.ref C)) (tk : Takes X W) (T : OexG K C f) (ne : i ≠ j)
    (hb : ∀ (W' : WX) (kx' : KX) (pn : List (Addr × Obj)) (xe : Value → Shared → Prop), Takes (X.tr pn xe) W' → PassesOwn (model X.prog X.w) X.A X.env xe → QSs (X.tr pn xe) K W' kx' body (pb kx'))
    (hv : ∀ (a : Addr) (oe : Obj) (pn : List (Addr × Obj)), PE (X.suite a ((a, oe) :: pn)) (.Name n ep) (tVar i))
    (hset : ∀ (a : Addr) (oe : Obj) (pn : List (Addr × Obj)) (te : TE), PE (X.suite a ((a, oe) :: pn)) (.Attribute (.Name n ep) f ap) te → PS (X.suite a ((a, oe) :: pn)) (.Assign [.Name y yp] (.Attribute (.Name n ep) f ap) sp) (tAsg te (gName j)))
    (hb0 : attributeBase (.Name n ep) f X.env (eval (.Name n ep) X.env) = eval (.Name n ep) X.env := by rfl) :
    QS X K W kx (.Try body [.ExceptHandler (some (.Name x np)) (some n) [.Assign [.Name y yp] (.Attribute (.Name n ep) f ap) sp] pos'] [] [] pos) (pTryAs K kx pb C f i j) := by
  subst hK
  refine ⟨rfl, PS.imp (ps_try_as (i := i) (ts := fun a cls d => tAsg (tExF C f a cls d (tVar i)) (gName j)) (tb := fun W' D σ H => ∃ kx', liftS X.K W' kx' (pb kx') D σ H) hs hf hN hi hln hc tk (fun W' pn xe tk' po' => ⟨fun pins s σ H D I ⟨kx', h⟩ => (hb W' kx' pn xe tk' po').ps.run pins s σ H D I h⟩)
    fun a oe cls d pn hz hfs => pss_one (hset a oe pn _ (pe_exF T hz hfs (hv a oe pn) hb0))) fun D σ H ⟨po, G, F, env, pd, st, hx, he, hp⟩ => ?_⟩
  refine ⟨_, po, G, F, env, pd, st, ?_, he, hp⟩
  intro F' H' σ' env' c d fs s st' x k
  obtain ⟨b, eb, k⟩ := k
  refine ⟨b, eb, fun hbt a na => ?_, fun hbf => ?_⟩
  · rw [if_pos hbt] at k
    obtain ⟨rfl, li, dv, rfl, k⟩ := k
    have hl : i < σ'.length := by
      rw [← st'.len]
      cases z : env'[i]? with
      | none => rw [z] at li; cases li
      | some u => exact (List.getElem?_eq_some_iff.mp z).1
    rcases x with ⟨_, z⟩ | ⟨dx, xs, rfl, hdx, r⟩
    · cases z
    · cases r with
      | @cons _ _ v _ _ r rr =>
        cases rr
        exact ⟨.ref a, by rw [List.getElem?_set_self hl], rfl, rfl, dx, v, rfl, hdx, he.nx F' H' _ _ s (st'.bound r ne) k⟩
  · rw [if_neg (by rw [hbf]; decide)] at k
    exact hx F' H' σ' env' c d fs s st' x k
end
/-! ### {} -/
section
variable {X : Cx} {K : PySem.W.Frag} {W : WX} {kx : KX}
def pDict0 : PTE := fun env k => k (.tmp (.dK [])) env
theorem q_dict0 {pos : Pos} (hK : X.K = K) : QE X K W kx (.Dict [] [] pos) pDict0 :=
  ⟨hK, PE.imp pe_dnewK fun σ H Q ⟨po, G, F, env, k, st, hx, hp, hq⟩ p np => by
    obtain ⟨st2, a2⟩ := st.newT np (RepO.dK .nil)
    exact hq F _ env _ _ (Same.refl F) st2 a2 hp⟩
theorem i_dict0 {env : PEnv} {k : RV → PEnv → Prop} (h : k (.tmp (.dK [])) env) : pDict0 env k := h
end
/-! ### checks, then by hand -/
section
variable {X : Cx} {K : PySem.W.Frag} {W : WX} {kx : KX}
theorem lift_seq {p q : PTS} {D : Ends} {σ : L2.St} {H : Hp} (h : liftS K W kx (pSeq p q) D σ H) : liftS K W kx p { D with nx := fun σ H => liftS K W kx q D σ H } σ H := by
  obtain ⟨po, G, F, env, pd, st, hx, he, hp⟩ := h
  exact ⟨po, G, F, env, { pd with nx := q pd }, st, hx, ⟨fun F' H' σ' env' s st' k => ⟨po, G, F', env', pd, st', hx.weak (Same.refl G) s, he.weak s, k⟩, he.bk, he.ct, he.rt⟩, hp⟩
theorem pss_pre {s : Stmt} {ss : List Stmt} {p : PTS} {t : TS} (h1 : QS X K W kx s p) (h2 : PSs X ss t) : PSs X (s :: ss) (fun D σ H => liftS K W kx p { D with nx := fun σ H => t D σ H } σ H) := pss_cons h1.ps h2
/-- what a new instance's fields leave -/
theorem StA.put {po : Option Pt} {G F H : Hp} {x : Addr} {o o' : HO} (a : StA po (upd G x o) F H) (ng : G x = none) (np : ∀ p, po = some p → x ∉ pl p) (hs : ∀ p, po = some p → p.s ≠ x) : StA po G F (upd H x o') := by
  have nf : F x = none := a.dj x o upd_same
  refine ⟨fun b u h => ?_, fun b u h => ?_, fun b u h => a.dj b u (by rw [upd_ne (fun z => by rw [z, ng] at h; cases h)]; exact h), fun p ep => ?_⟩
  · rw [upd_ne (fun z => by rw [z, nf] at h; cases h)]
    exact a.fh _ _ h
  · have ne : b ≠ x := fun z => by rw [z, ng] at h; cases h
    rw [upd_ne ne]
    exact a.gh _ _ (by rw [upd_ne ne]; exact h)
  · obtain ⟨g1, gs, ss, t, m, g2, g3, g4, g5⟩ := (a.pt p ep).1
    have n0 := np p ep
    have n1 : p.a ≠ x := fun z => n0 (by simp [pl, z])
    have n2 : p.g ≠ x := fun z => n0 (by simp [pl, z])
    refine ⟨⟨g1, gs, ss, t, m, by rw [upd_ne n1]; exact g2, by rw [upd_ne n2]; exact g3, by rw [upd_ne (hs p ep)]; exact g4, g5⟩, fun b hb => ⟨((a.pt p ep).2 b hb).1, ?_⟩⟩
    have := ((a.pt p ep).2 b hb).2
    by_cases c : b = x
    · rw [c]; exact ng
    · rw [upd_ne c] at this; exact this
end
/-! ### C(..) where the wish about exceptions looks at the slots -/
section
variable {X : Cx} {CX : CXT} {k : Nat} {f C : Addr} {fd : FuncData} {ps : List Str} {sp : Sp} {E : L2.St → XK} {x : Str} {p pos : Pos} {e : Expr} {es : List Expr} {t : TA}
def tMakeS (C : Addr) (sp : Sp) (E : L2.St → XK) (t : TA) : TE := fun σ H Q => t σ H fun vs H1 => ∀ x dx, H1 x = none → H1 dx = none → dx ≠ x → sp (.ref x :: vs) (upd (upd H1 dx (.own x)) x (.ins C dx [])) (fun v H2 => v = .non ∧ Q (.ref x) H2) (E σ)
theorem run_makeS {pins : List (Addr × Obj)} {σ : L2.St} {H : Hp} {s : Shared} {Q : VK} {us : List Value} {vs : List V} (M : Mk X.K C f) (F : FnOk X.prog X.w X.K X.mg X.base CX k f fd ps sp) (hr : Room (k + 1) X.A) (hb : Binds X.K fd ps []) (hx : PassesAt CX X σ (E σ)) (I : Inv X pins σ H s) (r : Vals vs us)
    (h : ∀ x dx, H x = none → H dx = none → dx ≠ x → sp (.ref x :: vs) (upd (upd H dx (.own x)) x (.ins C dx [])) (fun v H2 => v = .non ∧ Q (.ref x) H2) (E σ)) : wpAny (model X.prog X.w) X.A (call (.ref C) us) (EP X pins σ Q) X.xe s := by
  have hq := h _ _ (I.hok.fresh (Nat.le_succ _)) (I.hok.fresh (Nat.le_refl _)) (Nat.ne_of_lt (Nat.lt_succ_self _))
  have J := Inv.made (C := C) I
  have rr : Vals (V.ref (s.heap.objs.size + 1) :: vs) (Value.ref (s.heap.objs.size + 1) :: us) := .cons rfl r
  have hl : (Value.ref (s.heap.objs.size + 1) :: us).length = ps.length := by
    rw [← rr.length]
    exact F.len _ _ _ _ hq
  have hbb := hb _ (Value.ref (s.heap.objs.size + 1) :: us) J.kIn (by rw [List.append_nil]; exact hl)
  rw [List.append_nil] at hbb
  refine wpAny_call (make_map (f := f) I.kIn M.makes M.init (beq_iff_eq.mp M.fn) (codeAny_mono (F.run _ X.stack _ _ ⟨Value.ref (s.heap.objs.size + 1) :: us, []⟩ (Value.ref (s.heap.objs.size + 1) :: us) _ _ (E σ) (hr.make C us []) (J.env0.make C us []) hbb rr hq) fun r s' hq' => ?_))
  match r, hq' with
  | .error e, hq' => exact hx pins _ _ e s' J hq'
  | .ok (.ret u), hq' =>
    obtain ⟨v, H', J', rv, ev, z⟩ := J.after hq'
    subst ev
    exact ⟨rv, V.ref (s.heap.objs.size + 1), H', J', rfl, z⟩
theorem pe_makeS (M : Mk X.K C f) (F : FnOk X.prog X.w X.K X.mg X.base CX k f fd ps sp) (hr : Room (k + 1) X.A) (hg : Gl X x) (hm : X.mg x = some (.ref C)) (hb : Binds X.K fd ps []) (hx : ∀ σ, PassesAt CX X σ (E σ)) (ha : PA X (e :: es) t)
    (hdb : (x == ("__debug__" : Str)) = false := by decide) (he : starEach (e :: es) X.env = (false, eval e X.env) :: starEach es X.env := by rfl) (hpl : (backTo pos (starEach es X.env)).any (·.1) = false := by rfl) : PE X (.Call (.Name x p) (e :: es) [] pos) (tMakeS C sp E t) := by
  refine ⟨fun pins s σ H Q I h => wpAny_Call_Name_kw (ld_glob I hg hm ?_ hdb)⟩
  exact PySem.W.callWith_K (h₀ := X.base) I.ok.mod.kin M.kp (thn (ha.run pos pins s σ H _ I h) fun us s1 ⟨vs, H1, I1, r, q⟩ => ⟨I1.kIn, run_makeS M F hr hb (hx σ) I1 r q⟩) he hpl
end
section
variable {X : Cx} {K : PySem.W.Frag} {W : WX} {kx : KX} {kk : Nat} {f C : Addr} {fd : FuncData} {ps : List Str} {x : Str} {p pos : Pos} {e : Expr} {es : List Expr} {pa : PTA} {S : List D → (List (Str × D) → Prop) → (Addr → List (Str × D) → Prop) → Prop}
theorem q_makeS (M : Mk X.K C f) (Fn : FnOk X.prog X.w X.K X.mg X.base (L2.CX X.prog X.w) kk f fd ps (spI K C S)) (hr : Room (kk + 1) X.A) (hg : Gl X x) (hm : X.mg x = some (.ref C)) (hb : Binds X.K fd ps []) (tk : Takes X W)
    (ha : QA X K W kx (e :: es) pa) (hdb : (x == ("__debug__" : Str)) = false := by decide) (he : starEach (e :: es) X.env = (false, eval e X.env) :: starEach es X.env := by rfl) (hpl : (backTo pos (starEach es X.env)).any (·.1) = false := by rfl) :
    QE X K W kx (.Call (.Name x p) (e :: es) [] pos) (pMake C S kx pa) := by
  refine ⟨ha.hK, PE.imp (pe_makeS M Fn hr hg hm hb (fun σ => passAt tk σ) ha.pa hdb he hpl) fun σ H Q ⟨po, G, F, env, k, st, hx, hp, hq⟩ => ⟨po, G, F, env, _, st, hx, hp, fun F1 H1 e1 rs vs s1 st1 a1 ⟨ds, ed, hS⟩ x dx nx ndx ne => ?_⟩⟩
  obtain ⟨F2, s2, st2, r2⟩ := RvA.frz st1 a1 ed
  have st3 := (st2.newO (o := .own x) ndx)
  have nx2 : upd H1 dx (.own x) x = none := by rw [upd_ne (Ne.symm ne)]; exact nx
  obtain ⟨st4, ax⟩ := st3.newT nx2 (RepO.ins (K := K) (po := po) (F := F2) (C := C) (dx := dx) .nil)
  obtain ⟨a, o, ea, w, hn⟩ := ax
  cases ea
  have eo : o = .ins C dx [] := by
    have := w.at_
    rw [upd_same] at this
    exact (Option.some.inj this).symm
  subst eo
  refine ⟨po, gOwn G σ (fzs rs e1) _, F2, x, dx, vs, ds, _, _, rfl, st4.gOwnA, ⟨w.at_, w.nf, ?_, w.np, w.rep⟩, r2, hS, fun F' H' fs xs s' a' w' kk' => ⟨rfl, ?_⟩, fun F' H' c d fs s' a' x' kk' => ?_⟩
  · cases z : gOwn G σ (fzs rs e1) (upd (upd H1 dx (.own x)) x (.ins C dx [])) x with
    | none => rfl
    | some u =>
      rcases gOwn_or z with q | ⟨i, d, q1, q2, q3⟩
      · rw [w.ng] at q; cases q
      · exact absurd q2 (hn i d q1)
  · have st5 := st4.gBack s' a'
    have wx : OwnAt K po G F' H' x (.ins C dx xs) (.ins C fs) := w'.weak gOwn_same
    obtain ⟨h1, h2, h3⟩ := st5.frzT wx fun i d q z => hn i d q z
    exact hq _ H' _ (.val (.ins C fs)) _ ((s1.trans s2).trans (s'.trans h2)) h1 h3 kk'
  · have st5 := st4.gBack s' a'
    exact hx F' H' σ _ c d fs ((s1.trans s2).trans s') st5 x' kk'
end
end Pl

/-! dicts over values -/
namespace Pl
open PySem L2 My PyProof.Rows PySem.Spec

/-! ### what they hold -/
section
variable {κ : Type} [DecidableEq κ]
def vD (kvs : List (κ × D)) (k : κ) : Option D := (kvs.find? fun kv => decide (kv.1 = k)).map (·.2)
def pD (kvs : List (κ × D)) (k : κ) (d : D) : List (κ × D) := if kvs.any (fun kv => decide (kv.1 = k)) = true then kvs.map fun kv => if kv.1 = k then (kv.1, d) else kv else kvs ++ [(k, d)]
inductive RepP (K : PySem.W.Frag) (po : Option Pt) (F : Hp) : List (κ × D) → List (κ × V) → Prop
  | nil : RepP K po F [] []
  | cons {f : κ} {d : D} {v : V} {ds : List (κ × D)} {vs : List (κ × V)} : Rep K po F d v → RepP K po F ds vs → RepP K po F ((f, d) :: ds) ((f, v) :: vs)
inductive RepOp (K : PySem.W.Frag) (po : Option Pt) (F : Hp) : Option D → Option V → Prop
  | none : RepOp K po F none none
  | some {d : D} {v : V} : Rep K po F d v → RepOp K po F (some d) (some v)
variable {K : PySem.W.Frag} {po : Option Pt} {F : Hp}
theorem vD_pos {p : κ × D} {r : List (κ × D)} {k : κ} (e : p.1 = k) : vD (p :: r) k = some p.2 := by simp [vD, List.find?_cons, e]
theorem vD_neg {p : κ × D} {r : List (κ × D)} {k : κ} (e : ¬ p.1 = k) : vD (p :: r) k = vD r k := by simp [vD, List.find?_cons, e]
theorem vD_any (k : κ) : ∀ kvs : List (κ × D), (kvs.any fun kv => decide (kv.1 = k)) = (vD kvs k).isSome
  | [] => rfl
  | p :: r => by
    rw [List.any_cons, vD_any k r]
    by_cases c : p.1 = k
    · rw [vD_pos c, decide_eq_true c]; rfl
    · rw [vD_neg c, decide_eq_false c]; rfl
theorem pD_new {kvs : List (κ × D)} {k : κ} {d : D} (h : vD kvs k = none) : pD kvs k d = kvs ++ [(k, d)] := by
  unfold pD
  rw [vD_any, h, if_neg (by decide)]
theorem vD_app {a b : List (κ × D)} {k : κ} : vD (a ++ b) k = (vD a k).or (vD b k) := by
  unfold vD
  rw [List.find?_append]
  cases a.find? (fun kv => decide (kv.1 = k)) <;> rfl
theorem vD_mapped {kvs : List (κ × D)} {k j : κ} {d : D} : vD (kvs.map fun kv => if kv.1 = k then (kv.1, d) else kv) j = (vD kvs j).map fun x => if j = k then d else x := by
  induction kvs with
  | nil => rfl
  | cons p r ih =>
    rw [List.map_cons]
    by_cases c : p.1 = k
    · rw [if_pos c]
      by_cases c2 : p.1 = j
      · rw [vD_pos (p := (p.1, d)) c2, vD_pos c2, Option.map_some, if_pos (c2.symm.trans c)]
      · rw [vD_neg (p := (p.1, d)) c2, vD_neg c2, ih]
    · rw [if_neg c]
      by_cases c2 : p.1 = j
      · rw [vD_pos c2, vD_pos c2, Option.map_some, if_neg (fun z => c (c2.trans z))]
      · rw [vD_neg c2, vD_neg c2, ih]
theorem vD_put {kvs : List (κ × D)} {k j : κ} {d : D} : vD (pD kvs k d) j = if j = k then some d else vD kvs j := by
  unfold pD
  rw [vD_any]
  cases h : vD kvs k with
  | none =>
    rw [if_neg (by simp), vD_app]
    by_cases c : j = k
    · rw [if_pos c, c, h, vD_pos (p := (k, d)) rfl]; rfl
    · rw [if_neg c, vD_neg (p := (k, d)) (fun z => c z.symm)]
      cases vD kvs j <;> rfl
  | some x =>
    rw [if_pos (by simp), vD_mapped]
    by_cases c : j = k
    · rw [if_pos c, c, h]; simp
    · rw [if_neg c]
      cases vD kvs j with
      | none => rfl
      | some y => simp [c]
theorem pD_len {kvs : List (κ × D)} {k : κ} {d : D} : (pD kvs k d).length ≤ kvs.length + 1 := by
  unfold pD
  split
  · rw [List.length_map]; omega
  · rw [List.length_append]; exact Nat.le_refl _
theorem RepP.val {kvs : List (κ × D)} {xs : List (κ × V)} (r : RepP K po F kvs xs) (k : κ) : RepOp K po F (vD kvs k) (valV xs k) := by
  induction r with
  | nil => exact .none
  | @cons f d v ds vs h r ih =>
    by_cases c : f = k
    · rw [vD_pos (p := (f, d)) c, valV_pos (p := (f, v)) c]; exact .some h
    · rw [vD_neg (p := (f, d)) c, valV_neg (p := (f, v)) c]; exact ih
theorem RepP.any {kvs : List (κ × D)} {xs : List (κ × V)} (r : RepP K po F kvs xs) (k : κ) : (kvs.any fun kv => decide (kv.1 = k)) = xs.any fun kv => decide (kv.1 = k) := by
  induction r with
  | nil => rfl
  | cons _ _ ih => rw [List.any_cons, List.any_cons, ih]
theorem RepP.len {kvs : List (κ × D)} {xs : List (κ × V)} (r : RepP K po F kvs xs) : kvs.length = xs.length := by
  induction r with
  | nil => rfl
  | cons _ _ ih => rw [List.length_cons, List.length_cons, ih]
theorem RepP.mono {F' : Hp} (s : Same F F') {kvs : List (κ × D)} {xs : List (κ × V)} (r : RepP K po F kvs xs) : RepP K po F' kvs xs := by
  induction r with
  | nil => exact .nil
  | cons h _ ih => exact .cons (h.mono s) ih
theorem RepP.repl {kvs : List (κ × D)} {xs : List (κ × V)} (r : RepP K po F kvs xs) (k : κ) {d : D} {v : V} (h : Rep K po F d v) :
    RepP K po F (kvs.map fun kv => if kv.1 = k then (kv.1, d) else kv) (xs.map fun kv => if kv.1 = k then (kv.1, v) else kv) := by
  induction r with
  | nil => exact .nil
  | @cons f d0 v0 ds vs h0 r ih =>
    rw [List.map_cons, List.map_cons]
    by_cases c : f = k
    · rw [if_pos c, if_pos c]; exact .cons h ih
    · rw [if_neg c, if_neg c]; exact .cons h0 ih
theorem RepP.snoc {kvs : List (κ × D)} {xs : List (κ × V)} (r : RepP K po F kvs xs) (k : κ) {d : D} {v : V} (h : Rep K po F d v) : RepP K po F (kvs ++ [(k, d)]) (xs ++ [(k, v)]) := by
  induction r with
  | nil => exact .cons h .nil
  | cons h0 _ ih => exact .cons h0 ih
theorem RepP.put {kvs : List (κ × D)} {xs : List (κ × V)} (r : RepP K po F kvs xs) (k : κ) {d : D} {v : V} (h : Rep K po F d v) : RepP K po F (pD kvs k d) (putK xs k v) := by
  unfold pD putK
  rw [r.any k]
  split
  · exact r.repl k h
  · exact r.snoc k h
end
section
variable {K : PySem.W.Frag} {po : Option Pt} {F H : Hp}
theorem RepK.p : ∀ {kvs : List (Key × D)} {xs : List (Key × V)}, RepK K po F kvs xs → RepP K po F kvs xs
  | _, _, .nil => .nil
  | _, _, .cons h r => .cons h (RepK.p r)
theorem RepP.k : ∀ {kvs : List (Key × D)} {xs : List (Key × V)}, RepP K po F kvs xs → RepK K po F kvs xs
  | _, _, .nil => .nil
  | _, _, .cons h r => .cons h (RepP.k r)
theorem RepT.p : ∀ {kvs : List (List Key × D)} {xs : List (List Key × V)}, RepT K po F kvs xs → RepP K po F kvs xs
  | _, _, .nil => .nil
  | _, _, .cons h r => .cons h (RepT.p r)
theorem RepP.t : ∀ {kvs : List (List Key × D)} {xs : List (List Key × V)}, RepP K po F kvs xs → RepT K po F kvs xs
  | _, _, .nil => .nil
  | _, _, .cons h r => .cons h (RepP.t r)
theorem Rdb.dKp {kvs : List (Key × D)} {v : V} (s : Same F H) (h : Rdb K po F H (.dK kvs) v) : ∃ a xs, v = .ref a ∧ H a = some (.dK xs) ∧ RepP K po F kvs xs := by
  rcases h with h | ⟨a, o, rfl, e, h⟩
  · cases h with
    | dK h1 h2 => exact ⟨_, _, rfl, s _ _ h1, h2.p⟩
  · cases h with
    | dK r => exact ⟨_, _, rfl, e, r.p⟩
theorem Rdb.dTp {kvs : List (List Key × D)} {v : V} (s : Same F H) (h : Rdb K po F H (.dT kvs) v) : ∃ a xs, v = .ref a ∧ H a = some (.dT xs) ∧ RepP K po F kvs xs := by
  rcases h with h | ⟨a, o, rfl, e, h⟩
  · cases h with
    | dT h1 h2 => exact ⟨_, _, rfl, s _ _ h1, h2.p⟩
  · cases h with
    | dT r => exact ⟨_, _, rfl, e, r.p⟩
theorem Rdb.dZ {kvs : List (Key × D)} {ys : List (Key × V)} {o : Obj} {v : V} (s : Same F H) (h : Rdb K po F H (.dZ kvs ys o) v) : ∃ a, v = .ref a ∧ H a = some (.frz o (.dK ys)) ∧ RepP K po F kvs ys := by
  rcases h with h | ⟨a, o, rfl, e, h⟩
  · cases h with
    | dZ h1 h2 => exact ⟨_, rfl, s _ _ h1, h2.p⟩
  · cases h with
    | dZ r => exact ⟨_, rfl, e, r.p⟩
/-- a key -/
def keyD : D → Option Key
  | .int i => some (.inl i)
  | .str x => some (.inr x)
  | _ => none
def keysD : List D → Option (List Key)
  | [] => some []
  | d :: ds => match keyD d, keysD ds with
    | some k, some ks => some (k :: ks)
    | _, _ => none
theorem Rep.key {d : D} {v : V} {y : Key} (h : Rep K po F d v) (e : keyD d = some y) : v = kV y := by
  cases h <;> first | (cases e; rfl) | cases e
theorem Rdb.key {d : D} {v : V} {y : Key} (h : Rdb K po F H d v) (e : keyD d = some y) : v = kV y := by
  rcases h with h | ⟨a, o, _, _, h⟩
  · exact h.key e
  · cases h <;> cases e
theorem Reps.keys : ∀ {ds : List D} {vs : List V} {ys : List Key}, Reps K po F ds vs → keysD ds = some ys → vs = ys.map kV
  | _, _, _, .nil, e => by cases e; rfl
  | d :: ds, _, ys, .cons h r, e => by
    unfold keysD at e
    cases e1 : keyD d with
    | none => rw [e1] at e; cases e
    | some k =>
      rw [e1] at e
      cases e2 : keysD ds with
      | none => rw [e2] at e; cases e
      | some ks =>
        rw [e2] at e
        cases e
        rw [h.key e1, Reps.keys r e2]
        rfl
/-- what a dict holds at a key -/
def dgetD : D → D → (Option D → Prop) → Prop
  | .dK kvs, j, k => ∃ y, keyD j = some y ∧ k (vD kvs y)
  | .dZ kvs _ _, j, k => ∃ y, keyD j = some y ∧ k (vD kvs y)
  | .dT kvs, .tup ds, k => ∃ ys, keysD ds = some ys ∧ k (vD kvs ys)
  | _, _, _ => False
theorem dget_sim {d j : D} {v y : V} {k : Option D → Prop} (s : Same F H) (hd : Rdb K po F H d v) (hj : Rdb K po F H j y) (h : dgetD d j k) : ∃ a o od, v = .ref a ∧ DGet H a y o ∧ RepOp K po F od o ∧ k od := by
  unfold dgetD at h
  split at h
  · obtain ⟨key, ek, h⟩ := h
    obtain ⟨a, xs, rfl, e, r⟩ := hd.dKp s
    cases hj.key ek
    exact ⟨a, _, _, rfl, DGet.k e, r.val key, h⟩
  · obtain ⟨key, ek, h⟩ := h
    obtain ⟨a, rfl, e, r⟩ := hd.dZ s
    cases hj.key ek
    exact ⟨a, _, _, rfl, .inl ⟨_, key, .inr ⟨_, e⟩, rfl, rfl⟩, r.val key, h⟩
  · obtain ⟨ys, ek, h⟩ := h
    obtain ⟨a, xs, rfl, e, r⟩ := hd.dTp s
    obtain ⟨b, us, rfl, f1, _, rs⟩ := hj.tup s
    cases rs.keys ek
    exact ⟨a, _, _, rfl, DGet.t e (s _ _ f1), r.val ys, h⟩
  · exact h.elim
/-- .. and behind d[j] = y -/
def dputD : D → D → D → (D → Prop) → Prop
  | .dK kvs, j, x, k => ∃ y, keyD j = some y ∧ kvs.length < sizeLine ∧ k (.dK (pD kvs y x))
  | .dT kvs, .tup ds, x, k => ∃ ys, keysD ds = some ys ∧ kvs.length < sizeLine ∧ k (.dT (pD kvs ys x))
  | _, _, _, _ => False
end
section
variable {X : Cx} {K : PySem.W.Frag} {W : WX} {kx : KX}
theorem hu1D {k : Nat} {A : Around} (hr : Room k A) : A.units + 1 < cLine := by have := hr.un; omega
/-! ### in -/
def opDIn (neg : Bool) : D → D → (RV → Prop) → Prop := fun j d k => dgetD d j fun o => k (.val (.bl (if neg then !o.isSome else o.isSome)))
def rDInR (neg : Bool) : R2 := fun y x H Q => ∃ a o, x = .ref a ∧ DGet H a y o ∧ Q (.bl (if neg then !o.isSome else o.isSome)) H
theorem o_din (hu : X.A.units + 1 < cLine) : OpR X (compareOp .In) (rDInR false) := by
  intro pins s σ H x y v u Q I rx ry h
  obtain ⟨a, o, e, g, q⟩ := h
  subst e
  obtain rfl : u = Value.ref a := ry
  exact d_in hu I g rx fun s3 I3 => ⟨.bl o.isSome, H, I3, rfl, q⟩
theorem o_dnotin (hu : X.A.units + 1 < cLine) : OpR X (compareOp .NotIn) (rDInR true) := by
  intro pins s σ H x y v u Q I rx ry h
  obtain ⟨a, o, e, g, q⟩ := h
  subst e
  obtain rfl : u = Value.ref a := ry
  exact d_notIn hu I g rx fun s3 I3 => ⟨.bl (!o.isSome), H, I3, rfl, q⟩
theorem RepOp.some_eq {po : Option Pt} {F : Hp} {od : Option D} {o : Option V} (h : RepOp K po F od o) : o.isSome = od.isSome := by cases h <;> rfl
theorem sim_din (neg : Bool) : Sim2 K (rDInR neg) (opDIn neg) := by
  intro po G F H σ env d e v u Q k st hd he hf hq
  obtain ⟨a, o, od, rfl, g, r, hk⟩ := dget_sim st.a.fh he hd hf
  refine ⟨a, o, rfl, g, ?_⟩
  rw [r.some_eq]
  exact hq F H (.val (.bl _)) _ (Same.refl F) st (Rep.bl _) hk
theorem c_din (hu : X.A.units + 1 < cLine) : CmpQ X K .In (opDIn false) := ⟨_, o_din hu, sim_din false⟩
theorem c_dnotin (hu : X.A.units + 1 < cLine) : CmpQ X K .NotIn (opDIn true) := ⟨_, o_dnotin hu, sim_din true⟩
/-! ### d[k] -/
def opDIx : D → D → (RV → Prop) → Prop := fun d j k => dgetD d j fun o => ∃ x, o = some x ∧ k (.val x)
def rDIx : R2 := fun x y H Q => ∃ a v, x = .ref a ∧ DGet H a y (some v) ∧ Q v H
theorem sim_dix : Sim2 K rDIx opDIx := by
  intro po G F H σ env d e v u Q k st hd he hf hq
  obtain ⟨a, o, od, rfl, g, r, x, rfl, hk⟩ := dget_sim st.a.fh hd he hf
  cases r with
  | some r => exact ⟨a, _, rfl, g, hq F H (.val x) _ (Same.refl F) st r hk⟩
theorem q_dix {a b : Expr} {pa pb : PTE} {pos : Pos} (hu : X.A.units + 1 < cLine) (ha : QE X K W kx a pa) (hb : QE X K W kx b pb) (hs : NoSl b) : QE X K W kx (.Subscript a b pos) (pBin opDIx pa pb) :=
  ⟨ha.hK, PE.imp (pe_dget hu ha.pe hb.pe hs) (lift2 sim_dix)⟩
/-! ### d[k] = v -/
def rDSet : TSet := fun o i v H Q => ∃ a H', o = .ref a ∧ DPut H a i v H' ∧ Q H'
theorem set_dict (hu : X.A.units + 1 < cLine) : PSet X rDSet := by
  intro pins s σ H o i v ov iv u Q I ro ri rv h
  obtain ⟨a, H', e, g, q⟩ := h
  subst e
  obtain rfl : ov = Value.ref a := ro
  exact d_setItem hu I g ri rv fun s' I' => ⟨H', I', q⟩
def pSetD (i : Nat) (pe pi : PTE) : PTS := fun pd env => (∃ d0, env[i]? = some (.own d0)) ∧ pe env fun r e1 => ∃ y, r.d e1 = some y ∧ pi (r.fz e1) fun s e2 => wD s e2 fun j => ∃ d, e2[i]? = some (.own d) ∧ dputD d j y fun d' => pd.nx (e2.set i (.own d'))
theorem qs_setD {i : Nat} {o ix e : Expr} {pe pi : PTE} {spos pos : Pos} (hu : X.A.units + 1 < cLine) (hv : PE X o (tVar i)) (he : QE X K W kx e pe) (hi : QE X K W kx ix pi)
    (hsub : ∀ v, assign (.Subscript o ix spos) X.env v = (do
      let ov ← holding [v] (eval o X.env)
      let iv ← holding [v, ov] (eval ix X.env)
      standAt spos
      holding [v, ov, iv] (setItem ov iv v)
      release [v, ov, iv] []) := by intro _; rfl)
    (hs : swapsWithSole [.Subscript o ix spos] e pos.line X.env = pure false := by rfl) (hw : swappedStores [.Subscript o ix spos] e X.env = pure none := by rfl)
    (h1 : (assignEach [.Subscript o ix spos] X.env).map (·.2) = [assign (.Subscript o ix spos) X.env] := by rfl) : QS X K W kx (.Assign [.Subscript o ix spos] e pos) (pSetD i pe pi) := by
  refine ⟨he.hK, PS.imp (ps_asg he.pe (pg_sub hv hi.pe (set_dict hu) hsub) hs hw h1) fun D σ H ⟨po, G, F, env, pd, st, hx, hen, ⟨d0, e0⟩, hp⟩ => ⟨po, G, F, env, _, st, hx, hp, fun F1 H1 e1 r v s1 st1 a1 ⟨y, ey, k1⟩ => ?_⟩⟩
  obtain ⟨F2, s2, st2, r2⟩ := RV.frz st1 a1 ey
  obtain ⟨a, o0, ea, _⟩ := st.ow i _ e0
  refine ⟨.ref a, ea, po, G, F2, _, _, st2, hx.weak (Same.refl G) (s1.trans s2), k1, fun F3 H3 e3 s u s3 st3 a3 ⟨j, ej, d, e4, kk⟩ => ?_⟩
  obtain ⟨b, o', eb, w⟩ := st3.ow i _ e4
  rw [ea] at eb
  cases eb
  have w1 := w.rep
  have w2 := w.at_
  have rj := RV.rd st3 a3 ej
  unfold dputD at kk
  split at kk
  · obtain ⟨key, ek, hl, kk⟩ := kk
    cases rj.key ek
    cases w1 with
    | dK rl =>
      refine ⟨a, _, rfl, DPut.k w2 (by rw [← rl.p.len]; exact hl), ?_⟩
      exact hen.nx F3 _ σ _ (s1.trans (s2.trans s3)) (st3.mut e4 ea (.dK (rl.p.put key (r2.mono s3)).k)) kk
  · obtain ⟨ys, ek, hl, kk⟩ := kk
    obtain ⟨c, us, rfl, f1, _, rs⟩ := rj.tup st3.a.fh
    cases rs.keys ek
    cases w1 with
    | dT rl =>
      refine ⟨a, _, rfl, DPut.t w2 (st3.a.fh _ _ f1) (by rw [← rl.p.len]; exact hl), ?_⟩
      exact hen.nx F3 _ σ _ (s1.trans (s2.trans s3)) (st3.mut e4 ea (.dT (rl.p.put ys (r2.mono s3)).t)) kk
  · exact kk.elim
/-! ### {k: v} -/
def pDisp1 (pk pv : PTE) : PTE := fun env k => pk env fun r e1 => wD r e1 fun d => ∃ key, keyD d = some key ∧ pv e1 fun s e2 => ∃ y, s.d e2 = some y ∧ k (.tmp (.dK [(key, y)])) (s.fz e2)
theorem q_disp1 {ke ve : Expr} {pk pv : PTE} {pos : Pos} (hk : QE X K W kx ke pk) (hv : QE X K W kx ve pv) : QE X K W kx (.Dict [some ke] [ve] pos) (pDisp1 pk pv) := by
  refine ⟨hk.hK, PE.imp (pe_disp (pps_cons hk.pe hv.pe pps_nil) rfl rfl (fun z => by cases z) (Nat.le_of_ble_eq_true rfl)) fun σ H Q ⟨po, G, F, env, k, st, hx, hp, hq⟩ p np => ?_⟩
  obtain ⟨st2, a2⟩ := st.newT np (RepO.dK (K := K) (po := po) (F := F) .nil)
  obtain ⟨a, o, ea, w, ns⟩ := a2
  cases ea
  have eo : o = .dK [] := by
    have := w.at_
    rw [upd_same] at this
    exact (Option.some.inj this).symm
  subst eo
  have st3 := st2.tmp w ns
  have nG := w.ng
  refine ⟨po, upd G p (.dK []), F, env, _, st3, hx.weak (Same.new nG) (Same.refl F), hp, fun F1 H1 e1 r v s1 st4 at4 ⟨d, ed, key, ek, k1⟩ => ?_⟩
  have ev : v = kV key := (RV.rd st4 at4 ed).key ek
  refine ⟨po, upd G p (.dK []), F1, e1, _, st4, hx.weak (Same.new nG) s1, k1, fun F2 H2 e2 s u s2 st5 at5 ⟨y, ey, kk⟩ => ?_⟩
  obtain ⟨F3, s3, st6, r6⟩ := RV.frz st5 at5 ey
  refine ⟨st6.a.gh _ _ upd_same, [(key, u)], by rw [ev]; rfl, Nat.le_of_ble_eq_true rfl, ?_⟩
  have st7 := st6.chgG nG (.dK [(key, u)])
  have g7 := st7.guard p
  exact hq F3 _ _ (.tmp (.dK [(key, y)])) _ ((s1.trans s2).trans s3) (st7.weak (Same.new nG)) ⟨p, _, rfl, ⟨upd_same, st7.a.dj _ _ upd_same, nG, w.np, .dK (.cons r6 .nil)⟩, g7⟩ kk
/-! ### d.get(k, x) -/
def isDc : D → Bool
  | .dK _ => true
  | .dZ _ _ _ => true
  | .dT _ => true
  | _ => false
theorem Rdb.isD {po : Option Pt} {F H : Hp} {d : D} {v : V} (s : Same F H) (h : Rdb K po F H d v) (e : isDc d = true) : ∃ a, v = .ref a ∧ IsD H a := by
  unfold isDc at e
  split at e
  · obtain ⟨a, xs, rfl, h1, _⟩ := h.dKp s
    exact ⟨a, rfl, .inl ⟨_, .inl h1⟩⟩
  · obtain ⟨a, rfl, h1, _⟩ := h.dZ s
    exact ⟨a, rfl, .inl ⟨_, .inr ⟨_, h1⟩⟩⟩
  · obtain ⟨a, xs, rfl, h1, _⟩ := h.dTp s
    exact ⟨a, rfl, .inr ⟨_, .inl h1⟩⟩
  · cases e
def pDget2 (po' pe px : PTE) : PTE := fun env k => po' env fun r e1 => wD r e1 fun d => isDc d = true ∧ pe e1 fun s e2 => px e2 fun u e3 => wD r e3 fun d3 => wD s e3 fun j => ∃ y, u.d e3 = some y ∧ dgetD d3 j fun o => k (.val (o.getD y)) (u.fz e3)
theorem q_dget2 {o e f : Expr} {apos cpos : Pos} {pO pE pX : PTE} (hu : X.A.units + 1 < cLine) (ho : QE X K W kx o pO) (he : QE X K W kx e pE) (hf : QE X K W kx f pX) (m : M2 X o "get" apos e f cpos) : QE X K W kx (.Call (.Attribute o "get" apos) [e, f] [] cpos) (pDget2 pO pE pX) := by
  refine ⟨ho.hK, PE.imp (pe_dget2 hu ho.pe he.pe hf.pe m) fun σ H Q ⟨po, G, F, env, k, st, hx, hp, hq⟩ => ⟨po, G, F, env, _, st, hx, hp, fun F1 H1 e1 r v s1 st1 at1 ⟨d, ed, hd, k1⟩ => ?_⟩⟩
  obtain ⟨a, rfl, isd⟩ := (RV.rd st1 at1 ed).isD st1.a.fh hd
  obtain ⟨G2, sG, st2, back⟩ := RV.hold st1 at1
  refine ⟨a, rfl, isd, po, G2, F1, e1, _, st2, hx.weak sG s1, k1, fun F2 H2 e2 s y s2 st3 at2 k2 => ?_⟩
  obtain ⟨G3, sG3, st4, back3⟩ := RV.hold st3 at2
  refine ⟨po, G3, F2, e2, _, st4, hx.weak (sG.trans sG3) (s1.trans s2), k2, fun F3 H3 e3 u z s3 st5 at5 ⟨d3, ed3, j, ej, y', ey, hg⟩ => ?_⟩
  obtain ⟨st6, at6⟩ := back3 F3 H3 e3 s3 st5
  obtain ⟨st7, at7⟩ := back F3 H3 e3 (s2.trans s3) st6
  obtain ⟨a', o, od, ea, g, r8, hk⟩ := dget_sim st7.a.fh (RV.rd st7 at7 ed3) (RV.rd st7 (at6.weak sG) ej) hg
  cases ea
  obtain ⟨F4, s4, st8, r9⟩ := RV.frz st7 (at5.weak (sG.trans sG3)) ey
  refine ⟨o, g, hq F4 H3 _ (.val _) _ (((s1.trans s2).trans s3).trans s4) st8 ?_ hk⟩
  cases r8 with
  | none => exact r9
  | some r8 => exact r8.mono s4
/-! ### steps -/
theorem i_disp1 {pk pv : PTE} {env : PEnv} {k : RV → PEnv → Prop} (h : pk env fun r e1 => wD r e1 fun d => ∃ key, keyD d = some key ∧ pv e1 fun s e2 => ∃ y, s.d e2 = some y ∧ k (.tmp (.dK [(key, y)])) (s.fz e2)) : pDisp1 pk pv env k := h
theorem i_dget2 {po' pe px : PTE} {env : PEnv} {k : RV → PEnv → Prop} (h : po' env fun r e1 => wD r e1 fun d => isDc d = true ∧ pe e1 fun s e2 => px e2 fun u e3 => wD r e3 fun d3 => wD s e3 fun j => ∃ y, u.d e3 = some y ∧ dgetD d3 j fun o => k (.val (o.getD y)) (u.fz e3)) : pDget2 po' pe px env k := h
theorem i_setD {i : Nat} {pe pi : PTE} {pd : PEnds} {env : PEnv} {d0 : D} (e : env[i]? = some (.own d0)) (h : pe env fun r e1 => ∃ y, r.d e1 = some y ∧ pi (r.fz e1) fun s e2 => wD s e2 fun j => ∃ d, e2[i]? = some (.own d) ∧ dputD d j y fun d' => pd.nx (e2.set i (.own d'))) : pSetD i pe pi pd env := ⟨⟨d0, e⟩, h⟩
theorem i_keyI {i : Int} {φ : Key → Prop} (h : φ (.inl i)) : ∃ key, keyD (.int i) = some key ∧ φ key := ⟨_, rfl, h⟩
theorem i_keyS {i : Str} {φ : Key → Prop} (h : φ (.inr i)) : ∃ key, keyD (.str i) = some key ∧ φ key := ⟨_, rfl, h⟩
theorem i_isDK {kvs : List (Key × D)} {φ : Prop} (h : φ) : isDc (.dK kvs) = true ∧ φ := ⟨rfl, h⟩
theorem i_isDT {kvs : List (List Key × D)} {φ : Prop} (h : φ) : isDc (.dT kvs) = true ∧ φ := ⟨rfl, h⟩
theorem o_din' {neg : Bool} {j d : D} {k : RV → Prop} (h : dgetD d j fun o => k (.val (.bl (if neg then !o.isSome else o.isSome)))) : opDIn neg j d k := h
theorem o_dix' {j d : D} {k : RV → Prop} (h : dgetD d j fun o => ∃ x, o = some x ∧ k (.val x)) : opDIx d j k := h
theorem i_dgZ {i : Int} {kvs : List (Key × D)} {ys : List (Key × V)} {o : Obj} {k : Option D → Prop} (h : k (vD kvs (.inl i))) : dgetD (.dZ kvs ys o) (.int i) k := ⟨_, rfl, h⟩
theorem i_dgI {i : Int} {kvs : List (Key × D)} {k : Option D → Prop} (h : k (vD kvs (.inl i))) : dgetD (.dK kvs) (.int i) k := ⟨_, rfl, h⟩
theorem i_dgS {i : Str} {kvs : List (Key × D)} {k : Option D → Prop} (h : k (vD kvs (.inr i))) : dgetD (.dK kvs) (.str i) k := ⟨_, rfl, h⟩
theorem i_dgT {ds : List D} {ys : List Key} {kvs : List (List Key × D)} {k : Option D → Prop} (e : keysD ds = some ys) (h : k (vD kvs ys)) : dgetD (.dT kvs) (.tup ds) k := ⟨_, e, h⟩
theorem i_dpI {i : Int} {kvs : List (Key × D)} {x : D} {k : D → Prop} (l : kvs.length < sizeLine) (h : k (.dK (pD kvs (.inl i) x))) : dputD (.dK kvs) (.int i) x k := ⟨_, rfl, l, h⟩
theorem i_dpT {ds : List D} {ys : List Key} {kvs : List (List Key × D)} {x : D} {k : D → Prop} (e : keysD ds = some ys) (l : kvs.length < sizeLine) (h : k (.dT (pD kvs ys x))) : dputD (.dT kvs) (.tup ds) x k := ⟨_, e, l, h⟩
theorem f_lenI {ns : List Int} {k : RV → Prop} (h : k (.val (.int ns.length))) : fLen [lstI ns] k := f_lenL (by rw [List.length_map]; exact h)
theorem m_appI {ns : List Int} {x : Int} {k : D → D → Prop} (l : ns.length < sizeLine) (h : k (lstI (ns ++ [x])) .non) : fAppend (lstI ns) [.int x] k := m_app (by rw [List.length_map]; exact l) (by
  have e : lstI (ns ++ [x]) = .lst (ns.map D.int ++ [.int x]) := by show D.lst ((ns ++ [x]).map D.int) = _; rw [List.map_append]; rfl
  rw [e] at h
  exact h)
theorem o_ixS0 {a b : Int} {k : RV → Prop} (h : k (.val (.int a))) : opIx (tupI [a, b]) (.int 0) k := ⟨_, rfl, h⟩
theorem o_ixS1 {a b : Int} {k : RV → Prop} (h : k (.val (.int b))) : opIx (tupI [a, b]) (.int 1) k := ⟨_, rfl, h⟩
theorem f_lenTI' {ns : List Int} {k : RV → Prop} (h : k (.val (.int ns.length))) : fLen [tupI ns] k := f_lenT (by rw [List.length_map]; exact h)
/-- a while by a measure -/
theorem while_m {t : PTT} {b : PTS} {pd : PEnds} {env : PEnv} (I : Nat → PEnv → Prop) {m : Nat} (h0 : I m env)
    (hs : ∀ (m : Nat) (e : PEnv), I m e → ∀ nx : PEnv → Prop, (∀ m' e', m' < m → I m' e' → nx e') → t e fun c e1 => if c = true then b { pd with nx := nx, ct := nx, bk := pd.nx } e1 else pd.nx e1) : pWhile t b pd env := by
  have main : ∀ (n m : Nat) (e : PEnv), m < n → I m e → pWl t b pd n e := by
    intro n
    induction n with
    | zero => intro m e h; exact absurd h (Nat.not_lt_zero _)
    | succ n ih =>
      intro m e h hi
      exact hs m e hi (pWl t b pd n) fun m' e' hm hi' => ih m' e' (by omega) hi'
  exact ⟨m + 1, main (m + 1) m env (Nat.lt_succ_self m) h0⟩
theorem i_while {t : PTT} {b : PTS} {pd : PEnds} {env : PEnv} (h : pWhile t b pd env) : pWhile t b pd env := h
/-- // by a small divisor of any sign -/
abbrev opDivN := opIC CDivN fun i j => i.fdiv j
theorem q_divN {a b : Expr} {pa pb : PTE} {pos : Pos} (ha : QE X K W kx a pa) (hb : QE X K W kx b pb) : QE X K W kx (.BinOp a .FloorDiv b pos) (pBin opDivN pa pb) := q_op op_fdivN sim_IC ha hb
end
end Pl

/-! dict comprehensions over values -/
namespace Pl
open PySem L2 My PyProof.Rows PySem.Spec
def pDcL (g : PTG) (t : PTT) (pk pv : PTE) (vs : List Nat) (I : PEnv → Prop) (kd : List (Key × D) → PEnv → Prop) : List D → List (Key × D) → PEnv → Prop
  | [], acc, env => I env ∧ kd acc env
  | d :: ds, acc, env => I env ∧ g (.val d) env fun e1 => t e1 fun b e2 => if b = true then pk e2 fun r e3 => ∃ dk y, r.d e3 = some dk ∧ keyD dk = some y ∧ pv e3 fun s e4 => ∃ z, s.d e4 = some z ∧ acc.length < sizeLine ∧ pDcL g t pk pv vs I kd ds (pD acc y z) (wipeP (s.fz e4) vs) else pDcL g t pk pv vs I kd ds acc (wipeP e2 vs)
/-- a walk, as long as I holds -/
structure WkI (K : PySem.W.Frag) (po : Option Pt) (F : Hp) (σ : L2.St) (J : It) (ds : List D) (I : PEnv → Prop) : Prop where
  go : ∀ (G F' H' : Hp) (env : PEnv) (i : Nat), Same F F' → St K po G F' H' σ env → I env → i < ds.length → J.go i H'
  yl : ∀ (G F' H' : Hp) (env : PEnv) (i : Nat) (d : D) (x : V) (H'' : Hp), Same F F' → St K po G F' H' σ env → I env → ds[i]? = some d → J.yld i H' x H'' → ∃ F'', Same F' F'' ∧ St K po G F'' H'' σ env ∧ Rep K po F'' d x
  st : ∀ (G F' H' : Hp) (env : PEnv), Same F F' → St K po G F' H' σ env → I env → J.stop ds.length H'
theorem RepP.keys {κ : Type} {K : PySem.W.Frag} {po : Option Pt} {F : Hp} {kvs : List (κ × D)} {xs : List (κ × V)} (r : RepP K po F kvs xs) : kvs.map (·.1) = xs.map (·.1) := by
  induction r with
  | nil => rfl
  | cons _ _ ih => rw [List.map_cons, List.map_cons, ih]
section
variable {X : Cx} {K : PySem.W.Frag} {W : WX} {kx : KX}
theorem dc_walk {po : Option Pt} {G F1 H1 : Hp} {σ : L2.St} {e1 : PEnv} {J : It} {ds : List D} {I : PEnv → Prop} {is vs : List Nat} {g : PTG} {t : PTT} {pk pv : PTE} {kd : List (Key × D) → PEnv → Prop} {Qd : Addr → Hp → Prop} (hv : ∀ i ∈ is, i ∈ vs) (st1 : St K po G F1 H1 σ e1) (wk : WkI K po F1 σ J ds I) (k1 : pDcL g t pk pv vs I kd ds [] (wipeP e1 vs))
    (hq : ∀ (L : Addr) (F2 H2 : Hp) (e2 : PEnv) (acc : List (Key × D)) (xs : List (Key × V)), Same F1 F2 → St K po G F2 H2 σ e2 → OwnAt K po G F2 H2 L (.dK xs) (.dK acc) → (∀ (i : Nat) (e : D), e2[i]? = some (.own e) → σ[i]? ≠ some (some (.ref L))) → I e2 → kd acc e2 → Qd L H2) :
    ∀ D, H1 D = none → ∃ Wd : Nat → Nat → Hp → Prop, (∃ m, Wd 0 m (upd H1 D (.dK []))) ∧ ∀ i m H, Wd i m H →
      (J.stop i H ∧ Qd D H) ∨ (J.go i H ∧ ∃ Nx : Hp → Prop, (∀ H', Nx H' → ∃ m', m' < m ∧ Wd (i + 1) m' H') ∧ ∀ x H', J.yld i H x H' → liftG K is g x (wipe σ vs) H' fun σ2 H2 => wipe σ2 vs = wipe σ vs ∧ liftT K W0 kx0 t σ2 H2 fun b H3 =>
        if b = true then lift K W0 kx0 pk σ2 H3 fun y H4 => lift K W0 kx0 pv σ2 H4 fun z H5 => ∃ kvs k, y = kV k ∧ H5 D = some (.dK kvs) ∧ kvs.length < sizeLine ∧ Nx (upd H5 D (.dK (putK kvs k z))) else Nx H3) := by
  intro L hL
  have nfG : G L = none := st1.a.gh.free hL
  have npL := st1.a.npot hL
  refine ⟨fun i m H => ∃ F2 e2 acc xs, Same F1 F2 ∧ St K po G F2 H σ e2 ∧ OwnAt K po G F2 H L (.dK xs) (.dK acc) ∧ RepP K po F2 acc xs ∧ (∀ (i : Nat) (e : D), e2[i]? = some (.own e) → σ[i]? ≠ some (some (.ref L))) ∧ m = ds.length - i ∧ i ≤ ds.length ∧ (∀ (i : Nat) (s : Sl), e2[i]? = some s → s ≠ .no → i ∉ vs) ∧ pDcL g t pk pv vs I kd (ds.drop i) acc e2, ⟨_, F1, wipeP e1 vs, [], [], Same.refl F1, ?_, ⟨upd_same, st1.a.fh.free hL, nfG, npL, .dK .nil⟩, .nil, ?_, rfl, Nat.zero_le _, fun i s q n => (wipeP_get q n).1, by simpa using k1⟩, ?_⟩
  · exact (st1.newO hL).wiped rfl fun _ _ => rfl
  · intro i e q z
    obtain ⟨_, q⟩ := wipeP_get q (by intro z; cases z)
    obtain ⟨a, o, h1, h2⟩ := st1.ow i e q
    rw [h1] at z
    cases z
    rw [h2.at_] at hL
    cases hL
  · rintro i m H2 ⟨F2, e2, acc, xs, s2, st2, w2, r2, n2, rfl, hi, nv, lp⟩
    by_cases c : i < ds.length
    · rw [List.drop_eq_getElem_cons c] at lp
      obtain ⟨hI, lp⟩ := lp
      refine .inr ⟨wk.go G F2 H2 e2 i s2 st2 hI c, fun H' => ∃ F' e' acc xs, Same F1 F' ∧ St K po G F' H' σ e' ∧ OwnAt K po G F' H' L (.dK xs) (.dK acc) ∧ RepP K po F' acc xs ∧ (∀ (i : Nat) (e : D), e'[i]? = some (.own e) → σ[i]? ≠ some (some (.ref L))) ∧ (∀ (i : Nat) (s : Sl), e'[i]? = some s → s ≠ .no → i ∉ vs) ∧ pDcL g t pk pv vs I kd (ds.drop (i + 1)) acc e',
        fun H' ⟨F', e', acc, xs, z1, z2, z3, z4, z5, z6, z7⟩ => ⟨ds.length - (i + 1), by omega, F', e', acc, xs, z1, z2, z3, z4, z5, rfl, by omega, z6, z7⟩, ?_⟩
      intro x H3 hy
      have ed : ds[i]? = some ds[i] := List.getElem?_eq_getElem c
      have st2' := st2.tmp w2 n2
      obtain ⟨F3, s3, st3, r3⟩ := wk.yl _ F2 H2 e2 i _ x H3 s2 st2' hI ed hy
      have st3w : St K po (upd G L (.dK xs)) F3 H3 (wipe σ vs) e2 := st3.slots (wipe_length σ vs) fun j s q n => wipe_get (nv j s q n)
      refine ⟨po, upd G L (.dK xs), F3, e2, .val ds[i], _, st3w, r3, lp, fun F4 H4 σ4 e4 s4 st4 o4 k4 => ?_⟩
      have h4 : ∀ j : Nat, j ∉ vs → σ4[j]? = σ[j]? := fun j hj => by rw [o4.get j (fun z => hj (hv j z)), wipe_get hj]
      have l4 : σ4.length = σ.length := by rw [o4.len, wipe_length]
      have s24 := s3.trans s4
      refine ⟨wipe_eq l4 h4, po, upd G L (.dK xs), F4, e4, _, st4, XRel.none, k4, fun F5 H5 e5 b s5 st5 k5 => ?_⟩
      cases b with
      | false =>
        have g5 := st5.guard L
        refine ⟨F5, wipeP e5 vs, acc, xs, s2.trans (s24.trans s5), ((st5.weak (Same.new nfG)).wiped l4.symm fun j hj => (h4 j hj).symm), ⟨st5.a.gh _ _ upd_same, st5.a.dj _ _ upd_same, nfG, npL, .dK (r2.mono (s24.trans s5)).k⟩, r2.mono (s24.trans s5), ?_, fun i s q n => (wipeP_get q n).1, k5⟩
        intro i e q z
        obtain ⟨nv', q⟩ := wipeP_get q (by intro z; cases z)
        exact g5 i e q (by rw [h4 i nv']; exact z)
      | true =>
        refine ⟨po, upd G L (.dK xs), F5, e5, _, st5, XRel.none, k5, fun F6 H6 e6 r y s6 st6 a6 k6 => ?_⟩
        obtain ⟨dk, key, ed6, ek6, k6⟩ := k6
        have ey : y = kV key := (RV.rd st6 a6 ed6).key ek6
        refine ⟨po, upd G L (.dK xs), F6, e6, _, st6, XRel.none, k6, fun F7 H7 e7 r z s7 st7 a7 k7 => ?_⟩
        obtain ⟨zd, ed7, hl7, k7⟩ := k7
        obtain ⟨F8, s8, st8, r8⟩ := RV.frz st7 a7 ed7
        have s28 := s24.trans (s5.trans (s6.trans (s7.trans s8)))
        have st9 := st8.chgG nfG (.dK (putK xs key z))
        have g9 := st9.guard L
        have rp := (r2.mono s28).put key r8
        refine ⟨xs, key, ey, st8.a.gh _ _ upd_same, by rw [← r2.len]; exact hl7, F8, wipeP (r.fz e7) vs, pD acc key zd, putK xs key z, s2.trans s28, ((st9.weak (Same.new nfG)).wiped l4.symm fun j hj => (h4 j hj).symm), ⟨upd_same, st9.a.dj _ _ upd_same, nfG, npL, .dK rp.k⟩, rp, ?_, fun i s q n => (wipeP_get q n).1, k7⟩
        intro i e q z
        obtain ⟨nv', q⟩ := wipeP_get q (by intro z; cases z)
        exact g9 i e q (by rw [h4 i nv']; exact z)
    · have e : i = ds.length := by omega
      subst e
      rw [List.drop_length] at lp
      obtain ⟨hI, lp⟩ := lp
      exact .inl ⟨wk.st G F2 H2 e2 s2 st2 hI, hq L F2 H2 e2 acc xs s2 st2 w2 n2 hI lp⟩
/-- over any walk -/
def pDc (i : PTI) (g : PTG) (t : PTT) (pk pv : PTE) (vs : List Nat) : PTE := fun env k => i env fun ds e1 => pDcL g t pk pv vs (fun _ => True) (fun acc e => k (.tmp (.dK acc)) e) ds [] (wipeP e1 vs)
theorem Wk.i {po : Option Pt} {F : Hp} {σ : L2.St} {J : It} {ds : List D} {I : PEnv → Prop} (w : Wk K po F J ds) : WkI K po F σ J ds I :=
  ⟨fun G F' H' env i s st _ => w.go G F' H' σ env i s st, fun G F' H' env i d x H'' s st _ => w.yl G F' H' σ env i d x H'' s st, fun G F' H' env s st _ => w.st G F' H' σ env s st⟩
theorem dc_sim {σ : L2.St} {H : Hp} {Q : VK} {is vs : List Nat} {pi : PTI} {g : PTG} {t : PTT} {pk pv : PTE} (hv : ∀ i ∈ is, i ∈ vs) (h : lift K W kx (pDc pi g t pk pv vs) σ H Q) :
    tDc (liftI K W kx pi) (liftG K is g) (liftT K W0 kx0 t) (lift K W0 kx0 pk) (lift K W0 kx0 pv) vs σ H Q := by
  obtain ⟨po, G, F, env, k, st, hx, hp, hq⟩ := h
  refine ⟨po, G, F, env, _, st, hx, hp, fun F1 H1 e1 J ds s1 st1 wk k1 => ?_⟩
  exact dc_walk (Qd := fun L H => Q (.ref L) H) hv st1 wk.i k1 fun L F2 H2 e2 acc xs s2 st2 w2 n2 _ kk => hq F2 H2 e2 (.tmp (.dK acc)) _ (s1.trans s2) st2 ⟨L, _, rfl, w2, n2⟩ kk
theorem q_dc {kx' vx tg iter : Expr} {ifs : List Expr} {scope : Scope} {own : List (Str × Nat)} {pos : Pos} {is : List Nat} {pi : PTI} {g : PTG} {t : PTT} {pk pv : PTE} (hc : X.calm = true) (hN : X.N.Nodup) (hi : QI X K W kx tg iter pi) (ok : BlkOk X.N X.env.scope scope own)
    (hg : ∀ (s : Shared) (H : Hp) (C : Addr) (cl : List (Str × Addr)) (fp : List Addr), QG (X.blk s H scope (compEnvC scope cl C X.env) fp) K is tg g) (ht : ∀ (s : Shared) (H : Hp) (C : Addr) (cl : List (Str × Addr)) (fp : List Addr), QTs (X.blk s H scope (compEnvC scope cl C X.env) fp) K ifs t)
    (hk : ∀ (s : Shared) (H : Hp) (C : Addr) (cl : List (Str × Addr)) (fp : List Addr), QE (X.blk s H scope (compEnvC scope cl C X.env) fp) K W0 kx0 kx' pk) (he : ∀ (s : Shared) (H : Hp) (C : Addr) (cl : List (Str × Addr)) (fp : List Addr), QE (X.blk s H scope (compEnvC scope cl C X.env) fp) K W0 kx0 vx pv)
    (hv : ∀ i ∈ is, i ∈ own.map (·.2)) (hs : ∀ x, foldedSetIterable iter X.env x = pure x := by intro _; rfl) : QE X K W kx (.DictComp kx' vx [⟨tg, iter, ifs, 0⟩] scope pos) (pDc pi g t pk pv (own.map (·.2))) :=
  ⟨hi.hK, PE.imp (pe_dc hc hN hi.pi ok (fun s H C cl fp => (hg s H C cl fp).pg) (fun s H C cl fp => (ht s H C cl fp).pts) (fun s H C cl fp => (hk s H C cl fp).pe) (fun s H C cl fp => (he s H C cl fp).pe) hs) fun σ H Q h => dc_sim hv h⟩
/-! ### over a dict's keys -/
def kD : Key → D
  | .inl i => .int i
  | .inr x => .str x
theorem kD_rep {po : Option Pt} {F : Hp} (k : Key) : Rep K po F (kD k) (kV k) := by
  cases k with
  | inl i => exact .int i
  | inr x => exact .str x
def pDcZ (j : Nat) (g : PTG) (t : PTT) (pk pv : PTE) (vs : List Nat) : PTE := fun env k => ∃ kvs, env[j]? = some (.own (.dK kvs)) ∧ ∀ (xs : List (Key × V)) (o : Obj),
  pDcL g t pk pv vs (fun e => e[j]? = some (.own (.dZ kvs xs o))) (fun acc e => k (.tmp (.dK acc)) (e.set j (.own (.dK kvs)))) (kvs.map fun kv => kD kv.1) [] (wipeP (env.set j (.own (.dZ kvs xs o))) vs)
theorem q_dcZ {j : Nat} {kx' vx tg iter : Expr} {ifs : List Expr} {scope : Scope} {own : List (Str × Nat)} {pos : Pos} {is : List Nat} {g : PTG} {t : PTT} {pk pv : PTE} (hK : X.K = K) (hc : X.calm = true) (hN : X.N.Nodup) (hi : PE X iter (tVar j)) (ok : BlkOk X.N X.env.scope scope own)
    (hg : ∀ (s : Shared) (H : Hp) (C : Addr) (cl : List (Str × Addr)) (fp : List Addr), QG (X.blk s H scope (compEnvC scope cl C X.env) fp) K is tg g) (ht : ∀ (s : Shared) (H : Hp) (C : Addr) (cl : List (Str × Addr)) (fp : List Addr), QTs (X.blk s H scope (compEnvC scope cl C X.env) fp) K ifs t)
    (hk : ∀ (s : Shared) (H : Hp) (C : Addr) (cl : List (Str × Addr)) (fp : List Addr), QE (X.blk s H scope (compEnvC scope cl C X.env) fp) K W0 kx0 kx' pk) (he : ∀ (s : Shared) (H : Hp) (C : Addr) (cl : List (Str × Addr)) (fp : List Addr), QE (X.blk s H scope (compEnvC scope cl C X.env) fp) K W0 kx0 vx pv)
    (hv : ∀ i ∈ is, i ∈ own.map (·.2)) (hs : ∀ x, foldedSetIterable iter X.env x = pure x := by intro _; rfl) : QE X K W kx (.DictComp kx' vx [⟨tg, iter, ifs, 0⟩] scope pos) (pDcZ j g t pk pv (own.map (·.2))) := by
  refine ⟨hK, PE.imp (pe_lock (pe_dc hc hN (pi_keys hi) ok (fun s H C cl fp => (hg s H C cl fp).pg) (fun s H C cl fp => (ht s H C cl fp).pts) (fun s H C cl fp => (hk s H C cl fp).pe) (fun s H C cl fp => (he s H C cl fp).pe) hs)) fun σ H Q ⟨po, G, F, env, k, st, hx, ⟨kvs, e0, hp⟩, hq⟩ => ?_⟩
  obtain ⟨d, o0, ed, w⟩ := st.ow j _ e0
  have w1 := w.rep
  have w2 := w.at_
  cases w1 with
  | @dK _ xs rk =>
    refine ⟨d, .dK xs, w2, trivial, fun od => ?_⟩
    have stZ := st.mut e0 ed (RepO.dZ (o := od) rk)
    have jl : j < env.length := (List.getElem?_eq_some_iff.mp e0).1
    have jz : (env.set j (.own (.dZ kvs xs od)))[j]? = some (.own (.dZ kvs xs od)) := List.getElem?_set_self jl
    refine ⟨.ref d, ed, d, od, rfl, .inl ⟨xs, upd_same, ?_⟩⟩
    have at_ : ∀ {G F' H' : Hp} {e : PEnv}, St K po G F' H' σ e → e[j]? = some (.own (.dZ kvs xs od)) → H' d = some (.frz od (.dK xs)) ∧ RepP K po F' kvs xs := fun {G F' H' e} st' q => by
      obtain ⟨d', o', ed', w'⟩ := st'.ow j _ q
      rw [ed] at ed'
      cases ed'
      have r1 := w'.rep
      have r2 := w'.at_
      cases r1 with
      | dZ r => exact ⟨r2, r.p⟩
    refine dc_walk (Qd := fun L H' => H' d = some (.frz od (.dK xs)) ∧ Q (.ref L) (upd H' d (.dK xs))) hv stZ (I := fun e => e[j]? = some (.own (.dZ kvs xs od))) ⟨fun G F' H' e i s st' hI hi' => ?_, fun G F' H' e i dd x H'' s st' hI hd y => ?_, fun G F' H' e s st' hI => ?_⟩ (hp xs od) fun L F2 H2 e2 acc ys s2 st2 w2' n2 hI kk => ?_
    · exact ⟨(at_ st' hI).1, by rw [← rk.p.len]; rw [List.length_map] at hi'; exact hi'⟩
    · obtain ⟨rfl, k', v', hk', rfl⟩ := y
      refine ⟨F', Same.refl F', st', ?_⟩
      have rp := (at_ st' hI).2
      have : dd = kD k' := by
        rw [List.getElem?_map] at hd
        have keys : kvs.map (·.1) = xs.map (·.1) := rk.p.keys
        have h1 : (kvs.map (·.1))[i]? = some k' := by rw [keys, List.getElem?_map, hk']; rfl
        rw [List.getElem?_map] at h1
        cases q : kvs[i]? with
        | none => rw [q] at h1; cases h1
        | some kv =>
          rw [q] at h1 hd
          have h2 : kv.1 = k' := Option.some.inj h1
          rw [← h2]
          exact (Option.some.inj hd).symm
      rw [this]
      exact kD_rep k'
    · exact ⟨(at_ st' hI).1, by rw [List.length_map, rk.p.len]; exact Nat.le_refl _⟩
    · have hz := at_ st2 hI
      refine ⟨hz.1, ?_⟩
      have st3 := st2.mut hI ed (RepO.dK hz.2.k)
      have ne : L ≠ d := fun z => by
        have := w2'.at_
        rw [z, hz.1] at this
        cases this
      refine hq F2 _ _ (.tmp (.dK acc)) _ s2 st3 ⟨L, _, rfl, ⟨by rw [upd_ne ne]; exact w2'.at_, w2'.nf, w2'.ng, w2'.np, w2'.rep⟩, fun i e q z => ?_⟩ kk
      by_cases c : i = j
      · subst c
        rw [ed] at z
        cases z
        exact ne rfl
      · rw [List.getElem?_set_ne (Ne.symm c)] at q
        exact n2 i e q z
/-! ### name = {..} -/
theorem ps_setDc {i : Nat} {y : Str} {py : Pos} {kx' vx tg iter : Expr} {ifs : List Expr} {scope : Scope} {own : List (Str × Nat)} {pos spos : Pos} {wi : TI} {g : TG} {tt : L2.TT} {tk tv : TE} (hc : X.calm = true) (hN : X.N.Nodup) (hy : X.N[i]? = some y) (hyl : X.env.scope.names.lookup y = some .local)
    (hsw : swapsWith (.DictComp kx' vx [⟨tg, iter, ifs, 0⟩] scope pos) (some (.Name y py)) spos.line X.env = pure true) (hi : PI X tg iter wi) (ok : BlkOk X.N X.env.scope scope own)
    (hg : ∀ (s : Shared) (H : Hp) (C : Addr) (cl : List (Str × Addr)) (fp : List Addr), PG (X.blk s H scope (compEnvC scope cl C X.env) fp) tg g) (ht : ∀ (s : Shared) (H : Hp) (C : Addr) (cl : List (Str × Addr)) (fp : List Addr), PTs (X.blk s H scope (compEnvC scope cl C X.env) fp) ifs tt)
    (hk : ∀ (s : Shared) (H : Hp) (C : Addr) (cl : List (Str × Addr)) (fp : List Addr), PE (X.blk s H scope (compEnvC scope cl C X.env) fp) kx' tk)
    (he : ∀ (s : Shared) (H : Hp) (C : Addr) (cl : List (Str × Addr)) (fp : List Addr), PE (X.blk s H scope (compEnvC scope cl C X.env) fp) vx tv) (hs : ∀ x, foldedSetIterable iter X.env x = pure x := by intro _; rfl) :
    PS X (.Assign [.Name y py] (.DictComp kx' vx [⟨tg, iter, ifs, 0⟩] scope pos) spos) (tAsg (tDc wi g tt tk tv (own.map (·.2))) (gName i)) := by
  constructor
  intro pn sh τ Hp0 En inv wish
  have wish' : tDc wi g tt tk tv (own.map (·.2)) τ Hp0 (fun z Hz => gName i z τ Hz En.nx) := wish
  rw [exec_Assign_Name_used _ _ _ _ hsw]; apply wpAny_bind; apply wpAny_standAt; apply wpAny_bind
  have all := dc_core (pos := pos) (pos' := firstIterPos [⟨tg, iter, ifs, 0⟩] pos) (use := some (assign (.Name y py) X.env)) (Qf := fun _ sz => SP X pn En .next sz) hc hN inv hi ok hg ht hk he hs wish' (fun L Cell sz mm Hz invz qz nsz fp => by
    obtain ⟨p0, p1, p2, p3, p4, p5⟩ := fp
    show wpAny _ _ (assign (.Name y py) X.env (.ref L)) _ _ _
    apply wpAny_assign_Name
    refine store_ok2 (v := V.ref L) invz hN hy (.inl hyl) rfl (fun sq invq ⟨at', sbq, orq⟩ => ?_) (.inr hyl)
    have apart : Cell ≠ at' := orq.elim (fun z => by rw [z]; exact p1) fun z e => p4 y at' z e.symm
    exact ⟨mm, nsz.sameBut sbq apart, fun sw sbw => ⟨_, Hz, invq.turned (t' := sq.toks) (fun b o hb e => (sbw.2 b hb).trans e) p0 p1 p3 p4 p5, qz⟩⟩)
  exact wpAny_bind (thn all fun _ sz hz => wpAny_pure (wpAny_pure hz))
theorem sw_trueD {k' elt : Expr} {gs : List Comprehension} {scope : Scope} {pos py : Pos} {y : Str} {l : Nat} {env : Env} (fn : env.scope.kind = .function) (ly : env.scope.names.lookup y = some .local) (same : (py.line == pos.line) = true)
    (no : (scope.names.any fun (n, k) => n == y && (k == .local || k == .cell)) = false) : swapsWith (.DictComp k' elt gs scope pos) (some (.Name y py)) l env = pure true := by
  have two : env.kindOf y = some .local ∧ env.blockKind = .function := ⟨ly, by rw [Env.blockKind, fn]; rfl⟩
  unfold swapsWith; simp only [two.1, two.2, no, same, Expr.pos]; rfl
def pSetDcZ (i j : Nat) (g : PTG) (t : PTT) (pk pv : PTE) (vs : List Nat) : PTS := fun pd env => ∃ kvs, env[j]? = some (.own (.dK kvs)) ∧ ∀ (xs : List (Key × V)) (o : Obj),
  pDcL g t pk pv vs (fun e => e[j]? = some (.own (.dZ kvs xs o))) (fun acc e => pd.nx ((e.set j (.own (.dK kvs))).set i (.own (.dK acc)))) (kvs.map fun kv => kD kv.1) [] (wipeP (env.set j (.own (.dZ kvs xs o))) vs)
theorem qs_setDcZ {i j : Nat} {y : Str} {py : Pos} {kx' vx tg iter : Expr} {ifs : List Expr} {scope : Scope} {own : List (Str × Nat)} {pos spos : Pos} {is : List Nat} {g : PTG} {t : PTT} {pk pv : PTE} (hK : X.K = K) (hc : X.calm = true) (hN : X.N.Nodup) (hy : X.N[i]? = some y) (hyl : X.env.scope.names.lookup y = some .local)
    (hsw : swapsWith (.DictComp kx' vx [⟨tg, iter, ifs, 0⟩] scope pos) (some (.Name y py)) spos.line X.env = pure true) (hi : PE X iter (tVar j)) (ok : BlkOk X.N X.env.scope scope own)
    (hg : ∀ (s : Shared) (H : Hp) (C : Addr) (cl : List (Str × Addr)) (fp : List Addr), QG (X.blk s H scope (compEnvC scope cl C X.env) fp) K is tg g) (ht : ∀ (s : Shared) (H : Hp) (C : Addr) (cl : List (Str × Addr)) (fp : List Addr), QTs (X.blk s H scope (compEnvC scope cl C X.env) fp) K ifs t)
    (hk : ∀ (s : Shared) (H : Hp) (C : Addr) (cl : List (Str × Addr)) (fp : List Addr), QE (X.blk s H scope (compEnvC scope cl C X.env) fp) K W0 kx0 kx' pk) (he : ∀ (s : Shared) (H : Hp) (C : Addr) (cl : List (Str × Addr)) (fp : List Addr), QE (X.blk s H scope (compEnvC scope cl C X.env) fp) K W0 kx0 vx pv)
    (hv : ∀ i ∈ is, i ∈ own.map (·.2)) (hs : ∀ x, foldedSetIterable iter X.env x = pure x := by intro _; rfl) : QS X K W kx (.Assign [.Name y py] (.DictComp kx' vx [⟨tg, iter, ifs, 0⟩] scope pos) spos) (pSetDcZ i j g t pk pv (own.map (·.2))) := by
  refine ⟨hK, PS.imp (ps_lock (ps_setDc hc hN hy hyl hsw (pi_keys hi) ok (fun s H C cl fp => (hg s H C cl fp).pg) (fun s H C cl fp => (ht s H C cl fp).pts) (fun s H C cl fp => (hk s H C cl fp).pe) (fun s H C cl fp => (he s H C cl fp).pe) hs)) fun D σ H ⟨po, G, F, env, pd, st, hx, hen, ⟨kvs, e0, hp⟩⟩ => ?_⟩
  obtain ⟨d, o0, ed, w⟩ := st.ow j _ e0
  have w1 := w.rep
  have w2 := w.at_
  cases w1 with
  | @dK _ xs rk =>
    refine ⟨d, .dK xs, w2, trivial, fun od => ?_⟩
    have stZ := st.mut e0 ed (RepO.dZ (o := od) rk)
    refine ⟨.ref d, ed, d, od, rfl, .inl ⟨xs, upd_same, ?_⟩⟩
    have at_ : ∀ {G F' H' : Hp} {e : PEnv}, St K po G F' H' σ e → e[j]? = some (.own (.dZ kvs xs od)) → H' d = some (.frz od (.dK xs)) ∧ RepP K po F' kvs xs := fun {G F' H' e} st' q => by
      obtain ⟨d', o', ed', w'⟩ := st'.ow j _ q
      rw [ed] at ed'
      cases ed'
      have r1 := w'.rep
      have r2 := w'.at_
      cases r1 with
      | dZ r => exact ⟨r2, r.p⟩
    refine dc_walk (Qd := fun L H' => H' d = some (.frz od (.dK xs)) ∧ D.nx (σ.set i (some (.ref L))) (upd H' d (.dK xs))) hv stZ (I := fun e => e[j]? = some (.own (.dZ kvs xs od))) ⟨fun G F' H' e i s st' hI hi' => ?_, fun G F' H' e i dd x H'' s st' hI hd y => ?_, fun G F' H' e s st' hI => ?_⟩ (hp xs od) fun L F2 H2 e2 acc ys s2 st2 w2' n2 hI kk => ?_
    · exact ⟨(at_ st' hI).1, by rw [← rk.p.len]; rw [List.length_map] at hi'; exact hi'⟩
    · obtain ⟨rfl, k', v', hk', rfl⟩ := y
      refine ⟨F', Same.refl F', st', ?_⟩
      have : dd = kD k' := by
        rw [List.getElem?_map] at hd
        have keys : kvs.map (·.1) = xs.map (·.1) := rk.p.keys
        have h1 : (kvs.map (·.1))[i]? = some k' := by rw [keys, List.getElem?_map, hk']; rfl
        rw [List.getElem?_map] at h1
        cases q : kvs[i]? with
        | none => rw [q] at h1; cases h1
        | some kv =>
          rw [q] at h1 hd
          have h2 : kv.1 = k' := Option.some.inj h1
          rw [← h2]
          exact (Option.some.inj hd).symm
      rw [this]
      exact kD_rep k'
    · exact ⟨(at_ st' hI).1, by rw [List.length_map, rk.p.len]; exact Nat.le_refl _⟩
    · have hz := at_ st2 hI
      refine ⟨hz.1, ?_⟩
      have st3 := st2.mut hI ed (RepO.dK hz.2.k)
      have ne : L ≠ d := fun z => by
        have := w2'.at_
        rw [z, hz.1] at this
        cases this
      have st4 := st3.setO (i := i) (d := .dK acc) (a := L) (o := .dK ys) ⟨by rw [upd_ne ne]; exact w2'.at_, w2'.nf, w2'.ng, w2'.np, w2'.rep⟩ fun i e q z => by
        by_cases c : i = j
        · subst c
          rw [ed] at z
          cases z
          exact ne rfl
        · rw [List.getElem?_set_ne (Ne.symm c)] at q
          exact n2 i e q z
      exact hen.nx F2 _ _ _ s2 st4 kk
theorem i_setDcZ {i j : Nat} {g : PTG} {t : PTT} {pk pv : PTE} {vs : List Nat} {pd : PEnds} {env : PEnv} {kvs : List (Key × D)} (e : env[j]? = some (.own (.dK kvs))) (h : ∀ (xs : List (Key × V)) (o : Obj),
  pDcL g t pk pv vs (fun e => e[j]? = some (.own (.dZ kvs xs o))) (fun acc e => pd.nx ((e.set j (.own (.dK kvs))).set i (.own (.dK acc)))) (kvs.map fun kv => kD kv.1) [] (wipeP (env.set j (.own (.dZ kvs xs o))) vs)) : pSetDcZ i j g t pk pv vs pd env := ⟨kvs, e, h⟩
/-! ### steps -/
theorem i_dc {i : PTI} {g : PTG} {t : PTT} {pk pv : PTE} {vs : List Nat} {env : PEnv} {k : RV → PEnv → Prop} (h : i env fun ds e1 => pDcL g t pk pv vs (fun _ => True) (fun acc e => k (.tmp (.dK acc)) e) ds [] (wipeP e1 vs)) : pDc i g t pk pv vs env k := h
theorem i_dcZ {j : Nat} {g : PTG} {t : PTT} {pk pv : PTE} {vs : List Nat} {env : PEnv} {k : RV → PEnv → Prop} {kvs : List (Key × D)} (e : env[j]? = some (.own (.dK kvs))) (h : ∀ (xs : List (Key × V)) (o : Obj),
  pDcL g t pk pv vs (fun e => e[j]? = some (.own (.dZ kvs xs o))) (fun acc e => k (.tmp (.dK acc)) (e.set j (.own (.dK kvs)))) (kvs.map fun kv => kD kv.1) [] (wipeP (env.set j (.own (.dZ kvs xs o))) vs)) : pDcZ j g t pk pv vs env k := ⟨kvs, e, h⟩
/-- a dict comprehension by an invariant of the dict so far; the slots stay -/
theorem dcl_p {g : PTG} {t : PTT} {pk pv : PTE} {vs : List Nat} {I : PEnv → Prop} {kd : List (Key × D) → PEnv → Prop} {ds : List D} {env0 env : PEnv} (en : Nf env0 env) (hI : I env) (J : Nat → List (Key × D) → Prop) (h0 : J 0 [])
    (hs : ∀ (i : Nat) (d : D) (acc : List (Key × D)), ds[i]? = some d → J i acc → ∀ nx : List (Key × D) → PEnv → Prop, (∀ acc', J (i + 1) acc' → nx acc' env) →
      g (.val d) env fun e1 => t e1 fun b e2 => if b = true then pk e2 fun r e3 => ∃ dk y, r.d e3 = some dk ∧ keyD dk = some y ∧ pv e3 fun s e4 => ∃ z, s.d e4 = some z ∧ acc.length < sizeLine ∧ nx (pD acc y z) (wipeP (s.fz e4) vs) else nx acc (wipeP e2 vs))
    (hd : ∀ acc, J ds.length acc → kd acc env) : pDcL g t pk pv vs I kd ds [] env0 := by
  rw [en.eq]
  have main : ∀ (es : List D) (n : Nat) (acc : List (Key × D)), ds.drop n = es → n ≤ ds.length → J n acc → pDcL g t pk pv vs I kd es acc env := by
    intro es
    induction es with
    | nil =>
      intro n acc hd' hn hj
      have : n = ds.length := by
        have := congrArg List.length hd'
        simp at this
        omega
      subst this
      exact ⟨hI, hd acc hj⟩
    | cons d es ih =>
      intro n acc hd' hn hj
      have hl : n < ds.length := by
        have := congrArg List.length hd'
        simp at this
        omega
      have e0 : ds[n]? = some d := by
        rw [List.drop_eq_getElem_cons hl] at hd'
        rw [List.getElem?_eq_getElem hl]
        exact congrArg some (List.cons.inj hd').1
      have e1 : ds.drop (n + 1) = es := by
        rw [List.drop_eq_getElem_cons hl] at hd'
        exact (List.cons.inj hd').2
      exact ⟨hI, hs n d acc e0 hj (fun acc' e' => pDcL g t pk pv vs I kd es acc' e') fun acc' h' => ih (n + 1) acc' e1 hl h'⟩
  exact main ds 0 [] rfl (Nat.zero_le _) h0
end
end Pl

namespace Myk33
open PySem L2 My EnT Pl
def top (i : Nat) : Stmt := PySem.Challenge.pw_neverleapt_k33_whole_measures_by_nets.main.body.getD i (.Pass ⟨0, 0, 0, 0⟩)
abbrev s_is_whole : Stmt := top 9
abbrev s_lift_of : Stmt := top 13
abbrev s_steps : Stmt := top 17
abbrev s_spread : Stmt := top 18
abbrev s_inner_events : Stmt := top 22
abbrev s_total : Stmt := top 33
abbrev s_ways : Stmt := top 35
abbrev s_without_tries : Stmt := top 39
abbrev s_law_pot : Stmt := top 49
abbrev s_law_draw : Stmt := top 50
abbrev s_law_gcd : Stmt := top 51
abbrev s_law_out : Stmt := top 54
abbrev s_is_between : Stmt := top 10
abbrev s_is_pair : Stmt := top 11
abbrev s_reached : Stmt := top 19
abbrev s_row_lift : Stmt := top 34
abbrev s_round_pairs : Stmt := top 38
abbrev s_law_low : Stmt := top 52
abbrev s_law_reached : Stmt := top 55
abbrev s_law_leads : Stmt := top 56
abbrev s_is_share : Stmt := top 12
abbrev s_knots : Stmt := top 20
abbrev s_are_counts : Stmt := top 30
abbrev s_has_event : Stmt := top 31
abbrev s_net_of : Stmt := top 37
abbrev s_law_share : Stmt := top 53
abbrev s_check_share : Stmt := top 15
abbrev s_knot_of : Stmt := top 21
abbrev s_is_event : Stmt := top 29
abbrev s_u_net : Stmt := top 47
abbrev s_Machine___init__ : Stmt := inClass (top 28) 0
abbrev s_lift : Stmt := top 41
abbrev s_u_measure : Stmt := top 43
abbrev s_knot : Stmt := top 44
abbrev s_measure : Stmt := top 42
abbrev s_lead : Stmt := top 45
abbrev s_net : Stmt := top 46
abbrev s_law : Stmt := top 57
structure Ad where
  f_is_whole : Addr
  d_is_whole : FuncData
  f_lift_of : Addr
  d_lift_of : FuncData
  f_steps : Addr
  d_steps : FuncData
  f_spread : Addr
  d_spread : FuncData
  f_inner_events : Addr
  d_inner_events : FuncData
  f_total : Addr
  d_total : FuncData
  f_ways : Addr
  d_ways : FuncData
  f_without_tries : Addr
  d_without_tries : FuncData
  f_law_pot : Addr
  d_law_pot : FuncData
  f_law_draw : Addr
  d_law_draw : FuncData
  f_law_gcd : Addr
  d_law_gcd : FuncData
  f_law_out : Addr
  d_law_out : FuncData
  f_is_between : Addr
  d_is_between : FuncData
  f_is_pair : Addr
  d_is_pair : FuncData
  f_reached : Addr
  d_reached : FuncData
  f_row_lift : Addr
  d_row_lift : FuncData
  f_round_pairs : Addr
  d_round_pairs : FuncData
  f_law_low : Addr
  d_law_low : FuncData
  f_law_reached : Addr
  d_law_reached : FuncData
  f_law_leads : Addr
  d_law_leads : FuncData
  f_is_share : Addr
  d_is_share : FuncData
  f_knots : Addr
  d_knots : FuncData
  f_are_counts : Addr
  d_are_counts : FuncData
  f_has_event : Addr
  d_has_event : FuncData
  f_net_of : Addr
  d_net_of : FuncData
  f_law_share : Addr
  d_law_share : FuncData
  f_check_share : Addr
  d_check_share : FuncData
  f_knot_of : Addr
  d_knot_of : FuncData
  f_is_event : Addr
  d_is_event : FuncData
  f_u_net : Addr
  d_u_net : FuncData
  f_Machine___init__ : Addr
  d_Machine___init__ : FuncData
  f_lift : Addr
  d_lift : FuncData
  f_u_measure : Addr
  d_u_measure : FuncData
  f_knot : Addr
  d_knot : FuncData
  f_measure : Addr
  d_measure : FuncData
  f_lead : Addr
  d_lead : FuncData
  f_net : Addr
  d_net : FuncData
  f_law : Addr
  d_law : FuncData
  C_Machine : Addr
  C_NoEvent : Addr
  C_NoKnot : Addr
  C_NoShare : Addr
  C_NoStanding : Addr
  t_MOST_EVENTS : Tok
  t_MOST_POINTS : Tok
  t_MOST_STANDINGS : Tok
  t_MOST_TRIES : Tok
structure Txt (K : PySem.W.Frag) (mg : Str → Option Value) (A : Ad) : Prop where
  F_is_whole : Fun K "is_whole" "is_whole" s_is_whole A.f_is_whole A.d_is_whole
  B_is_whole : Binds K A.d_is_whole ["thing"] []
  m_is_whole : mg "is_whole" = some (.ref A.f_is_whole)
  F_lift_of : Fun K "lift_of" "lift_of" s_lift_of A.f_lift_of A.d_lift_of
  B_lift_of : Binds K A.d_lift_of ["share", "tries", "points"] []
  m_lift_of : mg "lift_of" = some (.ref A.f_lift_of)
  F_steps : Fun K "_steps" "_steps" s_steps A.f_steps A.d_steps
  B_steps : Binds K A.d_steps ["machine", "side", "far_side"] []
  m_steps : mg "_steps" = some (.ref A.f_steps)
  F_spread : Fun K "_spread" "_spread" s_spread A.f_spread A.d_spread
  B_spread : Binds K A.d_spread ["steps", "start"] []
  m_spread : mg "_spread" = some (.ref A.f_spread)
  F_inner_events : Fun K "inner_events" "inner_events" s_inner_events A.f_inner_events A.d_inner_events
  B_inner_events : Binds K A.d_inner_events ["machine", "knot"] []
  m_inner_events : mg "inner_events" = some (.ref A.f_inner_events)
  F_total : Fun K "total" "total" s_total A.f_total A.d_total
  B_total : Binds K A.d_total ["machine", "row"] []
  m_total : mg "total" = some (.ref A.f_total)
  F_ways : Fun K "ways" "ways" s_ways A.f_ways A.d_ways
  B_ways : Binds K A.d_ways ["machine", "numbers", "start"] []
  m_ways : mg "ways" = some (.ref A.f_ways)
  F_without_tries : Fun K "_without_tries" "_without_tries" s_without_tries A.f_without_tries A.d_without_tries
  B_without_tries : Binds K A.d_without_tries ["pair", "other"] []
  m_without_tries : mg "_without_tries" = some (.ref A.f_without_tries)
  F_law_pot : Fun K "_law_pot" "_law_pot" s_law_pot A.f_law_pot A.d_law_pot
  B_law_pot : Binds K A.d_law_pot ["script"] []
  m_law_pot : mg "_law_pot" = some (.ref A.f_law_pot)
  F_law_draw : Fun K "_law_draw" "_law_draw" s_law_draw A.f_law_draw A.d_law_draw
  B_law_draw : Binds K A.d_law_draw ["pot", "many"] []
  m_law_draw : mg "_law_draw" = some (.ref A.f_law_draw)
  F_law_gcd : Fun K "_law_gcd" "_law_gcd" s_law_gcd A.f_law_gcd A.d_law_gcd
  B_law_gcd : Binds K A.d_law_gcd ["one", "other"] []
  m_law_gcd : mg "_law_gcd" = some (.ref A.f_law_gcd)
  F_law_out : Fun K "_law_out" "_law_out" s_law_out A.f_law_out A.d_law_out
  B_law_out : Binds K A.d_law_out ["parts", "standing"] []
  m_law_out : mg "_law_out" = some (.ref A.f_law_out)
  F_is_between : Fun K "is_between" "is_between" s_is_between A.f_is_between A.d_is_between
  B_is_between : Binds K A.d_is_between ["thing", "low", "high"] []
  m_is_between : mg "is_between" = some (.ref A.f_is_between)
  F_is_pair : Fun K "is_pair" "is_pair" s_is_pair A.f_is_pair A.d_is_pair
  B_is_pair : Binds K A.d_is_pair ["thing"] []
  m_is_pair : mg "is_pair" = some (.ref A.f_is_pair)
  F_reached : Fun K "reached" "reached" s_reached A.f_reached A.d_reached
  B_reached : Binds K A.d_reached ["machine"] []
  m_reached : mg "reached" = some (.ref A.f_reached)
  F_row_lift : Fun K "row_lift" "row_lift" s_row_lift A.f_row_lift A.d_row_lift
  B_row_lift : Binds K A.d_row_lift ["machine", "share", "row"] []
  m_row_lift : mg "row_lift" = some (.ref A.f_row_lift)
  F_round_pairs : Fun K "_round_pairs" "_round_pairs" s_round_pairs A.f_round_pairs A.d_round_pairs
  B_round_pairs : Binds K A.d_round_pairs ["machine", "numbers", "start"] []
  m_round_pairs : mg "_round_pairs" = some (.ref A.f_round_pairs)
  F_law_low : Fun K "_law_low" "_law_low" s_law_low A.f_law_low A.d_law_low
  B_law_low : Binds K A.d_law_low ["top", "bottom"] []
  m_law_low : mg "_law_low" = some (.ref A.f_law_low)
  F_law_reached : Fun K "_law_reached" "_law_reached" s_law_reached A.f_law_reached A.d_law_reached
  B_law_reached : Binds K A.d_law_reached ["parts"] []
  m_law_reached : mg "_law_reached" = some (.ref A.f_law_reached)
  F_law_leads : Fun K "_law_leads" "_law_leads" s_law_leads A.f_law_leads A.d_law_leads
  B_law_leads : Binds K A.d_law_leads ["parts", "start"] []
  m_law_leads : mg "_law_leads" = some (.ref A.f_law_leads)
  F_is_share : Fun K "is_share" "is_share" s_is_share A.f_is_share A.d_is_share
  B_is_share : Binds K A.d_is_share ["thing"] []
  m_is_share : mg "is_share" = some (.ref A.f_is_share)
  F_knots : Fun K "knots" "knots" s_knots A.f_knots A.d_knots
  B_knots : Binds K A.d_knots ["machine"] []
  m_knots : mg "knots" = some (.ref A.f_knots)
  F_are_counts : Fun K "are_counts" "are_counts" s_are_counts A.f_are_counts A.d_are_counts
  B_are_counts : Binds K A.d_are_counts ["tries", "points"] []
  m_are_counts : mg "are_counts" = some (.ref A.f_are_counts)
  F_has_event : Fun K "has_event" "has_event" s_has_event A.f_has_event A.d_has_event
  B_has_event : Binds K A.d_has_event ["machine", "thing"] []
  m_has_event : mg "has_event" = some (.ref A.f_has_event)
  F_net_of : Fun K "net_of" "net_of" s_net_of A.f_net_of A.d_net_of
  B_net_of : Binds K A.d_net_of ["machine", "numbers", "start"] []
  m_net_of : mg "net_of" = some (.ref A.f_net_of)
  F_law_share : Fun K "_law_share" "_law_share" s_law_share A.f_law_share A.d_law_share
  B_law_share : Binds K A.d_law_share ["pot", "most"] []
  m_law_share : mg "_law_share" = some (.ref A.f_law_share)
  F_check_share : Fun K "check_share" "check_share" s_check_share A.f_check_share A.d_check_share
  B_check_share : Binds K A.d_check_share ["thing"] []
  m_check_share : mg "check_share" = some (.ref A.f_check_share)
  F_knot_of : Fun K "knot_of" "knot_of" s_knot_of A.f_knot_of A.d_knot_of
  B_knot_of : Binds K A.d_knot_of ["machine", "thing"] []
  m_knot_of : mg "knot_of" = some (.ref A.f_knot_of)
  F_is_event : Fun K "_is_event" "_is_event" s_is_event A.f_is_event A.d_is_event
  B_is_event : Binds K A.d_is_event ["thing", "standings"] []
  m_is_event : mg "_is_event" = some (.ref A.f_is_event)
  F_u_net : Fun K "_net" "_net" s_u_net A.f_u_net A.d_u_net
  B_u_net : Binds K A.d_u_net ["machine", "knot"] []
  m_u_net : mg "_net" = some (.ref A.f_u_net)
  F_Machine___init__ : Fun K "__init__" "Machine.__init__" s_Machine___init__ A.f_Machine___init__ A.d_Machine___init__
  B_Machine___init__ : Binds K A.d_Machine___init__ ["self", "standings", "events"] []
  F_lift : Fun K "lift" "lift" s_lift A.f_lift A.d_lift
  B_lift : Binds K A.d_lift ["machine", "share", "event"] []
  m_lift : mg "lift" = some (.ref A.f_lift)
  F_u_measure : Fun K "_measure" "_measure" s_u_measure A.f_u_measure A.d_u_measure
  B_u_measure : Binds K A.d_u_measure ["machine", "share", "knot"] []
  m_u_measure : mg "_measure" = some (.ref A.f_u_measure)
  F_knot : Fun K "_knot" "_knot" s_knot A.f_knot A.d_knot
  B_knot : Binds K A.d_knot ["machine", "standing"] []
  m_knot : mg "_knot" = some (.ref A.f_knot)
  F_measure : Fun K "measure" "measure" s_measure A.f_measure A.d_measure
  B_measure : Binds K A.d_measure ["machine", "share", "standing"] []
  m_measure : mg "measure" = some (.ref A.f_measure)
  F_lead : Fun K "lead" "lead" s_lead A.f_lead A.d_lead
  B_lead : Binds K A.d_lead ["machine", "share", "one", "other"] []
  m_lead : mg "lead" = some (.ref A.f_lead)
  F_net : Fun K "net" "net" s_net A.f_net A.d_net
  B_net : Binds K A.d_net ["machine", "standing"] []
  m_net : mg "net" = some (.ref A.f_net)
  F_law : Fun K "law" "law" s_law A.f_law A.d_law
  B_law : Binds K A.d_law ["script"] []
  m_law : mg "law" = some (.ref A.f_law)
  m_Machine : mg "Machine" = some (.ref A.C_Machine)
  cl_Machine : Cls K A.C_Machine
  mk_Machine : Mk K A.C_Machine A.f_Machine___init__
  n_events : NoAttr K A.C_Machine "events"
  n_standings : NoAttr K A.C_Machine "standings"
  m_NoEvent : mg "NoEvent" = some (.ref A.C_NoEvent)
  m_NoKnot : mg "NoKnot" = some (.ref A.C_NoKnot)
  m_NoShare : mg "NoShare" = some (.ref A.C_NoShare)
  m_NoStanding : mg "NoStanding" = some (.ref A.C_NoStanding)
  x_NoEvent : PySem.W.excIn K A.C_NoEvent [.type "ValueError", .type "Exception", .type "BaseException", .type "object"] "ValueError.__new__" = true
  kp_NoEvent : PySem.W.keepIn K (.ref A.C_NoEvent) = true
  b_NoEvent : PySem.W.subIn K (.ref A.C_NoEvent) (.type "BaseException") = some true
  t_NoEvent : PySem.W.typeIn K (.ref A.C_NoEvent) = some (.type "type")
  e_NoEvent : PySem.W.exmOne K (.ref A.C_NoEvent) (.ref A.C_NoEvent) = some true
  x_NoKnot : PySem.W.excIn K A.C_NoKnot [.type "ValueError", .type "Exception", .type "BaseException", .type "object"] "ValueError.__new__" = true
  kp_NoKnot : PySem.W.keepIn K (.ref A.C_NoKnot) = true
  b_NoKnot : PySem.W.subIn K (.ref A.C_NoKnot) (.type "BaseException") = some true
  t_NoKnot : PySem.W.typeIn K (.ref A.C_NoKnot) = some (.type "type")
  e_NoKnot : PySem.W.exmOne K (.ref A.C_NoKnot) (.ref A.C_NoKnot) = some true
  x_NoShare : PySem.W.excIn K A.C_NoShare [.type "ValueError", .type "Exception", .type "BaseException", .type "object"] "ValueError.__new__" = true
  kp_NoShare : PySem.W.keepIn K (.ref A.C_NoShare) = true
  b_NoShare : PySem.W.subIn K (.ref A.C_NoShare) (.type "BaseException") = some true
  t_NoShare : PySem.W.typeIn K (.ref A.C_NoShare) = some (.type "type")
  e_NoShare : PySem.W.exmOne K (.ref A.C_NoShare) (.ref A.C_NoShare) = some true
  x_NoStanding : PySem.W.excIn K A.C_NoStanding [.type "ValueError", .type "Exception", .type "BaseException", .type "object"] "ValueError.__new__" = true
  kp_NoStanding : PySem.W.keepIn K (.ref A.C_NoStanding) = true
  b_NoStanding : PySem.W.subIn K (.ref A.C_NoStanding) (.type "BaseException") = some true
  t_NoStanding : PySem.W.typeIn K (.ref A.C_NoStanding) = some (.type "type")
  e_NoStanding : PySem.W.exmOne K (.ref A.C_NoStanding) (.ref A.C_NoStanding) = some true
  z_abs : mg "abs" = none
  z_bool : mg "bool" = none
  z_enumerate : mg "enumerate" = none
  z_int : mg "int" = none
  z_isinstance : mg "isinstance" = none
  z_len : mg "len" = none
  z_range : mg "range" = none
  z_set : mg "set" = none
  z_sorted : mg "sorted" = none
  z_sum : mg "sum" = none
  z_tuple : mg "tuple" = none
  c_MOST_EVENTS : mg "MOST_EVENTS" = some (.int 30 A.t_MOST_EVENTS)
  c_MOST_POINTS : mg "MOST_POINTS" = some (.int 400 A.t_MOST_POINTS)
  c_MOST_STANDINGS : mg "MOST_STANDINGS" = some (.int 12 A.t_MOST_STANDINGS)
  c_MOST_TRIES : mg "MOST_TRIES" = some (.int 40 A.t_MOST_TRIES)
  m_gcd : mg "gcd" = some (.builtin "math.gcd")
theorem sc_is_whole : FnScope ["thing"] ["thing"] (defScope s_is_whole) := ⟨rfl, rfl, rfl, by decide +kernel, rfl, by decide +kernel, by decide +kernel⟩
theorem sc_lift_of : FnScope ["share", "tries", "points"] ["share", "tries", "points"] (defScope s_lift_of) := ⟨rfl, rfl, rfl, by decide +kernel, rfl, by decide +kernel, by decide +kernel⟩
theorem sc_steps : FnScope ["machine", "side", "far_side", "_", "steps", "event"] ["machine", "side", "far_side"] (defScope s_steps) := ⟨rfl, rfl, rfl, by decide +kernel, rfl, by decide +kernel, by decide +kernel⟩
theorem sc_spread : FnScope ["steps", "start", "found", "waiting", "here", "standing"] ["steps", "start"] (defScope s_spread) := ⟨rfl, rfl, rfl, by decide +kernel, rfl, by decide +kernel, by decide +kernel⟩
theorem sc_inner_events : FnScope ["machine", "knot", "number", "event"] ["machine", "knot"] (defScope s_inner_events) := ⟨rfl, rfl, rfl, by decide +kernel, rfl, by decide +kernel, by decide +kernel⟩
theorem sc_total : FnScope ["machine", "row", "number", "tries", "points"] ["machine", "row"] (defScope s_total) := ⟨rfl, rfl, rfl, by decide +kernel, rfl, by decide +kernel, by decide +kernel⟩
theorem sc_ways : FnScope ["machine", "numbers", "start", "found", "waiting", "here", "number", "before", "after", "tries", "points"] ["machine", "numbers", "start"] (defScope s_ways) := ⟨rfl, rfl, rfl, by decide +kernel, rfl, by decide +kernel, by decide +kernel⟩
theorem sc_without_tries : FnScope ["pair", "other", "many"] ["pair", "other"] (defScope s_without_tries) := ⟨rfl, rfl, rfl, by decide +kernel, rfl, by decide +kernel, by decide +kernel⟩
theorem sc_law_pot : FnScope ["script", "item", "cells", "greats", "smalls"] ["script"] (defScope s_law_pot) := ⟨rfl, rfl, rfl, by decide +kernel, rfl, by decide +kernel, by decide +kernel⟩
theorem sc_law_draw : FnScope ["pot", "many", "turn", "number", "seed"] ["pot", "many"] (defScope s_law_draw) := ⟨rfl, rfl, rfl, by decide +kernel, rfl, by decide +kernel, by decide +kernel⟩
theorem sc_law_gcd : FnScope ["one", "other", "turn"] ["one", "other"] (defScope s_law_gcd) := ⟨rfl, rfl, rfl, by decide +kernel, rfl, by decide +kernel, by decide +kernel⟩
theorem sc_law_out : FnScope ["parts", "standing", "number"] ["parts", "standing"] (defScope s_law_out) := ⟨rfl, rfl, rfl, by decide +kernel, rfl, by decide +kernel, by decide +kernel⟩
theorem sc_is_between : FnScope ["thing", "low", "high"] ["thing", "low", "high"] (defScope s_is_between) := ⟨rfl, rfl, rfl, by decide +kernel, rfl, by decide +kernel, by decide +kernel⟩
theorem sc_is_pair : FnScope ["thing"] ["thing"] (defScope s_is_pair) := ⟨rfl, rfl, rfl, by decide +kernel, rfl, by decide +kernel, by decide +kernel⟩
theorem sc_reached : FnScope ["machine"] ["machine"] (defScope s_reached) := ⟨rfl, rfl, rfl, by decide +kernel, rfl, by decide +kernel, by decide +kernel⟩
theorem sc_row_lift : FnScope ["machine", "share", "row", "tries", "points"] ["machine", "share", "row"] (defScope s_row_lift) := ⟨rfl, rfl, rfl, by decide +kernel, rfl, by decide +kernel, by decide +kernel⟩
theorem sc_round_pairs : FnScope ["machine", "numbers", "start", "found", "standing", "sums", "pairs", "number", "before", "after", "tries", "points"] ["machine", "numbers", "start"] (defScope s_round_pairs) := ⟨rfl, rfl, rfl, by decide +kernel, rfl, by decide +kernel, by decide +kernel⟩
theorem sc_law_low : FnScope ["top", "bottom", "part"] ["top", "bottom"] (defScope s_law_low) := ⟨rfl, rfl, rfl, by decide +kernel, rfl, by decide +kernel, by decide +kernel⟩
theorem sc_law_reached : FnScope ["parts", "found", "at", "number"] ["parts"] (defScope s_law_reached) := ⟨rfl, rfl, rfl, by decide +kernel, rfl, by decide +kernel, by decide +kernel⟩
theorem sc_law_leads : FnScope ["parts", "start", "found", "at", "number"] ["parts", "start"] (defScope s_law_leads) := ⟨rfl, rfl, rfl, by decide +kernel, rfl, by decide +kernel, by decide +kernel⟩
theorem sc_is_share : FnScope ["thing"] ["thing"] (defScope s_is_share) := ⟨rfl, rfl, rfl, by decide +kernel, rfl, by decide +kernel, by decide +kernel⟩
theorem sc_knots : FnScope ["machine", "forth", "back", "found", "placed", "standing", "leading", "other", "knot"] ["machine"] (defScope s_knots) := ⟨rfl, rfl, rfl, by decide +kernel, rfl, by decide +kernel, by decide +kernel⟩
theorem sc_are_counts : FnScope ["tries", "points"] ["tries", "points"] (defScope s_are_counts) := ⟨rfl, rfl, rfl, by decide +kernel, rfl, by decide +kernel, by decide +kernel⟩
theorem sc_has_event : FnScope ["machine", "thing"] ["machine", "thing"] (defScope s_has_event) := ⟨rfl, rfl, rfl, by decide +kernel, rfl, by decide +kernel, by decide +kernel⟩
theorem sc_net_of : FnScope ["machine", "numbers", "start", "first", "rest", "pair", "points", "tries"] ["machine", "numbers", "start"] (defScope s_net_of) := ⟨rfl, rfl, rfl, by decide +kernel, rfl, by decide +kernel, by decide +kernel⟩
theorem sc_law_share : FnScope ["pot", "most", "bottom"] ["pot", "most"] (defScope s_law_share) := ⟨rfl, rfl, rfl, by decide +kernel, rfl, by decide +kernel, by decide +kernel⟩
theorem sc_check_share : FnScope ["thing"] ["thing"] (defScope s_check_share) := ⟨rfl, rfl, rfl, by decide +kernel, rfl, by decide +kernel, by decide +kernel⟩
theorem sc_knot_of : FnScope ["machine", "thing", "knot"] ["machine", "thing"] (defScope s_knot_of) := ⟨rfl, rfl, rfl, by decide +kernel, rfl, by decide +kernel, by decide +kernel⟩
theorem sc_is_event : FnScope ["thing", "standings", "before", "after", "tries", "points", "last"] ["thing", "standings"] (defScope s_is_event) := ⟨rfl, rfl, rfl, by decide +kernel, rfl, by decide +kernel, by decide +kernel⟩
theorem sc_u_net : FnScope ["machine", "knot"] ["machine", "knot"] (defScope s_u_net) := ⟨rfl, rfl, rfl, by decide +kernel, rfl, by decide +kernel, by decide +kernel⟩
theorem sc_Machine___init__ : FnScope ["self", "standings", "events", "number", "thing"] ["self", "standings", "events"] (defScope s_Machine___init__) := ⟨rfl, rfl, rfl, by decide +kernel, rfl, by decide +kernel, by decide +kernel⟩
theorem sc_lift : FnScope ["machine", "share", "event"] ["machine", "share", "event"] (defScope s_lift) := ⟨rfl, rfl, rfl, by decide +kernel, rfl, by decide +kernel, by decide +kernel⟩
theorem sc_u_measure : FnScope ["machine", "share", "knot", "divisor", "tries", "points"] ["machine", "share", "knot"] (defScope s_u_measure) := ⟨rfl, rfl, rfl, by decide +kernel, rfl, by decide +kernel, by decide +kernel⟩
theorem sc_knot : FnScope ["machine", "standing", "knot"] ["machine", "standing"] (defScope s_knot) := ⟨rfl, rfl, rfl, by decide +kernel, rfl, by decide +kernel, by decide +kernel⟩
theorem sc_measure : FnScope ["machine", "share", "standing"] ["machine", "share", "standing"] (defScope s_measure) := ⟨rfl, rfl, rfl, by decide +kernel, rfl, by decide +kernel, by decide +kernel⟩
theorem sc_lead : FnScope ["machine", "share", "one", "other", "knot", "way", "rise", "divisor"] ["machine", "share", "one", "other"] (defScope s_lead) := ⟨rfl, rfl, rfl, by decide +kernel, rfl, by decide +kernel, by decide +kernel⟩
theorem sc_net : FnScope ["machine", "standing"] ["machine", "standing"] (defScope s_net) := ⟨rfl, rfl, rfl, by decide +kernel, rfl, by decide +kernel, by decide +kernel⟩
theorem sc_law : FnScope ["script", "pot", "size", "events", "at", "before", "after", "parts", "machine", "some", "there", "share", "standing", "due", "tries", "points", "number", "step", "rest"] ["script"] (defScope s_law) := ⟨rfl, rfl, rfl, by decide +kernel, rfl, by decide +kernel, by decide +kernel⟩
def spLaw (K : PySem.W.Frag) : Sp := fun vs H Q _ => ∃ (a : Addr) (ns : List Int), vs = [.ref a] ∧ SqL K H a (ns.map V.int) ∧ ns.length ≤ 63 ∧ ∀ H', Q (.bl true) H'
end Myk33

/-! sorted of a list of tuples of ints, of any lengths (of mine) -/
namespace SrtT
open PySem PySem.Spec PyProof.Rows
/-- the order of rows of ints -/
def lexI : List Int → List Int → Bool
  | _, [] => false
  | [], _ :: _ => true
  | x :: xs, y :: ys => if x = y then lexI xs ys else decide (x < y)
theorem lexI_asym : ∀ xs ys : List Int, lexI xs ys = true → lexI ys xs = false
  | [], [], h => rfl
  | [], _ :: _, _ => rfl
  | _ :: _, [], h => by cases h
  | x :: xs, y :: ys, h => by
    have h' : (if x = y then lexI xs ys else decide (x < y)) = true := h
    show (if y = x then lexI ys xs else decide (y < x)) = false
    by_cases c : x = y
    · rw [if_pos c] at h'
      rw [if_pos c.symm]
      exact lexI_asym xs ys h'
    · rw [if_neg c] at h'
      rw [if_neg fun z => c z.symm]
      have := of_decide_eq_true h'
      exact decide_eq_false (by omega)
theorem lexI_neg : ∀ xs ys zs : List Int, lexI xs ys = false → lexI ys zs = false → lexI xs zs = false
  | xs, _, [], _, _ => by cases xs <;> rfl
  | [], [], _ :: _, _, h => by cases h
  | [], _ :: _, _ :: _, h, _ => by cases h
  | _ :: _, [], _ :: _, _, h => by cases h
  | x :: xs, y :: ys, z :: zs, h, g => by
    have h' : (if x = y then lexI xs ys else decide (x < y)) = false := h
    have g' : (if y = z then lexI ys zs else decide (y < z)) = false := g
    show (if x = z then lexI xs zs else decide (x < z)) = false
    by_cases c : x = y
    · rw [if_pos c] at h'
      by_cases d : y = z
      · rw [if_pos d] at g'
        rw [if_pos (c.trans d)]
        exact lexI_neg xs ys zs h' g'
      · rw [if_neg d] at g'
        have := of_decide_eq_false g'
        rw [if_neg (by omega)]
        exact decide_eq_false (by omega)
    · rw [if_neg c] at h'
      have h1 := of_decide_eq_false h'
      by_cases d : y = z
      · rw [if_neg (by omega)]
        exact decide_eq_false (by omega)
      · rw [if_neg d] at g'
        have h2 := of_decide_eq_false g'
        rw [if_neg (by omega)]
        exact decide_eq_false (by omega)
theorem swo {α : Type} (k : α → List Int) : SrtO.Swo fun v u => lexI (k v) (k u) := ⟨fun _ _ h => lexI_asym _ _ h, fun _ _ _ h g => lexI_neg _ _ _ g h⟩
/-- a tuple of these ints -/
def IsT (h : Heap) (v : Value) (ns : List Int) : Prop := ∃ (a : Addr) (o : Obj) (its : List Value) (n : Nat), v = .ref a ∧ h.get? a = some o ∧ o.cls = .type "tuple" ∧ o.data = .seq its.toArray n ∧ L2.Vals (ns.map L2.V.int) its
theorem IsT.kept {h h' : Heap} {v : Value} {ns : List Int} (t : IsT h v ns) (k : ∀ b o, h.get? b = some o → o.cls = .type "tuple" → h'.get? b = some o) : IsT h' v ns := by
  obtain ⟨a, o, its, n, h1, h2, h3, h4⟩ := t
  exact ⟨a, o, its, n, h1, k a o h2 h3, h3, h4⟩
section
variable {prog : Program} {w : World} {A : Around} {s : Shared}
theorem lex_run {fin : Bool} {Q : Bool → Shared → Prop} : ∀ (ns ms : List Int) (us vs : List Value) (i : Nat), L2.Vals (ns.map L2.V.int) us → L2.Vals (ms.map L2.V.int) vs → fin = decide (ns.length < ms.length) → Q (lexI ns ms) s →
    PySem.W.KatLex prog w A true fin Q (us.zip vs) i s
  | [], [], us, vs, i, hu, hv, hf, q => by
    cases hu
    cases hv
    exact PySem.W.kat_nil (by rw [hf]; exact q)
  | [], m :: ms, us, vs, i, hu, hv, hf, q => by
    cases hu
    refine PySem.W.kat_nil ?_
    rw [hf]
    exact q
  | n :: ns, [], us, vs, i, hu, hv, hf, q => by
    cases hv
    rw [List.zip_nil_right]
    refine PySem.W.kat_nil ?_
    rw [hf]
    exact q
  | n :: ns, m :: ms, us, vs, i, hu, hv, hf, q => by
    cases hu with
    | cons ru tu =>
      cases hv with
      | cons rv tv =>
        obtain ⟨t, rfl⟩ := ru
        obtain ⟨t', rfl⟩ := rv
        have q' : Q (if n = m then lexI ns ms else decide (n < m)) s := q
        refine PySem.W.kat_cons (SeqAt.EqAt.int_int n t m t' prog w _ _ (PySem.W.kat_go (fun e => ?_) (fun e => ?_)))
        · have e' : n = m := by simpa using e
          rw [if_pos e'] at q'
          exact PySem.W.kat_yes (lex_run ns ms _ _ (i + 1) tu tv (by rw [hf]; simp) q')
        · have e' : ¬ n = m := by simpa using e
          rw [if_neg e'] at q'
          refine PySem.W.kat_no ?_
          cases i with
          | zero => exact oneLt_int q'
          | succ i =>
            have z : (true && (i + 1 == 0)) = false := by simp
            rw [z]
            exact PySem.W.kat_one _ _ (PyProof.Rows.lt_int q')
theorem cmp_T {vs : List Value} {k : Value → List Int} (ht : ∀ v ∈ vs, IsT s.heap v (k v)) : SrtO.Cmp prog w A s (tuples' true) (fun p => p.1 ∈ vs) (SrtO.lt2 fun v u => lexI (k v) (k u)) := by
  intro p q hp hq
  obtain ⟨a, o, us, n, ea, ho, _, hd, ru⟩ := ht p.1 hp
  obtain ⟨b, o', ws, n', eb, ho', _, hd', rw'⟩ := ht q.1 hq
  have l1 : us.length = (k p.1).length := by rw [← ru.length, List.length_map]
  have l2 : ws.length = (k q.1).length := by rw [← rw'.length, List.length_map]
  have run : wpAny (model prog w) A (keyLt' (tuples' true) (.ref a) (.ref b)) (fun r s' => s' = s ∧ r = lexI (k p.1) (k q.1)) (fun _ _ => False) s :=
    PySem.W.kat_lt ho hd ho' hd' (lex_run (k p.1) (k q.1) us ws 0 ru rw' (by rw [List.size_toArray, List.size_toArray, l1, l2]) ⟨rfl, rfl⟩)
  rw [← ea, ← eb] at run
  exact run
theorem firstsT {h : Heap} {k : Value → List Int} : ∀ vs : List Value, (∀ v ∈ vs, IsT h v (k v) ∧ k v ≠ []) → ∃ fs : List Value, PySem.W.KatTups h vs fs ∧ fs.length = vs.length ∧ ∀ f ∈ fs, ∃ x t, f = Value.int x t
  | [], _ => ⟨[], PySem.W.KatTups.nil, rfl, fun _ h => by cases h⟩
  | v :: vs, ht => by
    obtain ⟨fs, g1, g2, g3⟩ := firstsT vs fun u hu => ht u (by simp [hu])
    obtain ⟨⟨a, o, its, n, e, ho, hc, hd, r⟩, ne⟩ := ht v (by simp)
    cases hk : k v with
    | nil => exact absurd hk ne
    | cons x xs =>
      rw [hk] at r
      cases r with
      | cons r1 r2 =>
        obtain ⟨t, rfl⟩ := r1
        subst e
        refine ⟨.int x t :: fs, PySem.W.KatTups.cons ho hc hd (by simp) g1, by simp [g2], fun f hf => ?_⟩
        rcases List.mem_cons.mp hf with e | hf
        · exact ⟨x, t, e⟩
        · exact g3 f hf
theorem sortable {a : Addr} {vs : List Value} {k : Value → List Int} (h0 : 0 < vs.length) (ht : ∀ v ∈ vs, IsT s.heap v (k v) ∧ k v ≠ []) (ha : ∀ o, s.heap.get? a = some o → o.cls ≠ .type "tuple") : SrtO.SortableO prog w A s a vs fun v u => lexI (k v) (k u) := by
  intro h' kp
  have ht' : ∀ v ∈ vs, IsT h' v (k v) ∧ k v ≠ [] := fun v hv => ⟨(ht v hv).1.kept fun b o e c => kp b o (fun z => ha o (z ▸ e) c) e, (ht v hv).2⟩
  obtain ⟨fs, g1, g2, g3⟩ := firstsT vs ht'
  refine ⟨tuples' true, fun Q E hq => PySem.W.kat_kind (T := .type "int") g1 (by omega) (fun f hf => ?_) (by rfl) ?_, cmp_T fun v hv => (ht' v hv).1⟩
  · obtain ⟨x, t, rfl⟩ := g3 f hf
    exact PySem.W.Looks.now
  · have ne : (Value.type "int" != Value.type "tuple") = true := by decide +kernel
    rw [ne]
    exact hq
end
end SrtT
namespace L2
open PySem PySem.Spec PyProof.Rows
/-- sorted of a list of tuples of ints, none of them empty: its order, and equal ones keep their turns -/
def rSortedL (K : PySem.W.Frag) : List V → Hp → VK → Prop := fun vs H Q => ∃ (a : Addr) (xs : List V) (k : V → List Int), vs = [V.ref a] ∧ SqL K H a xs ∧ (∀ x ∈ xs, ∃ t, x = V.ref t ∧ SqT K H t ((k x).map V.int) ∧ k x ≠ []) ∧
  ∀ (ys : List V) (p : Addr), SrtO.Srtd (fun x y => SrtT.lexI (k x) (k y)) ys → SrtO.Stb (fun x y => SrtT.lexI (k x) (k y)) ys xs → H p = none → Q (.ref p) (upd H p (.lst ys))
theorem cr_sortedL {X : Cx} : CallR X (.builtin "sorted") (rSortedL X.K) := by
  intro pins s σ H vs us Q I r h
  obtain ⟨a, xs, k, rfl, hs, hx, q⟩ := h
  obtain ⟨its, rv, hl, hz⟩ := I.list hs
  obtain ⟨ua, rfl, ra⟩ := vals1 r
  cases (show ua = Value.ref a from ra)
  obtain ⟨eb, er⟩ := refs_back rv fun x m => (hx x m).imp fun _ z => z.1
  refine SrtO.sorted_ord (SrtT.swo fun u => k (backV u)) hl.isList (by rw [← rv.length]; exact hz) (fun two g b hb old => ?_) fun out o1 o2 => ?_
  · refine SrtT.sortable (s := { s with heap := g }) (by omega) (fun v hv => ?_) fun o e c => ?_
    · obtain ⟨t, rfl⟩ := er v hv
      obtain ⟨t', et, hT, ne⟩ := hx (.ref t) (by rw [eb]; exact List.mem_map.mpr ⟨_, hv, rfl⟩)
      cases et
      obtain ⟨us, ru, ⟨o, ho, hc, n, hd⟩, _⟩ := I.tuple hT
      exact ⟨⟨t, o, us, n, rfl, (old _ _ ho).2, hc, hd, ru⟩, ne⟩
    · have z : some o = some _ := e.symm.trans hb
      cases z
      exact absurd (Value.type.inj c) (by decide)
  · have h3 : ∀ u ∈ out, ∃ a, u = Value.ref a := fun u hu => er u (o2.perm.mem_iff.mp hu)
    have st : SrtO.Stb (fun x y => SrtT.lexI (k x) (k y)) (out.map backV) xs := by
      rw [eb]
      exact SrtO.Stb.map (lt := fun x y => SrtT.lexI (k x) (k y)) (SrtT.swo k) backV o2
    obtain ⟨n, hn⟩ := PyProof.Rows.sortedAll_at s.heap its out.toArray
    exact ⟨.ref _, _, I.laid (t' := s.toks) (o := .lst (out.map backV)) (fun _ _ e => PyProof.Rows.sortedAll_old e) (Nat.le_succ _) ⟨by rw [st.len]; exact hz, out, n, vals_back h3, hn⟩, rfl, q _ _ (SrtO.srtd_map o1) st (I.hok.fresh (Nat.le_succ _))⟩
end L2

/-! first, *others = a list -/
namespace StarT
open PySem PySem.Spec PyProof.Rows L2 PySem.F
section
variable {prog : Program} {w : World} {A : Around} {E : Value → Shared → Prop} {s : Shared}
theorem shift {I : Addr} {fp wr : List Addr} {n : Nat} {P : Nat → Value → Prop} {St : Nat → Heap → Prop} (W : Walks prog w A I fp wr (n + 1) P St) : Walks prog w A I fp wr n (fun i => P (i + 1)) (fun i => St (i + 1)) where
  sub := W.sub
  frame := fun i h h' st hk => W.frame (i + 1) h h' st hk
  item := fun i s Q E hi st hQ => W.item (i + 1) s Q E (by omega) st hQ
  done := fun s Q E st hQ => W.done s Q E st hQ
  self := fun i s Q E st hQ => W.self (i + 1) s Q E st hQ
theorem unpackItems_star {l : Addr} {x : Value} {xs : List Value} {Q : List Value → Shared → Prop} (hh : A.handled = none) (hl : s.heap.IsList l (x :: xs).toArray) (hz : xs.length ≤ sizeLine)
    (hQ : ∀ (s' : Shared), (∀ b o, s.heap.get? b = some o → s'.heap.get? b = some o) → s.toks ≤ s'.toks → s'.gens = s.gens → s'.drawn = s.drawn → s'.os = s.os →
      Q [x, .ref s'.heap.objs.size] { s' with heap := s'.heap.push { cls := .type "list", data := .seq xs.toArray } }) :
    wpAny (model prog w) A (unpackItems (.ref l) 2 (some 1)) Q E s := by
  have hlt : l ≠ s.heap.objs.size := by obtain ⟨o, ho, _⟩ := hl; exact Nat.ne_of_lt (Heap.lt_size ho)
  unfold unpackItems
  refine wpAny_bind ?_
  unfold notIterableAtAll
  refine wpAny_bind (wpAny_specialOf hl.typeIs PySem.slot_list_iter.lookup ?_)
  refine wpAny_pure ?_
  simp only [Bool.false_eq_true, if_false]
  refine wpAny_bind (wpAny_holding (wpAny_pyIter_list hl ?_))
  have hit0 : (s.heap.push { cls := .type "list_iterator", data := .fields #[.ref l, .int 0 0] }).IsListIter s.heap.objs.size l 0 := ⟨_, Heap.get?_push_size _ rfl, rfl, rfl⟩
  have hl0 : (s.heap.push { cls := .type "list_iterator", data := .fields #[.ref l, .int 0 0] }).IsList l (x :: xs).toArray := hl.push _
  have k0 : ∀ b o, s.heap.get? b = some o → (s.heap.push { cls := .type "list_iterator", data := .fields #[.ref l, .int 0 0] }).get? b = some o := fun b o e => Heap.get?_push_of_some _ e
  generalize hH : s.heap.push { cls := .type "list_iterator", data := .fields #[.ref l, .int 0 0] } = h0 at hit0 hl0 k0 ⊢
  show wpAny _ _ (_ >>= _) _ _ _
  refine wpAny_bind (wpAny_holding ?_)
  unfold draw
  refine wpAny_bind (wpAny_pyNext_list_item hit0 hl0 (x := x) rfl fun h1 hit1 hs1 => ?_)
  refine wpAny_bind (wpAny_holding ?_)
  unfold draw
  refine wpAny_pure (wpAny_pure ?_)
  rw [if_neg (by simp)]
  have hl1 : h1.IsList l (x :: xs).toArray := hl0.extBut hs1.extBut hlt
  have W := (shift (n := xs.length) (Walks.list (prog := prog) (w := w) (A := A.in1) hh s.heap.objs.size l hlt (x :: xs).toArray)).toS
  have hI1 : s.heap.objs.size < h1.objs.size := by obtain ⟨o, ho, _⟩ := hit1; exact Heap.lt_size ho
  have hL1 : l < h1.objs.size := by obtain ⟨o, ho, _⟩ := hl1; exact Heap.lt_size ho
  refine wpAny_bind (wpAny_holding (wpAny_collect_iter (T := "list_iterator") (.inr (.inr (.inl rfl))) W (fun i s st => Heap.IsListIter.typeIs st.1) ⟨hit1, hl1⟩ (fun b hb => ?_) (by simp) (fun s' acc hm hacc => ?_) hz))
  · rcases List.mem_cons.mp hb with e | hb
    · rw [e]; exact hI1
    · rw [List.mem_singleton.mp hb]; exact hL1
  have ea : acc.toList = xs := by
    obtain ⟨h1, h2⟩ := hacc
    refine List.ext_getElem? fun j => ?_
    by_cases c : j < acc.size
    · have e1 : acc[j]? = some acc[j] := by simp [c]
      have e2 := h2 j _ e1
      simp at e2
      rw [Array.getElem?_toList, e1, ← e2]
    · rw [Array.getElem?_toList, Array.getElem?_eq_none (by omega), List.getElem?_eq_none (by omega)]
  rw [ea, if_neg (by omega)]
  have et : List.take (xs.length - (2 - 1 - 1)) xs = xs := List.take_of_length_le (by omega)
  have ed : List.drop (xs.length - (2 - 1 - 1)) xs = [] := List.drop_eq_nil_of_le (by omega)
  rw [et, ed]
  refine wpAny_bind (wpAny_newList ?_ hz)
  refine wpAny_pure ?_
  refine hQ s' (fun b o e => ?_) hm.toks hm.gens hm.drawn hm.os
  have hb : b ≠ s.heap.objs.size := Nat.ne_of_lt (Heap.lt_size e)
  exact hm.heap b o (by simpa using hb) (hs1.extBut b o hb (k0 b o e))
end
section
variable {X : Cx} {pos p2 : Pos} {k : Nat}
def gStar2 (K : PySem.W.Frag) (t1 t2 : TG) : TG := fun v σ H Q => ∃ a x xs, v = .ref a ∧ SqL K H a (x :: xs) ∧ ∀ p, H p = none → t1 x σ (upd H p (.lst xs)) fun σ1 H1 => t2 (.ref p) σ1 H1 Q
theorem pg_star2 {e1 e2 : Expr} {t1 t2 : TG} (hc : X.calm = true) (h1 : PG X e1 t1) (h2 : PG X e2 t2)
    (hA : assignEach [e1, .Starred e2 p2] X.env = [(false, assign e1 X.env), (true, assign e2 X.env)] := by rfl) : PG X (.Tuple [e1, .Starred e2 p2] k pos) (gStar2 X.K t1 t2) := by
  refine ⟨fun pins s σ H v u Q I r hw => ?_⟩
  obtain ⟨a, x, xs, e, hq, hw⟩ := hw
  subst e
  cases r
  obtain ⟨its, rv, pl, hz⟩ := I.list hq
  cases rv with
  | @cons _ _ ux uxs r rr =>
    rw [assign_Tuple]
    refine wpAny_bind (wpAny_standAt ?_)
    unfold unpack
    rw [hA]
    refine wpAny_bind (wpAny_holding ?_)
    show wpAny _ _ (unpackItems _ 2 (some 1)) _ _ _
    have lx := rr.length
    simp only [List.length_cons] at hz
    refine unpackItems_star (I.ok.hd hc) pl.isList (by omega) fun s' kp htk hg hd ho => ?_
    rw [hg, hd, ho]
    have I1 : Inv X pins σ H { s with heap := s'.heap, toks := s'.toks } := I.kept (t' := s'.toks) kp
    have hf : H s'.heap.objs.size = none := I1.hok.fresh (Nat.le_refl _)
    have I2 := I1.laid (a := s'.heap.objs.size) (o := .lst xs) (h' := s'.heap.push { cls := .type "list", data := .seq uxs.toArray }) (t' := s'.toks) (fun b u e => Heap.get?_push_of_some _ e) (Nat.le_refl _) ⟨by omega, uxs, 0, rr, Heap.get?_push_size _ rfl⟩
    refine assignInOrder_cons (thn (h1.run pins _ σ _ _ _ _ I2 r (hw _ hf)) fun _ s1 ⟨σ1, H1, I3, q1⟩ => ?_)
    exact assignInOrder_cons (thn (h2.run pins s1 σ1 H1 (.ref s'.heap.objs.size) _ _ I3 (by rfl) q1) fun _ s2 ⟨σ2, H2, I4, q2⟩ => assignInOrder_nil ⟨σ2, H2, I4, q2⟩)
theorem pg_star2K (K' : PySem.W.Frag) (hK : X.K = K') {e1 e2 : Expr} {t1 t2 : TG} (hc : X.calm = true) (h1 : PG X e1 t1) (h2 : PG X e2 t2)
    (hA : assignEach [e1, .Starred e2 p2] X.env = [(false, assign e1 X.env), (true, assign e2 X.env)] := by rfl) : PG X (.Tuple [e1, .Starred e2 p2] k pos) (gStar2 K' t1 t2) := by
  subst hK
  exact pg_star2 hc h1 h2 hA
end
end StarT
namespace My
open PySem L2 EnT
/-- a comprehension over enumerate of a tuple, with a test by the place -/
theorem lcEnT {β : Type} {K : PySem.W.Frag} {a D : Addr} {xs : List V} {g : TG} {tt : L2.TT} {te : TE} {vs : List Nat} {σ : L2.St} {H1 : Hp} {Qd : Hp → Prop} {R : Hp → V → β → Prop} (f : Nat → Bool) (e : Nat → β) (hS : SqT K H1 a xs) (hD : H1 D = none) (hl : xs.length < sizeLine)
    (mono : ∀ H H' v b, Keep H H' → R H v b → R H' v b)
    (hs : ∀ (i : Nat) (x : V) (T : Addr) (H : Hp) (Q1 : Hp → Prop) (Q2 : V → Hp → Prop), xs[i]? = some x → Same H1 H → H T = none → (f i = true → ∀ y H', Same H H' → R H' y (e i) → Q2 y H') → (f i = false → ∀ H', Same H H' → Q1 H') →
      g (.ref T) (wipe σ vs) (upd H T (.tup [.int (i : Nat), x])) fun σ2 H2 => wipe σ2 vs = wipe σ vs ∧ tt σ2 H2 fun b H3 => if b = true then te σ2 H3 Q2 else Q1 H3)
    (hd : ∀ H acc, Same H1 H → H D = some (.lst acc) → All2 (R H) acc (((List.range xs.length).filter f).map e) → Qd H) :
    ∃ W : Nat → Nat → Hp → Prop, (∃ m, W 0 m (upd H1 D (.lst []))) ∧ ∀ i m H, W i m H →
      ((Ett K a).stop i H ∧ Qd H) ∨ ((Ett K a).go i H ∧ ∃ Nx : Hp → Prop, (∀ H', Nx H' → ∃ m', m' < m ∧ W (i + 1) m' H') ∧ ∀ x H', (Ett K a).yld i H x H' → g x (wipe σ vs) H' fun σ2 H2 => wipe σ2 vs = wipe σ vs ∧ tt σ2 H2 fun b H3 =>
        if b = true then te σ2 H3 fun y H4 => ∃ acc, H4 D = some (.lst acc) ∧ acc.length < sizeLine ∧ Nx (upd H4 D (.lst (acc ++ [y]))) else Nx H3) := by
  refine ⟨fun i m H => m = xs.length - i ∧ i ≤ xs.length ∧ Same H1 H ∧ ∃ acc, H D = some (.lst acc) ∧ All2 (R H) acc (((List.range i).filter f).map e), ⟨xs.length, by simp, Nat.zero_le _, Same.new hD, [], upd_same, .nil⟩, ?_⟩
  rintro i m H ⟨rfl, hi, s1, acc, hA, al⟩
  have q := SqT.keep (Keep.of s1) hS
  by_cases hlt : i < xs.length
  · refine .inr ⟨⟨xs, xs[i], q, by simp [hlt]⟩, fun H' => Same H1 H' ∧ ∃ acc, H' D = some (.lst acc) ∧ All2 (R H') acc (((List.range (i + 1)).filter f).map e), fun H' p' => ⟨xs.length - (i + 1), by omega, rfl, hlt, p'.1, p'.2⟩, ?_⟩
    rintro v H' ⟨T, x, rfl, hT, rfl, hx⟩
    have len : acc.length < sizeLine := by
      have q1 := List.length_filter_le f (List.range i)
      have q2 := al.len
      rw [List.length_range] at q1
      rw [List.length_map] at q2
      omega
    refine hs i x T H _ _ (hx xs q) s1 hT (fun c y H2 s2 r => ⟨_, s2 _ _ hA, len, Same.chg (s1.trans s2) hD, acc ++ [y], upd_same, ?_⟩) (fun c H2 s2 => ⟨s1.trans s2, acc, s2 _ _ hA, ?_⟩)
    · have kp : Keep H2 (upd H2 D (.lst (acc ++ [y]))) := Keep.lst (s2 _ _ hA)
      have ee : ((List.range (i + 1)).filter f).map e = ((List.range i).filter f).map e ++ [e i] := by
        rw [List.range_succ, List.filter_append, List.map_append]
        simp [c]
      rw [ee]
      exact (al.imp fun v b z => mono _ _ _ _ kp (mono _ _ _ _ (Keep.of s2) z)).snoc (mono _ _ _ _ kp r)
    · have ee : ((List.range (i + 1)).filter f).map e = ((List.range i).filter f).map e := by
        rw [List.range_succ, List.filter_append, List.map_append]
        simp [c]
      rw [ee]
      exact al.imp fun v b z => mono _ _ _ _ (Keep.of s2) z
  · have e : i = xs.length := by omega
    subst e
    exact .inl ⟨⟨xs, q, by first | rfl | exact Nat.le_refl _⟩, hd H acc s1 hA al⟩
end My

namespace Myk33
open PySem L2 My EnT Pl
section
-- Same from behind
local macro_rules | `(tactic| nest_cls) => `(tactic| first
  | exact Same.refl _
  | assumption
  | (refine Same.back (Same.new (by assumption)) ?_; nest_cls)
  | (refine Same.back (by assumption) ?_; nest_cls)
  | (refine Same.chg ?_ (by first | assumption | exact Free.flip (by assumption) (by nest_cls)); nest_cls))
-- Keep from behind
local macro_rules | `(tactic| mem_news) => `(tactic| first
  | exact Keep.refl _
  | assumption
  | (refine Keep.back (Keep.new (by assumption)) ?_; mem_news)
  | (refine Keep.back (Keep.lst (by assumption)) ?_; mem_news)
  | (refine Keep.back (Keep.lst (by kd_adr)) ?_; mem_news)
  | (refine Keep.back (Keep.of (by assumption)) ?_; mem_news)
  | (refine Keep.back (Keep.ofBut (by assumption) (by kba_ints)) ?_; mem_news)
  | (refine Keep.back (by assumption) ?_; mem_news))
-- the pot
local macro_rules | `(tactic| kba_ints) => `(tactic| first
  | assumption
  | (refine Pt.At.back (Same.new (by assumption)) ?_; kba_ints)
  | (refine Pt.At.back (by assumption) ?_; kba_ints)
  | exact Pt.At.flip (by assumption) (by nest_cls))
-- a fact of a heap, from behind
local macro_rules | `(tactic| kd_adr) => `(tactic| first
  | ((with_reducible show IT _ _ _ _); first
    | assumption
    | exact IT.new2
    | exact IT.new1
    | exact IT.new3
    | exact IT.new4
    | exact IT.flip (by assumption) (by mem_news)
    | exact IT.flip IT.new2 (by mem_news)
    | exact IT.flip IT.new3 (by mem_news)
    | exact IT.flip IT.new1 (by mem_news)
    | exact IT.flip IT.new4 (by mem_news))
  | ((with_reducible show ITs _ _ _ _); first
    | assumption
    | exact ITs.flip (by assumption) (by mem_news))
  | ((with_reducible show SqT _ _ _ _); first
    | assumption
    | exact SqT.lt upd_same
    | exact SqT.lt (by assumption)
    | exact IT.sq (by assumption)
    | exact SqT.flip (by assumption) (by mem_news)
    | exact SqT.flip (SqT.lt (by assumption)) (by mem_news)
    | exact SqT.flip (IT.sq (by assumption)) (by mem_news)
    | exact SqT.flip (SqT.lt upd_same) (by mem_news))
  | ((with_reducible show SqL _ _ _ _); first
    | assumption
    | exact SqL.lt upd_same
    | exact SqL.lt (by assumption)
    | exact SqL.flip (by assumption) (by nest_cls)
    | exact SqL.flip (SqL.lt (by assumption)) (by nest_cls)
    | exact SqL.flip (SqL.lt upd_same) (by nest_cls))
  | ((with_reducible show Parts _ _ _ _ _); first | assumption | exact Parts.flip (by assumption) (by mem_news))
  | ((with_reducible show MachAt _ _ _ _ _ _); first | assumption | exact MachAt.flip (by assumption) (by mem_news))
  | ((with_reducible show ShIs _ _ _ _ _); first | assumption | exact ShIs.flip (by assumption) (by mem_news))
  | ((with_reducible show RunIs _ _ _ _ _); first | assumption | exact RunIs.flip (by assumption) (by mem_news))
  | ((with_reducible show LTs _ _ _ _); first | assumption | exact LTs.flip (by assumption) (by nest_cls))
  | ((with_reducible show Pt.At _ _); kba_ints)
  | ((with_reducible show Same _ _); nest_cls)
  | ((with_reducible show Keep _ _); mem_news)
  | ((with_reducible show (_ : Hp) _ = some _); first
    | assumption
    | exact upd_same
    | exact At.flip (by assumption) (by nest_cls)
    | exact At.flip upd_same (by nest_cls)))
-- a side condition
local macro_rules | `(tactic| leaf_len) => `(tactic| first
  | (with_reducible rfl)
  | (with_reducible assumption)
  | kd_adr
  | omega
  | ((with_reducible show (_ : Nat) ≤ sizeLine); first | (show 1 ≤ sizeLine; decide) | (show 2 ≤ sizeLine; decide) | (show 3 ≤ sizeLine; decide) | (show 4 ≤ sizeLine; decide) | (show 5 ≤ sizeLine; decide) | (show 6 ≤ sizeLine; decide) | (show 7 ≤ sizeLine; decide) | (show 8 ≤ sizeLine; decide) | (show 0 ≤ sizeLine; decide))
  | exact rfl
  | ((with_reducible show _ ∨ _); first | exact Or.inl (by leaf_len) | exact Or.inr (by leaf_len))
  | exact List.cons_ne_nil _ _
  | exact mf_ev _ _
  | exact mf_st _ _
  | exact flat_ints _
  | ((with_reducible show tyV _ _ _ _); exact Or.inl ⟨rfl, _, by kd_adr⟩)
  | ((with_reducible show ClsV _ _); exact ClsV.ty _)
  | ((with_reducible show CDivW _ _); exact CDivW.of (by omega) (by omega))
  | (apply Exists.intro (α := List V); kd_adr)
  | assumption
  | ((with_reducible show small _); unfold small; omega)
  | ((with_reducible show CPow _ _); exact ⟨by decide, by decide, by decide⟩)
  | ((with_reducible show CMul _ _); first | exact CMul.l (by omega) (by omega) | exact CMul.r (by omega) (by omega))
  | ((with_reducible show CMulW _ _); exact CMulW.of (by omega) (by omega))
  | ((with_reducible show TyX _ _ _ _); first | exact TyX.base (.int _) | exact TyX.base (.str _) | exact TyX.base (.bl _) | exact tyT (by kd_adr) | exact TyX.base (.lst (by kd_adr)))
  | ((with_reducible show PySem.W.kitOne _ _ _ = some _); first | exact kit_ty (r := true) (by decide +kernel) | exact kit_ty (r := false) (by decide +kernel))
  | decide)
-- a step
local macro_rules | `(tactic| l_ints) => `(tactic| first
  | (intro (p : Addr) (hp : (_ : Hp) p = none))
  | (intro (H' : Hp) (s : Same _ H'))
  | (intro (p : Addr) (H' : Hp) (s : Same _ H'))
  | (intro (h : IT _ _ _ _))
  | (intro (h : SqT _ _ _ _))
  | (intro (h : (_ : Hp) _ = none))
  | (intro (h : (_ : Hp) _ = some _))
  | ((with_reducible show rCatA _ _ _ _ _); refine catJ (by kd_adr) (by kd_adr) (by leaf_len) ?_)
  | ((with_reducible show rSlA _ _ none (some _) _ _); refine slTake (by kd_adr) (by omega) ?_)
  | with_reducible refine tC_i ?_
  | with_reducible refine tNil_i ?_
  | with_reducible refine tCons_i ?_
  | with_reducible refine tCall_i ?_
  | with_reducible refine tOp_i ?_
  | ((with_reducible refine tVar_i ?_ ?_); · exact rfl)
  | with_reducible refine iteT ?_
  | with_reducible refine iteF ?_
  | (with_reducible refine iteNEq ?_ ?_; · assumption)
  | (with_reducible refine iteNb ?_ ?_; · assumption)
  | (with_reducible refine iteTb ?_ ?_; · assumption)
  | (with_reducible refine iteFb ?_ ?_; · assumption)
  | ((with_reducible refine iteFb ?_ ?_); · exact rfl)
  | ((with_reducible refine iteTb ?_ ?_); · exact rfl)
  | with_reducible refine iteST rfl ?_
  | with_reducible refine iteSF (by decide +kernel) ?_
  | (refine And.intro ?_ ?_; · leaf_len)
  | apply Exists.intro (α := V)
  | apply Exists.intro (α := Int)
  | apply Exists.intro (α := Addr)
  | apply Exists.intro (α := List V)
  | apply Exists.intro (α := Str)
  | apply Exists.intro (α := Nat)
  | apply Exists.intro (α := Bool)
  | apply Exists.intro (α := Value)
  | apply Exists.intro (α := List Int)
  | apply Exists.intro (α := List (List Int))
  | apply Exists.intro (α := List Bool)
  | apply Exists.intro (α := List (Str × V))
  | apply Exists.intro (α := Option (List (Option Int)))
  | apply Exists.intro (α := Option Int)
  | apply Exists.intro (α := Pt)
  | refine Or.inr ⟨_, rfl, ?_⟩
  | apply Or.inl)

variable {P : Program} {w : World} {K : PySem.W.Frag} {mg : Str → Option Value} {base : Heap} {A : Ad}
/-- is_whole of an int -/
def spWholeI : Sp := fun vs H Q _ => ∃ n : Int, vs = [.int n] ∧ Q (.bl true) H
def spBetweenI : Sp := fun vs H Q _ => ∃ n l h : Int, vs = [.int n, .int l, .int h] ∧ Q (.bl (decide (l ≤ n ∧ n ≤ h))) H
theorem ok_is_whole (T : Txt K mg A) : FnOk P w K mg base CX0 1 A.f_is_whole A.d_is_whole ["thing"] (spWholeI) := by
  refine T.F_is_whole.ok sc_is_whole (fun vs H Q E h => ?_) (fun cdv A1 outer s H vs Q E hr h => ?_)
  · obtain ⟨n, rfl, _⟩ := h
    rfl
  · obtain ⟨n, rfl, q⟩ := h
    refine ⟨_, (pss_one (ps_ret (pe_and (pe_callB (call_isK K rfl) (by rfl) T.z_isinstance (by decide +kernel) (pa_cons (pv 0) (pa_cons (pe_bltn (v := .ty "int") (u := .type "int") rfl T.z_int (by decide +kernel) rfl) pa_nil))) (pe_one (pe_not (pe_callB (call_isK K rfl) (by rfl) T.z_isinstance (by decide +kernel) (pa_cons (pv 0) (pa_cons (pe_bltn (v := .ty "bool") (u := .type "bool") rfl T.z_bool (by decide +kernel) rfl) pa_nil)))))))), ?_⟩
    refine ⟨_, rfl, _, _, _, _, _, rfl, .ty _, .base (.int _), kit_ty (by decide +kernel), true, rfl, ?_⟩
    refine iteT ⟨_, rfl, _, _, _, _, _, rfl, .ty _, .base (.int _), kit_ty (r := false) (by decide +kernel), false, rfl, q⟩
theorem ok_is_between (T : Txt K mg A) : FnOk P w K mg base CX0 2 A.f_is_between A.d_is_between ["thing", "low", "high"] (spBetweenI) := by
  refine T.F_is_between.ok sc_is_between (fun vs H Q E h => ?_) (fun cdv A1 outer s H vs Q E hr h => ?_)
  · obtain ⟨n, l, h, rfl, _⟩ := h
    rfl
  · obtain ⟨n, l, hh, rfl, q⟩ := h
    refine ⟨_, (pss_one (ps_ret (pe_and (pe_call (ok_is_whole T) (hr.mono (by decide)) rfl T.m_is_whole T.F_is_whole.kp T.B_is_whole .nil pass0 (pa_cons (pv 0) pa_nil)) (pe_one (pe_chain op_le op_le (pv 1) (pv 0) (pv 2)))))), ?_⟩
    refine ⟨_, rfl, n, rfl, true, rfl, iteT ?_⟩
    refine ⟨_, rfl, _, rfl, _, _, rfl, rfl, _, rfl, ?_⟩
    by_cases h1 : l ≤ n
    · rw [decide_eq_true h1]
      refine iteT ⟨_, rfl, _, _, rfl, rfl, ?_⟩
      have e : decide (l ≤ n ∧ n ≤ hh) = decide (n ≤ hh) := by simp [h1]
      show Q (.bl (decide (n ≤ hh))) H
      rw [← e]
      exact q
    · rw [decide_eq_false h1]
      refine iteF ?_
      have e : decide (l ≤ n ∧ n ≤ hh) = false := by simp [h1]
      show Q (.bl false) H
      rw [← e]
      exact q
theorem cut63 {ns : List Int} (h : ns.length ≤ 63) : cutV (ns.map V.int) none (some 63) = ns.map V.int := by
  unfold cutV
  have e : HT.sIx (ns.map V.int).length (ns.map V.int).length (some 63) = (ns.map V.int).length := by
    show (if (63 : Int) < 0 then ((63 : Int) + ((ns.map V.int).length : Int)).toNat else min (63 : Int).toNat (ns.map V.int).length) = _
    rw [if_neg (by decide), List.length_map]
    omega
  rw [e, HT.sIx_none, List.drop_zero, Nat.sub_zero, List.take_length]
theorem ok_law_pot (T : Txt K mg A) : FnOk P w K mg base CX0 1 A.f_law_pot A.d_law_pot ["script"] (spPot K) := by
  refine T.F_law_pot.ok sc_law_pot (fun vs H Q E h => ?_) (fun cdv A1 outer s H vs Q E hr h => ?_)
  · obtain ⟨a, ns, rfl, _⟩ := h
    rfl
  · obtain ⟨a, ns, rfl, hS, hlen, k⟩ := h
    have lim : ns.length < sizeLine := Nat.lt_of_le_of_lt hlen (by decide)
    have e18 : CPow 10 18 := by refine ⟨by decide, by decide, by decide⟩
    refine ⟨_, (pss_cons (ps_setLc (i := 2) (own := [("item", 1)]) rfl sc_law_pot.nd rfl rfl (sw_true rfl rfl rfl (by decide +kernel)) (pi_list (pe_slice (sl_listK K rfl) (pv 0) po_none (po_some pe_int))) (blkOk_by (N := ["script", "item", "cells", "greats", "smalls"]) (sc := defScope s_law_pot) (by decide +kernel)) (fun _ _ _ _ _ => by exact (pg_name (i := 1) sc_law_pot.nd rfl (Or.inl rfl))) (fun _ _ _ _ _ => by exact pts_nil) (fun _ _ _ _ _ => by exact (pe_callTy call_int1 (by rfl) T.z_int (by decide +kernel) (pa_cons (pv 1) pa_nil))))
      (pss_cons (ps_setLc (i := 3) (own := [("item", 1)]) rfl sc_law_pot.nd rfl rfl (sw_true rfl rfl rfl (by decide +kernel)) (pi_list (pv 2)) (blkOk_by (N := ["script", "item", "cells", "greats", "smalls"]) (sc := defScope s_law_pot) (by decide +kernel)) (fun _ _ _ _ _ => by exact (pg_name (i := 1) sc_law_pot.nd rfl (Or.inl rfl))) (fun _ _ _ _ _ => by exact (pts_one (pt_cmpR op_ge (pe_callB call_abs (by rfl) T.z_abs (by decide +kernel) (pa_cons (pv 1) pa_nil)) (pe_op op_pow pe_int pe_int) (nomark _)))) (fun _ _ _ _ _ => by exact (pe_callB call_abs (by rfl) T.z_abs (by decide +kernel) (pa_cons (pv 1) pa_nil))))
      (pss_cons (ps_set (i := 4) sc_law_pot.nd rfl (Or.inl rfl) (pe_op op_cat (pe_lc (own := [("item", 1)]) rfl sc_law_pot.nd (pi_list (pv 2)) (blkOk_by (N := ["script", "item", "cells", "greats", "smalls"]) (sc := defScope s_law_pot) (by decide +kernel)) (fun _ _ _ _ _ => by exact (pg_name (i := 1) sc_law_pot.nd rfl (Or.inl rfl))) (fun _ _ _ _ _ => by exact (pts_one (pt_cmpR op_lt (pe_callB call_abs (by rfl) T.z_abs (by decide +kernel) (pa_cons (pv 1) pa_nil)) (pe_op op_pow pe_int pe_int) (nomark _)))) (fun _ _ _ _ _ => by exact (pe_op op_mod (pe_callTy call_int1 (by rfl) T.z_int (by decide +kernel) (pa_cons (pv 1) pa_nil)) pe_int))) (pe_lst (pa_cons (pe_op op_add (pe_callB (call_lenK K rfl) (by rfl) T.z_len (by decide +kernel) (pa_cons (pv 2) pa_nil)) pe_int) pa_nil))))
      (pss_one (ps_ret (pe_lst (pa_cons (pv 3) (pa_cons (pv 4) (pa_cons pe_int (pa_cons (pe_op op_mod (pe_callTy call_int1 (by rfl) T.z_int (by decide +kernel) (pa_cons (pe_callB (cr_sumK K rfl rfl) (by rfl) T.z_sum (by decide +kernel) (pa_cons (pv 4) pa_nil)) pa_nil)) pe_int) pa_nil)))))))))), ?_⟩
    refine ⟨_, rfl, _, rfl, a, _, rfl, hS, fun p hp => ?_⟩
    rw [cut63 hlen]
    refine ⟨p, rfl, ⟨_, SqL.lt upd_same⟩, fun D hD => ?_⟩
    refine lcI (K := K) (ns := ns) (fun _ => true) (fun n => n) (SqL.lt upd_same) hD lim (fun n H2 Q1 Q2 _ h1 _ => ⟨rfl, _, rfl, .inl ⟨n, rfl, h1 rfl⟩⟩) ?_
    have el : List.map (fun n => n) (List.filter (fun _ => true) ns) = ns := by simp
    rw [el]
    have s1 : Same H (upd (upd H p (.lst (ns.map V.int))) D (.lst (ns.map V.int))) := (Same.new hp).trans (Same.new hD)
    have hD1 := upd_same (H := upd H p (.lst (ns.map V.int))) (a := D) (o := .lst (ns.map V.int))
    generalize upd (upd H p (.lst (ns.map V.int))) D (.lst (ns.map V.int)) = H1 at s1 hD1 ⊢
    -- greats
    refine ⟨_, rfl, D, rfl, ⟨_, SqL.lt hD1⟩, fun G hG => ?_⟩
    refine lcI (K := K) (ns := ns) (fun n => decide ((10 : Int) ^ 18 ≤ (if n < 0 then -n else n))) (fun n => if n < 0 then -n else n) (SqL.lt hD1) hG lim (fun n H2 Q1 Q2 _ h1 h2 => ⟨rfl, ?_⟩) ?_
    · refine ⟨_, rfl, n, rfl, _, _, rfl, rfl, e18, _, _, rfl, rfl, _, rfl, ?_⟩
      by_cases c : (10 : Int) ^ 18 ≤ (if n < 0 then -n else n)
      · rw [show (10 : Int) ^ (18 : Int).toNat = 10 ^ 18 from rfl, decide_eq_true c]
        exact iteT ⟨_, rfl, n, rfl, h1 (decide_eq_true c)⟩
      · rw [show (10 : Int) ^ (18 : Int).toNat = 10 ^ 18 from rfl, decide_eq_false c]
        exact iteF (h2 (decide_eq_false c))
    generalize List.map (fun n => if n < 0 then -n else n) (List.filter (fun n => decide ((10 : Int) ^ 18 ≤ (if n < 0 then -n else n))) ns) = gs
    have s2 : Same H (upd H1 G (.lst (gs.map V.int))) := s1.trans (Same.new hG)
    have hD2 : upd H1 G (.lst (gs.map V.int)) D = some (.lst (ns.map V.int)) := Same.new hG _ _ hD1
    have hG2 := upd_same (H := H1) (a := G) (o := .lst (gs.map V.int))
    generalize upd H1 G (.lst (gs.map V.int)) = H2 at s2 hD2 hG2 ⊢
    -- smalls
    refine ⟨_, rfl, D, rfl, ⟨_, SqL.lt hD2⟩, fun S hS2 => ?_⟩
    refine lcI (K := K) (ns := ns) (fun n => decide ((if n < 0 then -n else n) < (10 : Int) ^ 18)) (fun n => n % 1000000007) (SqL.lt hD2) hS2 lim (fun n H3 Q1 Q2 _ h1 h2 => ⟨rfl, ?_⟩) ?_
    · refine ⟨_, rfl, n, rfl, _, _, rfl, rfl, e18, _, _, rfl, rfl, _, rfl, ?_⟩
      by_cases c : (if n < 0 then -n else n) < (10 : Int) ^ 18
      · rw [show (10 : Int) ^ (18 : Int).toNat = 10 ^ 18 from rfl, decide_eq_true c]
        exact iteT ⟨_, rfl, .inl ⟨n, rfl, _, _, rfl, rfl, (by show (0 : Int) < 1000000007; decide), h1 (decide_eq_true c)⟩⟩
      · rw [show (10 : Int) ^ (18 : Int).toNat = 10 ^ 18 from rfl, decide_eq_false c]
        exact iteF (h2 (decide_eq_false c))
    have lss : (List.map (fun n => n % 1000000007) (List.filter (fun n => decide ((if n < 0 then -n else n) < (10 : Int) ^ 18)) ns)).length ≤ 63 := by
      rw [List.length_map]
      exact Nat.le_trans (List.length_filter_le _ _) hlen
    generalize List.map (fun n => n % 1000000007) (List.filter (fun n => decide ((if n < 0 then -n else n) < (10 : Int) ^ 18)) ns) = ss at lss ⊢
    refine ⟨_, rfl, D, _, rfl, .inl (SqL.lt (Same.new hS2 _ _ hD2)), _, _, rfl, rfl, by show 1 ≤ sizeLine; decide, fun L hL => ?_⟩
    dsimp only
    have em : ss.map V.int ++ [V.int ((List.map V.int ns).length + 1)] = (ss ++ [(((List.map V.int ns).length : Nat) : Int) + 1]).map V.int := by simp
    refine ⟨S, L, _, _, rfl, rfl, Same.new hL _ _ upd_same, upd_same, ?_, fun M hM => ?_⟩
    · rw [List.length_map]
      show ss.length + 1 ≤ sizeLine
      exact Nat.le_trans (Nat.succ_le_succ lss) (by decide)
    have s3 := ((Same.new hS2).trans (Same.new hL)).trans (Same.new (o := .lst (ss.map V.int ++ [V.int ((List.map V.int ns).length + 1)])) hM)
    have nGM : G ≠ M := ne_of_none (((Same.new hS2).trans (Same.new hL)) _ _ hG2) hM
    rw [em] at s3 ⊢
    have hM1 := upd_same (H := upd (upd H2 S (.lst (ss.map V.int))) L (.lst [V.int ((List.map V.int ns).length + 1)])) (a := M) (o := .lst ((ss ++ [(((List.map V.int ns).length : Nat) : Int) + 1]).map V.int))
    refine ⟨_, rfl, _, rfl, _, rfl, M, _, rfl, SqL.lt hM1, .inl ⟨_, rfl, _, _, rfl, rfl, (by show (0 : Int) < 999983; decide), (by show 4 ≤ sizeLine; decide), fun R hR => ?_⟩⟩
    have s4 := Same.new (o := .lst [.ref G, .ref M, .int 0, .int ((ss ++ [(((List.map V.int ns).length : Nat) : Int) + 1]).sum % 999983)]) hR
    refine k ⟨R, G, M⟩ _ ⟨nGM, gs, ss ++ [(((List.map V.int ns).length : Nat) : Int) + 1], 0, _, upd_same, s4 _ _ (s3 _ _ hG2), s4 _ _ hM1, by simp⟩ ((s2.trans s3).trans s4) ((s2.trans s3).free hR)
theorem cm_l {i j : Int} (h0 : -(2 ^ 64) < i) (h1 : i < 2 ^ 64) : CMul i j := .inl ⟨h0, h1⟩
theorem cm_r {i j : Int} (h0 : -(2 ^ 64) < j) (h1 : j < 2 ^ 64) : CMul i j := .inr ⟨h0, h1⟩
theorem div_small {i j : Int} (h : 0 < j) (hj : small j) : CDivW i j := wide_div (b := 200) h hj (by decide) (by decide)
theorem small_of {n : Int} (h : n.natAbs < 2 ^ 64) : small n := Nat.lt_of_lt_of_le h (Nat.pow_le_pow_right (by decide) (by decide))
theorem ix0 (x : Int) (l : List Int) : ixN (List.map V.int (x :: l)).length 0 = some 0 := by
  unfold ixN
  rw [if_pos (by decide), if_pos (by simp <;> omega)]
  rfl
theorem ok_law_draw (T : Txt K mg A) : FnOk P w K mg base CX0 1 A.f_law_draw A.d_law_draw ["pot", "many"] (spDraw) := by
  refine T.F_law_draw.ok sc_law_draw (fun vs H Q E h => ?_) (fun cdv A1 outer s H vs Q E hr h => ?_)
  · obtain ⟨p, many, rfl, _⟩ := h
    rfl
  · obtain ⟨p, many, rfl, ⟨ngs, gs, ss, t, n, hA, hG, hS, hne⟩, hm, hsm, k⟩ := h
    have nag : p.a ≠ p.g := fun z => by
      rw [z, hG] at hA
      cases gs <;> simp at hA
    have nas : p.a ≠ p.s := fun z => by
      rw [z, hS] at hA
      cases ss <;> simp at hA
    refine ⟨_, (pss_cons (ps_set (i := 2) sc_law_draw.nd rfl (Or.inl rfl) (pe_ix (ix_listK K rfl) (pv 0) pe_int (fun _ _ => rfl)))
      (pss_cons (ps_asg (pe_op op_add (pv 2) pe_int) (pg_sub (pv 0) pe_int set_list))
      (pss_cons (ps_if (pt_cmpR op_gt (pe_callB (call_lenK K rfl) (by rfl) T.z_len (by decide +kernel) (pa_cons (pe_ix (ix_listK K rfl) (pv 0) pe_int (fun _ _ => rfl)) pa_nil)) pe_int (nomark _)) (pss_cons (ps_set (i := 3) sc_law_draw.nd rfl (Or.inl rfl) (pe_ix (ix_listK K rfl) (pe_ix (ix_listK K rfl) (pv 0) pe_int (fun _ _ => rfl)) pe_int (fun _ _ => rfl)))
      (pss_cons (ps_asg (pe_op op_fdivW (pv 3) (pv 1)) (pg_sub (pe_ix (ix_listK K rfl) (pv 0) pe_int (fun _ _ => rfl)) pe_int set_list))
      (pss_cons (ps_if (pt_cmpR op_lt (pv 3) (pv 1) (nomark _)) (pss_one (ps_expr (pe_bm PySem.F.plainAttrs_list PySem.F.slot_list_pop PySem.F.type_list_pop mt_popAt (pe_ix (ix_listK K rfl) (pv 0) pe_int (fun _ _ => rfl)) (pa_cons pe_int pa_nil)))) pss_nil)
      (pss_one (ps_ret (pe_op op_mod (pe_callTy call_int1 (by rfl) T.z_int (by decide +kernel) (pa_cons (pv 3) pa_nil)) (pv 1))))))) pss_nil)
      (pss_cons (ps_set (i := 4) sc_law_draw.nd rfl (Or.inl rfl) (pe_op op_add (pe_op op_add (pe_op op_mul (pe_ix (ix_listK K rfl) (pe_ix (ix_listK K rfl) (pv 0) pe_int (fun _ _ => rfl)) (pe_op op_mod (pe_callTy call_int1 (by rfl) T.z_int (by decide +kernel) (pa_cons (pv 2) pa_nil)) (pe_callB (call_lenK K rfl) (by rfl) T.z_len (by decide +kernel) (pa_cons (pe_ix (ix_listK K rfl) (pv 0) pe_int (fun _ _ => rfl)) pa_nil))) (fun _ _ => rfl)) pe_int) (pe_op op_mul pe_int (pv 2))) (pe_op op_mul (pe_ix (ix_listK K rfl) (pv 0) pe_int (fun _ _ => rfl)) pe_int)))
      (pss_cons (ps_set (i := 3) sc_law_draw.nd rfl (Or.inl rfl) (pe_op op_mod (pe_callTy call_int1 (by rfl) T.z_int (by decide +kernel) (pa_cons (pe_op op_add (pe_op op_mul (pv 4) pe_int) pe_int) pa_nil)) pe_int))
      (pss_cons (ps_set (i := 3) sc_law_draw.nd rfl (Or.inl rfl) (pe_op op_mod (pe_callTy call_int1 (by rfl) T.z_int (by decide +kernel) (pa_cons (pe_op op_mul (pv 3) (pe_op op_add (pe_op op_fdivW (pv 3) pe_int) pe_int)) pa_nil)) pe_int))
      (pss_cons (ps_set (i := 3) sc_law_draw.nd rfl (Or.inl rfl) (pe_op op_mod (pe_callTy call_int1 (by rfl) T.z_int (by decide +kernel) (pa_cons (pe_op op_add (pe_op op_mul (pv 3) (pe_op op_add (pe_op op_fdivW (pv 3) pe_int) pe_int)) (pv 2)) pa_nil)) pe_int))
      (pss_one (ps_ret (pe_op op_mod (pe_callTy call_int1 (by rfl) T.z_int (by decide +kernel) (pa_cons (pe_op op_fdivW (pv 3) pe_int) pa_nil)) (pv 1))))))))))), ?_⟩
    refine ⟨_, rfl, p.a, _, 2, .int t, rfl, rfl, SqL.lt hA, rfl, ?_⟩
    dsimp only
    refine ⟨_, rfl, _, _, rfl, rfl, _, rfl, p.a, _, 2, 2, rfl, rfl, hA, rfl, ?_⟩
    dsimp only
    have hA1 : upd H p.a (.lst (([.ref p.g, .ref p.s, .int t, .int n] : List V).set 2 (.int (t + 1)))) p.a = some (.lst [.ref p.g, .ref p.s, .int (t + 1), .int n]) := upd_same
    have b1 : But p.l H (upd H p.a (.lst (([.ref p.g, .ref p.s, .int t, .int n] : List V).set 2 (.int (t + 1))))) := But.at (by simp [Pt.l])
    have hG1 : upd H p.a (.lst (([.ref p.g, .ref p.s, .int t, .int n] : List V).set 2 (.int (t + 1)))) p.g = some (.lst (gs.map V.int)) := by rw [upd_ne nag.symm]; exact hG
    have hS1 : upd H p.a (.lst (([.ref p.g, .ref p.s, .int t, .int n] : List V).set 2 (.int (t + 1)))) p.s = some (.lst (ss.map V.int)) := by rw [upd_ne nas.symm]; exact hS
    generalize upd H p.a (.lst (([.ref p.g, .ref p.s, .int t, .int n] : List V).set 2 (.int (t + 1)))) = H1 at hA1 b1 hG1 hS1 ⊢
    refine ⟨_, rfl, p.a, _, 0, .ref p.g, rfl, rfl, SqL.lt hA1, rfl, p.g, _, rfl, .inl (SqL.lt hG1), _, _, rfl, rfl, _, rfl, ?_⟩
    refine ite2 (fun c => ?_) (fun c => ?_)
    · cases gs with
      | nil => simp at c
      | cons x gs =>
        refine ⟨_, rfl, p.a, _, 0, .ref p.g, rfl, rfl, SqL.lt hA1, rfl, p.g, _, 0, .int x, rfl, rfl, SqL.lt hG1, at_ge (by decide) rfl, ?_⟩
        dsimp only
        refine ⟨_, rfl, _, rfl, _, _, rfl, rfl, div_small hm hsm, _, rfl, p.a, _, 0, .ref p.g, rfl, rfl, SqL.lt hA1, rfl, p.g, _, 0, 0, rfl, rfl, hG1, ix0 _ _, ?_⟩
        dsimp only
        have hA2 : upd H1 p.g (.lst ((List.map V.int (x :: gs)).set 0 (.int (x / many)))) p.a = some (.lst [.ref p.g, .ref p.s, .int (t + 1), .int n]) := by rw [upd_ne nag]; exact hA1
        have hG2 : upd H1 p.g (.lst ((List.map V.int (x :: gs)).set 0 (.int (x / many)))) p.g = some (.lst ((x / many :: gs).map V.int)) := upd_same
        have hS2 : upd H1 p.g (.lst ((List.map V.int (x :: gs)).set 0 (.int (x / many)))) p.s = some (.lst (ss.map V.int)) := by rw [upd_ne ngs.symm]; exact hS1
        have b2 : But p.l H (upd H1 p.g (.lst ((List.map V.int (x :: gs)).set 0 (.int (x / many))))) := b1.trans (But.at (by simp [Pt.l]))
        generalize upd H1 p.g (.lst ((List.map V.int (x :: gs)).set 0 (.int (x / many)))) = H2 at hA2 b2 hG2 hS2 ⊢
        have r0 := Int.emod_nonneg x (Int.ne_of_gt hm)
        have r1 := Int.emod_lt_of_pos x hm
        refine ⟨_, rfl, _, rfl, _, _, rfl, rfl, _, rfl, ?_⟩
        refine ite2 (fun c => ?_) (fun c => ?_)
        · refine ⟨_, rfl, p.a, _, 0, .ref p.g, rfl, rfl, SqL.lt hA2, rfl, .inl ⟨rfl, _, SqL.lt hG2⟩, p.g, _, 0, 0, .int (x / many), rfl, rfl, hG2, by decide, by decide, (ixN_seq (ix0 _ _)).1, rfl, ?_⟩
          dsimp only
          have hA3 : upd H2 p.g (.lst ((List.map V.int (x / many :: gs)).eraseIdx 0)) p.a = some (.lst [.ref p.g, .ref p.s, .int (t + 1), .int n]) := by rw [upd_ne nag]; exact hA2
          have hG3 : upd H2 p.g (.lst ((List.map V.int (x / many :: gs)).eraseIdx 0)) p.g = some (.lst (gs.map V.int)) := upd_same
          have hS3 : upd H2 p.g (.lst ((List.map V.int (x / many :: gs)).eraseIdx 0)) p.s = some (.lst (ss.map V.int)) := by rw [upd_ne ngs.symm]; exact hS2
          have b3 : But p.l H (upd H2 p.g (.lst ((List.map V.int (x / many :: gs)).eraseIdx 0))) := b2.trans (But.at (by simp [Pt.l]))
          exact ⟨_, rfl, .inl ⟨_, rfl, _, rfl, _, _, rfl, rfl, hm, k _ _ r0 r1 ⟨ngs, gs, ss, t + 1, n, hA3, hG3, hS3, hne⟩ b3⟩⟩
        · exact ⟨_, rfl, .inl ⟨_, rfl, _, rfl, _, _, rfl, rfl, hm, k _ _ r0 r1 ⟨ngs, x / many :: gs, ss, t + 1, n, hA2, hG2, hS2, hne⟩ b2⟩⟩
    · have lp : (0 : Int) < ((ss.map V.int).length : Int) := by
        cases ss with
        | nil => exact absurd rfl hne
        | cons y ys => simp <;> omega
      have i0 := Int.emod_nonneg t (Int.ne_of_gt lp)
      have i1 := Int.emod_lt_of_pos t lp
      obtain ⟨y, hy⟩ : ∃ y, ss[(t % ((ss.map V.int).length : Int)).toNat]? = some y := by
        have z : (t % ((ss.map V.int).length : Int)).toNat < ss.length := by rw [List.length_map] at i0 i1 ⊢; omega
        exact ⟨_, List.getElem?_eq_getElem z⟩
      refine ⟨_, rfl, p.a, _, 1, .ref p.s, rfl, rfl, SqL.lt hA1, rfl, _, rfl, .inl ⟨_, rfl, _, rfl, p.a, _, 1, .ref p.s, rfl, rfl, SqL.lt hA1, rfl, p.s, _, rfl, .inl (SqL.lt hS1), _, _, rfl, rfl, lp, ?_⟩⟩
      dsimp only
      refine ⟨p.s, _, _, .int y, rfl, rfl, SqL.lt hS1, at_ge i0 (by rw [List.getElem?_map, hy]; rfl), ?_⟩
      dsimp only
      refine ⟨_, _, rfl, rfl, cm_r (by decide) (by decide), _, rfl, _, _, rfl, rfl, cm_l (by decide) (by decide), _, _, rfl, rfl, ?_⟩
      dsimp only
      refine ⟨_, rfl, p.a, _, 3, .int n, rfl, rfl, SqL.lt hA1, rfl, _, _, rfl, rfl, cm_r (by decide) (by decide), _, _, rfl, rfl, ?_⟩
      dsimp only
      generalize y * 7919 + 104729 * t + n * 31 = seed
      refine ⟨_, rfl, _, _, rfl, rfl, cm_r (by decide) (by decide), _, _, rfl, rfl, .inl ⟨_, rfl, _, _, rfl, rfl, (by show (0 : Int) < 2147483647; decide), ?_⟩⟩
      dsimp only
      have a0 := Int.emod_nonneg (seed * 48271 + 11) (show (2147483647 : Int) ≠ 0 by decide)
      have a1 := Int.emod_lt_of_pos (seed * 48271 + 11) (show (0 : Int) < 2147483647 by decide)
      generalize (seed * 48271 + 11) % 2147483647 = n1 at a0 a1 ⊢
      refine ⟨_, rfl, _, rfl, _, _, rfl, rfl, div_small (by decide) (small_of (by decide)), _, _, rfl, rfl, _, _, rfl, rfl, cm_l (by omega) (by omega), .inl ⟨_, rfl, _, _, rfl, rfl, (by show (0 : Int) < 2147483629; decide), ?_⟩⟩
      dsimp only
      have d0 := Int.emod_nonneg (n1 * (n1 / 1009 + 69621)) (show (2147483629 : Int) ≠ 0 by decide)
      have d1 := Int.emod_lt_of_pos (n1 * (n1 / 1009 + 69621)) (show (0 : Int) < 2147483629 by decide)
      generalize (n1 * (n1 / 1009 + 69621)) % 2147483629 = n2 at d0 d1 ⊢
      refine ⟨_, rfl, _, rfl, _, _, rfl, rfl, div_small (by decide) (small_of (by decide)), _, _, rfl, rfl, _, _, rfl, rfl, cm_l (by omega) (by omega), _, rfl, _, _, rfl, rfl, .inl ⟨_, rfl, _, _, rfl, rfl, (by show (0 : Int) < 2147483399; decide), ?_⟩⟩
      dsimp only
      generalize (n2 * (n2 / 2003 + 40692) + t) % 2147483399 = n3
      refine ⟨_, rfl, _, _, rfl, rfl, div_small (by decide) (small_of (by decide)), .inl ⟨_, rfl, _, rfl, _, _, rfl, rfl, hm, ?_⟩⟩
      exact k _ _ (Int.emod_nonneg _ (Int.ne_of_gt hm)) (Int.emod_lt_of_pos _ hm) ⟨ngs, gs, ss, t + 1, n, hA1, hG1, hS1, hne⟩ b1
/-- tries and points of an event, right ones -/
def spCountsR : Sp := fun vs H Q _ => ∃ t p : Int, vs = [.int t, .int p] ∧ 1 ≤ t ∧ t ≤ 40 ∧ -400 ≤ p ∧ p ≤ 400 ∧ Q (.bl true) H
def spEventR (K : PySem.W.Frag) : Sp := fun vs H Q _ => ∃ (v : V) (n : Int) (e : List Int), vs = [v, .int n] ∧ IT K H v e ∧ okEv n e ∧ Q (.bl true) H
def spInitR (K : PySem.W.Frag) (C : Addr) : Sp := fun vs H Q _ => ∃ (m dx : Addr) (n : Int) (w : V) (evs : List (List Int)), vs = [.ref m, .int n, w] ∧ H m = some (.ins C dx []) ∧ 1 ≤ n ∧ n ≤ 12 ∧ ITs K H w evs ∧ evs.length ≤ 30 ∧ (∀ e ∈ evs, okEv n e) ∧
  ∀ H', H' m = some (.ins C dx (mf n w)) → (∀ b o, b ≠ m → H b = some o → H' b = some o) → Q .non H'
theorem dec_t {a b c : Int} (h1 : a ≤ b) (h2 : b ≤ c) : decide (a ≤ b ∧ b ≤ c) = true := decide_eq_true ⟨h1, h2⟩
theorem ok_are_counts (T : Txt K mg A) : FnOk P w K mg base CX0 3 A.f_are_counts A.d_are_counts ["tries", "points"] (spCountsR) := by
  refine T.F_are_counts.ok sc_are_counts (fun vs H Q E h => ?_) (fun cdv A1 outer s H vs Q E hr h => ?_)
  · obtain ⟨t, p, rfl, _⟩ := h
    rfl
  · obtain ⟨t, p, rfl, h1, h2, h3, h4, q⟩ := h
    refine ⟨_, (pss_one (ps_ret (pe_and (pe_call (ok_is_between T) (hr.mono (by decide)) rfl T.m_is_between T.F_is_between.kp T.B_is_between .nil pass0 (pa_cons (pv 0) (pa_cons pe_int (pa_cons (pe_glob (v := .int 40) rfl T.c_MOST_TRIES ⟨_, rfl⟩) pa_nil)))) (pe_one (pe_call (ok_is_between T) (hr.mono (by decide)) rfl T.m_is_between T.F_is_between.kp T.B_is_between .nil pass0 (pa_cons (pv 1) (pa_cons (pe_un un_neg (pe_glob (v := .int 400) rfl T.c_MOST_POINTS ⟨_, rfl⟩)) (pa_cons (pe_glob (v := .int 400) rfl T.c_MOST_POINTS ⟨_, rfl⟩) pa_nil)))))))), ?_⟩
    refine ⟨_, rfl, t, 1, 40, rfl, _, rfl, ?_⟩
    rw [dec_t h1 h2]
    refine iteT ⟨_, rfl, _, rfl, p, -400, 400, rfl, ?_⟩
    rw [dec_t h3 h4]
    exact q
theorem ok_is_event (T : Txt K mg A) : FnOk P w K mg base CX0 4 A.f_is_event A.d_is_event ["thing", "standings"] (spEventR K) := by
  refine T.F_is_event.ok sc_is_event (fun vs H Q E h => ?_) (fun cdv A1 outer s H vs Q E hr h => ?_)
  · obtain ⟨v, n, e, rfl, _⟩ := h
    rfl
  · obtain ⟨v, n, e, rfl, hv, ⟨b, a, t, p, rfl, b0, b1, a0, a1, t0, t1, p0, p1⟩, q⟩ := h
    obtain ⟨x, rfl, hx⟩ := id hv
    refine ⟨_, (pss_cons (ps_if (PW.pt (pw_or (pt_not (pt_val (pe_callB (call_isK K rfl) (by rfl) T.z_isinstance (by decide +kernel) (pa_cons (pv 0) (pa_cons (pe_bltn (v := .ty "tuple") (u := .type "tuple") rfl T.z_tuple (by decide +kernel) rfl) pa_nil))))) (pw_or1 (pt_cmpR op_ne (pe_callB (call_lenK K rfl) (by rfl) T.z_len (by decide +kernel) (pa_cons (pv 0) pa_nil)) pe_int (nomark _))))) (pss_one (ps_ret pe_bl)) pss_nil)
      (pss_cons (ps_asg (pv 0) (pg_tupK K rfl 4 rfl (pgs_cons (pg_name (i := 2) sc_is_event.nd rfl (Or.inl rfl)) (pgs_cons (pg_name (i := 3) sc_is_event.nd rfl (Or.inl rfl)) (pgs_cons (pg_name (i := 4) sc_is_event.nd rfl (Or.inl rfl)) (pgs_cons (pg_name (i := 5) sc_is_event.nd rfl (Or.inl rfl)) pgs_nil)))) rfl rfl))
      (pss_cons (ps_set (i := 6) sc_is_event.nd rfl (Or.inl rfl) (pe_op op_sub (pv 1) pe_int))
      (pss_one (ps_ret (pe_and (pe_call (ok_is_between T) (hr.mono (by decide)) rfl T.m_is_between T.F_is_between.kp T.B_is_between .nil pass0 (pa_cons (pv 2) (pa_cons pe_int (pa_cons (pv 6) pa_nil)))) (pe_and (pe_call (ok_is_between T) (hr.mono (by decide)) rfl T.m_is_between T.F_is_between.kp T.B_is_between .nil pass0 (pa_cons (pv 3) (pa_cons pe_int (pa_cons (pv 6) pa_nil)))) (pe_one (pe_call (ok_are_counts T) (hr.mono (by decide)) rfl T.m_are_counts T.F_are_counts.kp T.B_are_counts .nil pass0 (pa_cons (pv 4) (pa_cons (pv 5) pa_nil))))))))))), ?_⟩
    refine ⟨_, rfl, isT rfl hx ⟨true, rfl, iteF ⟨_, rfl, lenI hv fun ys e => ?_⟩⟩⟩
    rw [e]
    refine ⟨rfl, _, rfl, iteF ?_⟩
    refine ⟨_, rfl, x, _, rfl, hx, rfl, .int b, _, rfl, .int a, _, rfl, .int t, _, rfl, .int p, _, rfl, rfl, ?_⟩
    dsimp only
    refine ⟨_, rfl, _, _, rfl, rfl, ?_⟩
    refine ⟨_, rfl, _, rfl, b, 0, n - 1, rfl, _, rfl, ?_⟩
    rw [dec_t b0 (by omega)]
    refine iteT ⟨_, rfl, _, rfl, a, 0, n - 1, rfl, _, rfl, ?_⟩
    rw [dec_t a0 (by omega)]
    exact iteT ⟨_, rfl, _, rfl, t, p, rfl, t0, t1, p0, p1, q⟩
theorem ok_Machine___init__ (T : Txt K mg A) : FnOk P w K mg base CX0 5 A.f_Machine___init__ A.d_Machine___init__ ["self", "standings", "events"] (spInitR K A.C_Machine) := by
  refine T.F_Machine___init__.ok sc_Machine___init__ (fun vs H Q E h => ?_) (fun cdv A1 outer s H vs Q E hr h => ?_)
  · obtain ⟨m, dx, n, w, evs, rfl, _⟩ := h
    rfl
  · obtain ⟨m, dx, n, w, evs, rfl, hm, n0, n1, hw, l30, ok, k⟩ := h
    obtain ⟨x, xs, rfl, hx, al⟩ := id hw
    refine ⟨_, (pss_cons (ps_if (pt_not (pt_val (pe_call (ok_is_between T) (hr.mono (by decide)) rfl T.m_is_between T.F_is_between.kp T.B_is_between .nil pass0 (pa_cons (pv 1) (pa_cons pe_int (pa_cons (pe_glob (v := .int 12) rfl T.c_MOST_STANDINGS ⟨_, rfl⟩) pa_nil)))))) (pss_one ps_never) pss_nil)
      (pss_cons (ps_if (PW.pt (pw_or (pt_not (pt_val (pe_callB (call_isK K rfl) (by rfl) T.z_isinstance (by decide +kernel) (pa_cons (pv 2) (pa_cons (pe_bltn (v := .ty "tuple") (u := .type "tuple") rfl T.z_tuple (by decide +kernel) rfl) pa_nil))))) (pw_or1 (pt_cmpR op_gt (pe_callB (call_lenK K rfl) (by rfl) T.z_len (by decide +kernel) (pa_cons (pv 2) pa_nil)) (pe_glob (v := .int 30) rfl T.c_MOST_EVENTS ⟨_, rfl⟩) (nomark _))))) (pss_one ps_never) pss_nil)
      (pss_cons (ps_for PassesOwn.never rfl (pi_enumT rfl T.z_enumerate (pa_cons (pv 2) pa_nil)) (pg_tupK K rfl 2 rfl (pgs_cons (pg_name (i := 3) sc_Machine___init__.nd rfl (Or.inl rfl)) (pgs_cons (pg_name (i := 4) sc_Machine___init__.nd rfl (Or.inl rfl)) pgs_nil)) rfl rfl)
        (pss_one (ps_if (pt_not (pt_val (pe_call (ok_is_event T) (hr.mono (by decide)) rfl T.m_is_event T.F_is_event.kp T.B_is_event .nil pass0 (pa_cons (pv 4) (pa_cons (pv 1) pa_nil))))) (pss_one ps_never) pss_nil)))
      (pss_cons (ps_fld (pv 0) (pv 1) rfl)
      (pss_one (ps_fld (pv 0) (pv 2) rfl)))))), ?_⟩
    refine ⟨_, rfl, n, 1, 12, rfl, _, rfl, ?_⟩
    rw [dec_t n0 n1]
    refine iteF ⟨_, rfl, isT rfl hx ⟨true, rfl, iteF ⟨_, rfl, lenT hw fun ys e => ⟨_, _, rfl, rfl, _, rfl, ?_⟩⟩⟩⟩
    rw [e]
    rw [decide_eq_false (by omega)]
    refine iteF ⟨_, rfl, x, xs, rfl, hx, ?_⟩
    refine for_enT (K := K) (a := x) (xs := xs) (fun i σ H' => (∃ u v, σ = [some (.ref m), some (.int n), some (.ref x), u, v]) ∧ Same H H') ⟨⟨_, _, rfl⟩, Same.refl _⟩ (fun i σ H' _ q => SqT.keep (Keep.of q.2) hx) ?_ ?_
    · rintro i y σ H1 T1 hi ⟨⟨u, v, rfl⟩, s1⟩ hT
      have s2 := s1.trans (Same.new (o := .tup [.int (i : Nat), y]) hT)
      obtain ⟨e, he, hy⟩ := al.getL hi
      refine ⟨T1, _, rfl, SqT.lt upd_same, rfl, .int (i : Nat), _, rfl, y, _, rfl, rfl, ?_⟩
      dsimp only
      refine ⟨_, rfl, _, rfl, y, n, e, rfl, hy.keep (Keep.of s2), ok e (List.mem_of_getElem? he), true, rfl, iteF ?_⟩
      exact ⟨⟨_, _, rfl⟩, s2⟩
    · rintro σ H1 ⟨⟨u, v, rfl⟩, s1⟩
      refine ⟨_, rfl, _, rfl, m, A.C_Machine, dx, [], rfl, s1 _ _ hm, T.cl_Machine, T.n_standings, (by decide), ?_⟩
      dsimp only
      refine ⟨_, rfl, _, rfl, m, A.C_Machine, dx, _, rfl, upd_same, T.cl_Machine, T.n_events, (by show 1 < 1000; decide), ?_⟩
      dsimp only
      refine k _ upd_same (fun b o nb hb => ?_)
      rw [upd_ne nb, upd_ne nb]
      exact s1 _ _ hb
end
section
-- an environment written out
local macro_rules | `(tactic| nest_cls) => `(tactic| with_unfolding_all (repeat (first | exact Nf.nil | apply Nf.cons)))
-- side conditions over values
local macro_rules | `(tactic| leaf_len) => `(tactic| first
  | (with_reducible rfl)
  | (with_reducible assumption)
  | rfl
  | omega
  | ((with_reducible show _ ≤ sizeLine); first | exact szL (by first | decide | (simp; done) | (simp; omega)) | exact szL (by omega) | decide)
  | ((with_reducible show _ < sizeLine); first | exact szK (by first | decide | (simp; done) | (simp; omega)) | exact szK (by omega) | decide)
  | ((with_reducible show CMul _ _ ∨ _); first | exact .inl (CMul.l (by omega) (by omega)) | exact .inl (CMul.r (by omega) (by omega)) | exact .inr (CMulW.of (by omega) (by omega)))
  | ((with_reducible show CMul _ _); first | exact CMul.l (by omega) (by omega) | exact CMul.r (by omega) (by omega))
  | ((with_reducible show CDivW _ _); exact CDivW.of (by omega) (by omega))
  | ((with_reducible show CPow _ _); exact ⟨by decide, by decide, by decide⟩)
  | ((with_reducible show small _); unfold small; omega)
  | ((with_reducible show ∀ K, PySem.W.kitOne K _ _ = some _); first | exact fun _ => kit_ty (r := true) (by decide +kernel) | exact fun _ => kit_ty (r := false) (by decide +kernel))
  | decide)
-- a step over values
local macro_rules | `(tactic| tb_rel) => `(tactic| first
  | (with_reducible refine i_sqN (by nest_cls) ?_)
  | (with_reducible first
    | refine i_sq ?_ | refine i_set ?_ | refine i_stV ?_ | refine i_stO ?_ | refine i_nx ?_
    | refine i_c ?_ | refine i_bin ?_ | refine i_wV ?_ | refine i_wT ?_ | refine i_test ?_ | refine i_tb ?_ | refine i_tru ?_ | refine i_truB ?_
    | refine iteT ?_ | refine iteF ?_
    | refine o_addI ?_ | refine o_I0 ?_ | refine o_B0 ?_ | refine o_eqI ?_ | refine o_neI ?_ | refine o_iaddI ?_
    | refine i_aCons ?_ | refine i_aNil ?_ | refine i_call ?_
    | refine i_if ?_ | refine i_ret ?_ | refine i_rt ?_ | refine i_retN ?_ | refine i_next ?_ | refine i_drop ?_ | refine i_break ?_ | refine i_cont ?_ | refine i_bk ?_ | refine i_ct ?_
    | refine i_andT ?_ | refine i_orT ?_ | refine i_notT ?_ | refine i_andV ?_ | refine i_orV ?_ | refine i_notV ?_ | refine i_ifE ?_
    | refine i_tup ?_ | refine i_lst ?_ | refine i_un ?_ | refine i_ei ?_ | refine i_eb ?_
    | refine i_cB ?_ | refine i_make ?_ | refine i_makeO ?_ | refine i_fld ?_ | refine i_chain ?_ | refine i_for ?_ | refine i_iseq ?_ | refine i_irg1 ?_ | refine i_irg2 ?_ | refine i_ien ?_ | refine i_lc ?_ | refine i_yes ?_ | refine i_lrg ?_ | refine i_index ?_
    | refine i_asg ?_ | refine i_par ?_ | refine i_gname ?_ | refine i_gnil ?_ | refine i_gconsM ?_ | refine i_gnilM ?_ | refine i_gcons ?_
    | refine i_sl ?_ | refine i_noP ?_ | refine i_part ?_ | refine i_slL ?_ | refine i_slT ?_
    | refine i_raise0 ?_ | refine i_raise1 ?_ | refine i_dict0 ?_ | refine i_disp1 ?_ | refine i_dget2 ?_ | refine i_keyI ?_ | refine i_keyS ?_ | refine i_isDK ?_ | refine i_isDT ?_ | refine o_din' ?_ | refine o_dix' ?_ | refine i_dgZ ?_ | refine i_dgI ?_ | refine i_dc ?_ | refine i_dgS ?_ | refine i_try ?_
    | refine f_lenE ?_ | refine f_lenI ?_ | refine f_lenM ?_ | refine f_lenL ?_ | refine f_lenT ?_ | refine f_intI ?_ | refine f_intB ?_ | refine f_absI ?_ | refine f_tupL ?_ | refine f_tupT ?_ | refine f_lstL ?_ | refine f_lstT ?_ | refine f_gcdI ?_ | refine i_isC ?_ | refine i_isCM ?_ | refine o_neE ?_
    | refine o_ixP0 ?_ | refine o_ixS0 ?_ | refine o_ixS1 ?_ | refine f_lenTI' ?_ | refine o_ixP1 ?_ | refine o_inT ?_ | refine o_ninT ?_
    | refine o_isN ?_ | refine o_isnN ?_ | refine o_isB ?_ | refine o_isnB ?_
    | refine loop_nil ?_
    | refine i_truL ?_ | refine i_truT ?_ | refine i_truI ?_)
  | (with_reducible refine i_var (by with_unfolding_all rfl) ?_)
  | (with_reducible refine i_callU (by with_unfolding_all rfl) (by with_unfolding_all rfl) ?_)
  | ((with_reducible refine o_IC ?_ ?_); · leaf_len)
  | ((with_reducible refine o_mulI ?_ ?_); · leaf_len)
  | (with_reducible refine i_varO (by with_unfolding_all rfl) ?_)
  | (with_reducible refine i_wN (by with_unfolding_all rfl) ?_)
  | (with_reducible refine i_gtup (by with_unfolding_all rfl) (by with_unfolding_all rfl) ?_)
  | (with_reducible refine i_aug (by with_unfolding_all rfl) ?_)
  | (with_reducible refine i_mb rfl (by with_unfolding_all rfl) ?_)
  | (with_reducible refine i_mb0 rfl (by with_unfolding_all rfl) ?_)
  | ((with_reducible refine m_appI ?_ ?_); · leaf_len)
  | ((with_reducible refine m_app ?_ ?_); · leaf_len)
  | (with_reducible refine i_dcZ (by with_unfolding_all rfl) (fun _ _ => ?_))
  | (with_reducible refine i_setDcZ (by with_unfolding_all rfl) (fun _ _ => ?_))
  | (with_reducible refine i_setD (by with_unfolding_all rfl) ?_)
  | (with_reducible refine i_dgT (by with_unfolding_all rfl) ?_)
  | ((with_reducible refine i_dpI ?_ ?_); · leaf_len)
  | ((with_reducible show ∃ d, _ = some (Sl.own d) ∧ _); refine ⟨_, rfl, ?_⟩)
  | (with_reducible refine i_setL (by with_unfolding_all rfl) ?_)
  | (with_reducible refine i_augL (by with_unfolding_all rfl) ?_)
  | (with_reducible refine i_setF (by with_unfolding_all rfl) ?_)
  | (with_reducible refine i_stN (by with_unfolding_all rfl) ?_)
  | ((with_reducible refine o_ix0 ?_ ?_); · first | assumption | exact four_getD (by assumption) (by assumption) (by assumption))
  | ((with_reducible refine o_ix1 ?_ ?_); · first | assumption | exact four_getD (by assumption) (by assumption) (by assumption))
  | ((with_reducible refine o_ixEv ?_ ?_ ?_ ?_); (· assumption); (· first | assumption | omega); (· first | assumption | omega))
  | ((with_reducible refine o_mulL ?_ ?_ ?_); (· omega); (· omega))
  | ((with_reducible refine o_addTI ?_ ?_); · omega)
  | ((with_reducible refine o_addT ?_ ?_); · leaf_len)
  | ((with_reducible refine o_addL ?_ ?_); · leaf_len)
  | ((with_reducible refine isi_int ?_ ?_); · first | assumption | exact ⟨_, rfl⟩)
  | ((with_reducible refine isi_bool ?_ ?_); · first | assumption | exact ⟨_, rfl⟩)
  | ((with_reducible refine isi_tup ?_ ?_); · first | assumption | exact ⟨_, rfl⟩)
  | ((with_reducible refine isi_lst ?_ ?_); · first | assumption | exact ⟨_, rfl⟩)
  | ((with_reducible refine isi_str ?_ ?_); · first | assumption | exact ⟨_, rfl⟩)
  | ((with_reducible refine iteTb ?_ ?_); · exact rfl)
  | ((with_reducible refine iteFb ?_ ?_); · exact rfl)
  | ((with_reducible refine iteTb ?_ ?_); · assumption)
  | ((with_reducible refine iteFb ?_ ?_); · assumption)
  | (with_reducible refine i_aft (by with_unfolding_all rfl) ?_)
  | ((with_reducible refine iteDT ?_ ?_); · first | assumption | omega)
  | ((with_reducible refine iteDF ?_ ?_); · first | assumption | omega)
  | ((with_reducible refine iteNT ?_ ?_); · first | assumption | omega)
  | ((with_reducible refine iteNF ?_ ?_); · first | assumption | omega)
  | ((with_reducible show ∃ ds, dsO _ _ = some ds ∧ _); refine ⟨_, rfl, ?_⟩)
  | ((with_reducible show ∃ s, RV.out _ _ = some s ∧ _); refine ⟨_, rfl, ?_⟩)
  | ((with_reducible show ∃ ds d, dsO _ _ = some ds ∧ _); refine ⟨_, _, rfl, rfl, ?_⟩)
  | ((with_reducible show ∃ d, dsO _ _ = some [d] ∧ _); refine ⟨_, rfl, ?_⟩)
  | ((with_reducible show ∃ y, RV.d _ _ = some y ∧ _); refine ⟨_, rfl, ?_⟩)
  | ((with_reducible show ∃ (y : D) (fs : List (Str × D)), RV.d _ _ = some y ∧ _); refine ⟨_, _, rfl, rfl, by first | exact putD_lt (by decide) | decide, ?_⟩)
  | ((with_reducible show ∃ ds, seqD _ = some ds ∧ _); refine ⟨_, rfl, ?_⟩)
  | ((with_reducible show ∃ d e, dsO _ _ = some [d, e] ∧ _); refine ⟨_, _, rfl, ?_⟩)
  | ((with_reducible show ∃ (fs : List (Str × D)) (y : D), D.ins _ _ = .ins _ fs ∧ _); refine ⟨_, _, rfl, rfl, ?_⟩)
  | ((with_reducible show ∃ (fs : List (Str × D)) (y : D), machD _ _ _ = .ins _ fs ∧ _); refine ⟨_, _, rfl, rfl, ?_⟩)
  | ((with_reducible show _ ≤ sizeLine ∧ _); refine ⟨?_, ?_⟩; · leaf_len)
  | ((with_reducible show _ < sizeLine ∧ _); refine ⟨?_, ?_⟩; · leaf_len))

variable {P : Program} {w : World} {K : PySem.W.Frag} {mg : Str → Option Value} {base : Heap} {A : Ad}
def S_whole : QSpec := fun ds k _ => ∃ d, ds = [d] ∧ plainD d ∧ k (.val (.bl (isW d)))
def S_between : QSpec := fun ds k _ => ∃ d l h, ds = [d, .int l, .int h] ∧ plainD d ∧ k (.val (.bl (btw d l h)))
theorem lnoq_is_whole : ∀ ds k kx, (S_whole : QSpec) ds k kx → ds.length = 1 := by
  intro ds k kx h
  obtain ⟨d, rfl, hp, hk⟩ := h
  rfl
theorem oq_is_whole (T : Txt K mg A) : FnOk P w K mg base (L2.CX P w) 1 A.f_is_whole A.d_is_whole ["thing"] (spP K (S_whole)) := by
  refine T.F_is_whole.okX sc_is_whole (spP_len lnoq_is_whole) (fun cdv A1 outer s H vs Q E hr h => ?_)
  refine def_run (N := ["thing"]) (p := _) (fun kx => (qss_one (qs_ret (q_and (q_callB (f_isi rfl) sim_isi (by rfl) T.z_isinstance (by decide +kernel) (qa_cons (q_var rfl (pv 0)) (qa_cons (q_c (d := .ty "int") rfl (pe_bltn (v := .ty "int") (u := .type "int") rfl T.z_int (by decide +kernel) rfl) (fun _ _ => .ty _)) (qa_nil rfl)))) (q_one (q_notT (q_callB (f_isi rfl) sim_isi (by rfl) T.z_isinstance (by decide +kernel) (qa_cons (q_var rfl (pv 0)) (qa_cons (q_c (d := .ty "bool") rfl (pe_bltn (v := .ty "bool") (u := .type "bool") rfl T.z_bool (by decide +kernel) rfl) (fun _ _ => .ty _)) (qa_nil rfl)))))))))) h (fun ds k kx h => by rw [lnoq_is_whole ds k kx h]; decide) (fun ds k kx h => ?_)
  obtain ⟨d, rfl, hp, hk⟩ := h
  repeat tb_rel
  cases d <;> ((repeat tb_rel); try exact hk)
theorem lnoq_is_between : ∀ ds k kx, (S_between : QSpec) ds k kx → ds.length = 3 := by
  intro ds k kx h
  obtain ⟨d, l, h, rfl, hp, hk⟩ := h
  rfl
theorem oq_is_between (T : Txt K mg A) : FnOk P w K mg base (L2.CX P w) 2 A.f_is_between A.d_is_between ["thing", "low", "high"] (spP K (S_between)) := by
  refine T.F_is_between.okX sc_is_between (spP_len lnoq_is_between) (fun cdv A1 outer s H vs Q E hr h => ?_)
  refine def_run (N := ["thing", "low", "high"]) (p := _) (fun kx => (qss_one (qs_ret (q_and (q_call (oq_is_whole T) (hr.mono (by decide)) (by rfl) T.m_is_whole T.F_is_whole.kp T.B_is_whole (takes_of rfl rfl rfl rfl) (qa_cons (q_var rfl (pv 0)) (qa_nil rfl))) (q_one (q_chain c_le c_le (q_var rfl (pv 1)) (q_var rfl (pv 0)) (q_var rfl (pv 2)))))))) h (fun ds k kx h => by rw [lnoq_is_between ds k kx h]; decide) (fun ds k kx h => ?_)
  obtain ⟨d, l, h, rfl, hp, hk⟩ := h
  repeat tb_rel
  refine ⟨_, rfl, hp, ?_⟩
  repeat tb_rel
  cases d with
  | int n =>
    repeat tb_rel
    refine iteD (fun c => ?_) (fun c => ?_)
    · repeat tb_rel
      have e : decide (l ≤ n ∧ n ≤ h) = decide (n ≤ h) := by simp [c]
      change k (.val (.bl (decide (l ≤ n ∧ n ≤ h)))) at hk
      rw [e] at hk
      exact hk
    · repeat tb_rel
      have e : decide (l ≤ n ∧ n ≤ h) = false := by simp [c]
      change k (.val (.bl (decide (l ≤ n ∧ n ≤ h)))) at hk
      rw [e] at hk
      exact hk
  | _ => (repeat tb_rel); try exact hk
/-- ascending, from l on, to h -/
def ascL : List D → Int → Int → Bool
  | [], _, _ => true
  | d :: ds, l, h => btw d l h && (match d with | .int n => ascL ds (n + 1) h | _ => false)
def asc : D → Int → Int → Bool
  | .tup ds, l, h => ascL ds l h
  | _, _, _ => false
def S_asc : QSpec := fun ds k _ => ∃ d l h, ds = [d, .int l, .int h] ∧ plainD d ∧ (∀ es, d = .tup es → ∀ e ∈ es, plainD e) ∧ k (.val (.bl (asc d l h)))
def SInit (n : Int → Prop) : List D → (List (Str × D) → Prop) → (Addr → List (Str × D) → Prop) → Prop := fun ds k _ => ∃ n evs, ds = [.int n, evsD evs] ∧ 1 ≤ n ∧ n ≤ 12 ∧ evs.length ≤ 30 ∧ (∀ e ∈ evs, okEv n e) ∧ k (machF n evs)
theorem oi_Machine (T : Txt K mg A) : FnOk P w K mg base (L2.CX P w) 5 A.f_Machine___init__ A.d_Machine___init__ ["self", "standings", "events"] (spI K A.C_Machine (SInit fun _ => True)) := by
  refine (FnOk.cx (ok_Machine___init__ T)).imp fun vs H Q E ⟨po, G, F, x, dx, us, ds, k, kx, e, a, w, r, ⟨n, evs, ed, n0, n1, l30, ok, hk⟩, q, _⟩ => ?_
  subst e ed
  cases r with
  | cons r1 r =>
    cases r with
    | cons r2 r =>
      cases r
      cases r1
      refine ⟨x, dx, n, _, evs, rfl, w.at_, n0, n1, ITs.keep (Keep.of a.fh) r2.its, l30, ok, fun H' h1 h2 => ?_⟩
      have ne : ∀ {b : Addr} {o : HO}, F b = some o → b ≠ x := fun h z => by rw [z, w.nf] at h; cases h
      have ng : ∀ {b : Addr} {o : HO}, G b = some o → b ≠ x := fun h z => by rw [z, w.ng] at h; cases h
      refine q F H' (machF n evs) _ (Same.refl F) ⟨fun b o h => h2 _ _ (ne h) (a.fh _ _ h), fun b o h => h2 _ _ (ng h) (a.gh _ _ h), a.dj, fun p ep => ⟨?_, (a.pt p ep).2⟩⟩ ⟨h1, w.nf, w.ng, w.np, .ins (.cons (.int n) (.cons r2 .nil))⟩ hk
      have np := w.np p ep
      obtain ⟨g1, gs, ss, t, m, g2, g3, g4, g5⟩ := (a.pt p ep).1
      have n1 : p.a ≠ x := fun z => np (by simp [pl, z])
      have n2 : p.g ≠ x := fun z => np (by simp [pl, z])
      have n3 : p.s ≠ x := fun z => by have := w.at_; rw [← z, g4] at this; cases this
      exact ⟨g1, gs, ss, t, m, h2 _ _ n1 g2, h2 _ _ n2 g3, h2 _ _ n3 g4, g5⟩
/-- an event's number -/
def S_has (C : Addr) : QSpec := fun ds k _ => ∃ n evs d, ds = [machD C n evs, d] ∧ plainD d ∧ k (.val (.bl (btw d 0 ((evs.length : Int) - 1))))
theorem lnoq_has_event : ∀ ds k kx, (S_has A.C_Machine : QSpec) ds k kx → ds.length = 2 := by
  intro ds k kx h
  obtain ⟨n, evs, d, rfl, hp, hk⟩ := h
  rfl
theorem oq_has_event (T : Txt K mg A) : FnOk P w K mg base (L2.CX P w) 3 A.f_has_event A.d_has_event ["machine", "thing"] (spP K (S_has A.C_Machine)) := by
  refine T.F_has_event.okX sc_has_event (spP_len (lnoq_has_event (A := A))) (fun cdv A1 outer s H vs Q E hr h => ?_)
  refine def_run (N := ["machine", "thing"]) (p := _) (fun kx => (qss_one (qs_ret (q_call (oq_is_between T) (hr.mono (by decide)) (by rfl) T.m_is_between T.F_is_between.kp T.B_is_between (takes_of rfl rfl rfl rfl) (qa_cons (q_var rfl (pv 1)) (qa_cons (q_int rfl) (qa_cons (q_sub (q_callB (f_len rfl) sim_len (by rfl) T.z_len (by decide +kernel) (qa_cons (q_fld T.cl_Machine T.n_events (q_var rfl (pv 0)) (by rfl)) (qa_nil rfl))) (q_int rfl)) (qa_nil rfl)))))))) h (fun ds k kx h => by rw [lnoq_has_event ds k kx h]; decide) (fun ds k kx h => ?_)
  obtain ⟨n, evs, d, rfl, hp, hk⟩ := h
  repeat tb_rel
  refine ⟨_, _, _, rfl, hp, ?_⟩
  repeat tb_rel
  try exact hk
/-- a run -/
def S_isrun (C : Addr) : QSpec := fun ds k _ => ∃ n evs d, ds = [machD C n evs, d] ∧ (∀ e ∈ evs, Four e) ∧ plainD d ∧ (∀ es, d = .tup es → ∀ e ∈ es, plainD e) ∧ k (.val (.bl (runB evs d)))
end
end Myk33

namespace Myk33
open PySem L2 My EnT Pl
section
-- Same from behind
local macro_rules | `(tactic| nest_cls) => `(tactic| first
  | exact Same.refl _
  | assumption
  | (refine Same.back (Same.new (by assumption)) ?_; nest_cls)
  | (refine Same.back (by assumption) ?_; nest_cls)
  | (refine Same.chg ?_ (by first | assumption | exact Free.flip (by assumption) (by nest_cls)); nest_cls))
-- Keep from behind
local macro_rules | `(tactic| mem_news) => `(tactic| first
  | exact Keep.refl _
  | assumption
  | (refine Keep.back (Keep.new (by assumption)) ?_; mem_news)
  | (refine Keep.back (Keep.lst (by assumption)) ?_; mem_news)
  | (refine Keep.back (Keep.lst (by kd_adr)) ?_; mem_news)
  | (refine Keep.back (Keep.of (by assumption)) ?_; mem_news)
  | (refine Keep.back (Keep.ofBut (by assumption) (by kba_ints)) ?_; mem_news)
  | (refine Keep.back (by assumption) ?_; mem_news))
-- the pot
local macro_rules | `(tactic| kba_ints) => `(tactic| first
  | assumption
  | (refine Pt.At.back (Same.new (by assumption)) ?_; kba_ints)
  | (refine Pt.At.back (by assumption) ?_; kba_ints)
  | exact Pt.At.flip (by assumption) (by nest_cls))
-- a fact of a heap, from behind
local macro_rules | `(tactic| kd_adr) => `(tactic| first
  | ((with_reducible show IT _ _ _ _); first
    | assumption
    | exact IT.new2
    | exact IT.new1
    | exact IT.new3
    | exact IT.new4
    | exact IT.flip (by assumption) (by mem_news)
    | exact IT.flip IT.new2 (by mem_news)
    | exact IT.flip IT.new3 (by mem_news)
    | exact IT.flip IT.new1 (by mem_news)
    | exact IT.flip IT.new4 (by mem_news))
  | ((with_reducible show ITs _ _ _ _); first
    | assumption
    | exact ITs.flip (by assumption) (by mem_news))
  | ((with_reducible show SqT _ _ _ _); first
    | assumption
    | exact SqT.lt upd_same
    | exact SqT.lt (by assumption)
    | exact IT.sq (by assumption)
    | exact SqT.flip (by assumption) (by mem_news)
    | exact SqT.flip (SqT.lt (by assumption)) (by mem_news)
    | exact SqT.flip (IT.sq (by assumption)) (by mem_news)
    | exact SqT.flip (SqT.lt upd_same) (by mem_news))
  | ((with_reducible show SqL _ _ _ _); first
    | assumption
    | exact SqL.lt upd_same
    | exact SqL.lt (by assumption)
    | exact SqL.flip (by assumption) (by nest_cls)
    | exact SqL.flip (SqL.lt (by assumption)) (by nest_cls)
    | exact SqL.flip (SqL.lt upd_same) (by nest_cls))
  | ((with_reducible show Parts _ _ _ _ _); first | assumption | exact Parts.flip (by assumption) (by mem_news))
  | ((with_reducible show MachAt _ _ _ _ _ _); first | assumption | exact MachAt.flip (by assumption) (by mem_news))
  | ((with_reducible show ShIs _ _ _ _ _); first | assumption | exact ShIs.flip (by assumption) (by mem_news))
  | ((with_reducible show RunIs _ _ _ _ _); first | assumption | exact RunIs.flip (by assumption) (by mem_news))
  | ((with_reducible show LTs _ _ _ _); first | assumption | exact LTs.flip (by assumption) (by nest_cls))
  | ((with_reducible show Pt.At _ _); kba_ints)
  | ((with_reducible show Same _ _); nest_cls)
  | ((with_reducible show Keep _ _); mem_news)
  | ((with_reducible show (_ : Hp) _ = some _); first
    | assumption
    | exact upd_same
    | exact At.flip (by assumption) (by nest_cls)
    | exact At.flip upd_same (by nest_cls)))
-- a side condition
local macro_rules | `(tactic| leaf_len) => `(tactic| first
  | (with_reducible rfl)
  | (with_reducible assumption)
  | kd_adr
  | omega
  | ((with_reducible show (_ : Nat) ≤ sizeLine); first | (show 1 ≤ sizeLine; decide) | (show 2 ≤ sizeLine; decide) | (show 3 ≤ sizeLine; decide) | (show 4 ≤ sizeLine; decide) | (show 5 ≤ sizeLine; decide) | (show 6 ≤ sizeLine; decide) | (show 7 ≤ sizeLine; decide) | (show 8 ≤ sizeLine; decide) | (show 0 ≤ sizeLine; decide))
  | exact rfl
  | ((with_reducible show _ ∨ _); first | exact Or.inl (by leaf_len) | exact Or.inr (by leaf_len))
  | exact List.cons_ne_nil _ _
  | exact mf_ev _ _
  | exact mf_st _ _
  | exact flat_ints _
  | ((with_reducible show tyV _ _ _ _); exact Or.inl ⟨rfl, _, by kd_adr⟩)
  | ((with_reducible show ClsV _ _); exact ClsV.ty _)
  | ((with_reducible show CDivW _ _); exact CDivW.of (by omega) (by omega))
  | (apply Exists.intro (α := List V); kd_adr)
  | assumption
  | ((with_reducible show small _); unfold small; omega)
  | ((with_reducible show CPow _ _); exact ⟨by decide, by decide, by decide⟩)
  | ((with_reducible show CMul _ _); first | exact CMul.l (by omega) (by omega) | exact CMul.r (by omega) (by omega))
  | ((with_reducible show CMulW _ _); exact CMulW.of (by omega) (by omega))
  | ((with_reducible show TyX _ _ _ _); first | exact TyX.base (.int _) | exact TyX.base (.str _) | exact TyX.base (.bl _) | exact tyT (by kd_adr) | exact TyX.base (.lst (by kd_adr)))
  | ((with_reducible show PySem.W.kitOne _ _ _ = some _); first | exact kit_ty (r := true) (by decide +kernel) | exact kit_ty (r := false) (by decide +kernel))
  | decide)
-- a step
local macro_rules | `(tactic| l_ints) => `(tactic| first
  | (intro (p : Addr) (hp : (_ : Hp) p = none))
  | (intro (H' : Hp) (s : Same _ H'))
  | (intro (p : Addr) (H' : Hp) (s : Same _ H'))
  | (intro (h : IT _ _ _ _))
  | (intro (h : SqT _ _ _ _))
  | (intro (h : (_ : Hp) _ = none))
  | (intro (h : (_ : Hp) _ = some _))
  | ((with_reducible show rCatA _ _ _ _ _); refine catJ (by kd_adr) (by kd_adr) (by leaf_len) ?_)
  | ((with_reducible show rSlA _ _ none (some _) _ _); refine slTake (by kd_adr) (by omega) ?_)
  | with_reducible refine tC_i ?_
  | with_reducible refine tNil_i ?_
  | with_reducible refine tCons_i ?_
  | with_reducible refine tCall_i ?_
  | with_reducible refine tOp_i ?_
  | ((with_reducible refine tVar_i ?_ ?_); · exact rfl)
  | with_reducible refine iteT ?_
  | with_reducible refine iteF ?_
  | (with_reducible refine iteNEq ?_ ?_; · assumption)
  | (with_reducible refine iteNb ?_ ?_; · assumption)
  | (with_reducible refine iteTb ?_ ?_; · assumption)
  | (with_reducible refine iteFb ?_ ?_; · assumption)
  | ((with_reducible refine iteFb ?_ ?_); · exact rfl)
  | ((with_reducible refine iteTb ?_ ?_); · exact rfl)
  | with_reducible refine iteST rfl ?_
  | with_reducible refine iteSF (by decide +kernel) ?_
  | (refine And.intro ?_ ?_; · leaf_len)
  | apply Exists.intro (α := V)
  | apply Exists.intro (α := Int)
  | apply Exists.intro (α := Addr)
  | apply Exists.intro (α := List V)
  | apply Exists.intro (α := Str)
  | apply Exists.intro (α := Nat)
  | apply Exists.intro (α := Bool)
  | apply Exists.intro (α := Value)
  | apply Exists.intro (α := List Int)
  | apply Exists.intro (α := List (List Int))
  | apply Exists.intro (α := List Bool)
  | apply Exists.intro (α := List (Str × V))
  | apply Exists.intro (α := Option (List (Option Int)))
  | apply Exists.intro (α := Option Int)
  | apply Exists.intro (α := Pt)
  | refine Or.inr ⟨_, rfl, ?_⟩
  | apply Or.inl)

variable {P : Program} {w : World} {K : PySem.W.Frag} {mg : Str → Option Value} {base : Heap} {A : Ad}
theorem hu1 {k : Nat} {A : Around} (hr : Room k A) : A.units + 1 < cLine := by have := hr.un; omega
theorem cr_set0W {X : Cx} (w' : World) (h : X.w = w') : CallR X (.type "set") (rSet0 w') := by subst h; exact cr_set0
theorem or_sinW {X : Cx} (w' : World) (h : X.w = w') : OpR X (compareOp .In) (rSIn w') := by subst h; exact or_sin
theorem pe_saddW {X : Cx} (w' : World) (h : X.w = w') {o e : Expr} {es : List Expr} {to : TE} {t : TA} {apos cpos : Pos} (ho : PE X o to) (ha : PA X (e :: es) t)
    (hbase : attributeBase o "add" X.env (eval o X.env) = eval o X.env := by rfl)
    (hfew : ((backTo cpos (starEach (e :: es) X.env)).all (fun x => !x.1) && (backToKw cpos (keywordEach [] X.env)).all (fun x => x.1.isSome)
      && decide ((e :: es).length + ([] : List Keyword).length + (if ([] : List Keyword).isEmpty then 0 else 1) < 30)) = true := by rfl)
    (hline : (apos.endLine == cpos.line) = true := by rfl) (hs : starEach (e :: es) X.env = (false, eval e X.env) :: starEach es X.env := by rfl) (hplain : (backTo cpos (starEach es X.env)).any (·.1) = false := by rfl) :
    PE X (.Call (.Attribute o "add" apos) (e :: es) [] cpos) (tSAdd w' to t) := by subst h; exact pe_sadd ho ha hbase hfew hline hs hplain
/-! ### the ways between standings -/
/-- lists of ints in a list, each an object of its own -/
def LL (H : Hp) (D : Addr) (nss : List (List Int)) : Prop := ∃ as : List Addr, H D = some (.lst (as.map V.ref)) ∧ as.Nodup ∧ D ∉ as ∧ All2 (fun a ns => H a = some (.lst (ns.map V.int))) as nss
theorem LL.same {H H' : Hp} {D : Addr} {nss : List (List Int)} (h : LL H D nss) (s : Same H H') : LL H' D nss := by
  obtain ⟨as, h1, h2, h3, h4⟩ := h
  exact ⟨as, s _ _ h1, h2, h3, h4.imp fun _ _ z => s _ _ z⟩
/-- where the events with an end lead, by their ends -/
def stepsOf (evs : List (List Int)) (s f : Nat) (j : Nat) : List Int := (evs.filter fun e => e.getD s 0 == (j : Int)).map fun e => e.getD f 0
def stepsAll (evs : List (List Int)) (s f n : Nat) : List (List Int) := (List.range n).map fun j => stepsOf evs s f j
theorem stepsOf_app (evs r : List (List Int)) (s f j : Nat) : stepsOf (evs ++ r) s f j = stepsOf evs s f j ++ stepsOf r s f j := by
  unfold stepsOf
  rw [List.filter_append, List.map_append]
theorem stepsOf_len (evs : List (List Int)) (s f j : Nat) : (stepsOf evs s f j).length ≤ evs.length := by
  unfold stepsOf
  rw [List.length_map]
  exact List.length_filter_le _ _
/-- two lists place by place, one place changed -/
theorem all2_upd {α β : Type} {R S : α → β → Prop} : ∀ {as : List α} {bs cs : List β} {i : Nat} {a : α}, as.Nodup → All2 R as bs → as[i]? = some a → bs.length = cs.length → (∀ b c, bs[i]? = some b → cs[i]? = some c → R a b → S a c) →
    (∀ j x b c, j ≠ i → as[j]? = some x → x ≠ a → bs[j]? = some b → cs[j]? = some c → R x b → S x c) → All2 S as cs
  | _, _, cs, i, a, nd, .nil, hi, hl, _, _ => by simp at hi
  | x :: as, b :: bs, c :: cs, 0, a, nd, .cons r t, hi, hl, h1, h2 => by
    have e : x = a := by simpa using hi
    subst e
    refine .cons (h1 b c rfl rfl r) ?_
    have nx : x ∉ as := (List.nodup_cons.mp nd).1
    have hl' : bs.length = cs.length := by simpa using hl
    clear hi hl h1 r nd
    -- all the others are as before
    suffices h : ∀ (k : Nat) (as : List α) (bs cs : List β), All2 R as bs → x ∉ as → bs.length = cs.length → (∀ j y b c, as[j]? = some y → y ≠ x → bs[j]? = some b → cs[j]? = some c → R y b → S y c) → All2 S as cs from
      h 0 as bs cs t nx hl' fun j y b' c' e1 ne e2 e3 r' => h2 (j + 1) y b' c' (by omega) (by simpa using e1) ne (by simpa using e2) (by simpa using e3) r'
    intro _ as bs cs t nx hl' h
    induction t generalizing cs with
    | nil =>
      cases cs with
      | nil => exact .nil
      | cons => simp at hl'
    | @cons y b as bs r t ih =>
      cases cs with
      | nil => simp at hl'
      | cons c cs =>
        have ny : y ≠ x := fun z => nx (by rw [z]; simp)
        exact .cons (h 0 y b c rfl ny rfl rfl r) (ih cs (fun z => nx (by simp [z])) (by simpa using hl') fun j y' b' c' e1 ne e2 e3 r' => h (j + 1) y' b' c' (by simpa using e1) ne (by simpa using e2) (by simpa using e3) r')
  | x :: as, b :: bs, c :: cs, i + 1, a, nd, .cons r t, hi, hl, h1, h2 => by
    have hi' : as[i]? = some a := by simpa using hi
    have nx : x ≠ a := fun z => (List.nodup_cons.mp nd).1 (by rw [z]; exact List.mem_of_getElem? hi')
    exact .cons (h2 0 x b c (by omega) rfl nx rfl rfl r) (all2_upd (List.nodup_cons.mp nd).2 t hi' (by simpa using hl) (fun b' c' e1 e2 r' => h1 b' c' (by simpa using e1) (by simpa using e2) r')
      fun j y b' c' ne e1 ny e2 e3 r' => h2 (j + 1) y b' c' (by omega) (by simpa using e1) ny (by simpa using e2) (by simpa using e3) r')
  | _ :: _, _ :: _, [], _, _, _, .cons _ _, _, hl, _, _ => by simp at hl
theorem all2_const {α β : Type} {R : α → β → Prop} {b : β} : ∀ {as : List α} {n : Nat} (g : Nat → β), (∀ j, g j = b) → as.length = n → (∀ a ∈ as, R a b) → All2 R as ((List.range n).map g) := by
  intro as n g hg hl h
  have e : (List.range n).map g = List.replicate n b := by
    rw [List.eq_replicate_iff]
    refine ⟨by simp, fun x hx => ?_⟩
    obtain ⟨j, _, rfl⟩ := List.mem_map.mp hx
    exact hg j
  rw [e, ← hl]
  clear e hl
  induction as with
  | nil => exact .nil
  | cons a as ih => exact .cons (h a (by simp)) (ih fun x hx => h x (by simp [hx]))
theorem stepsAll_at {evs : List (List Int)} {s f n j : Nat} {b : List Int} (h : (stepsAll evs s f n)[j]? = some b) : b = stepsOf evs s f j := by
  unfold stepsAll at h
  rw [List.getElem?_map] at h
  cases z : (List.range n)[j]? with
  | none => rw [z] at h; cases h
  | some k =>
    rw [z] at h
    obtain ⟨h1, h2⟩ := List.getElem?_eq_some_iff.mp z
    rw [List.getElem_range] at h2
    rw [h2]
    exact (Option.some.inj h).symm
theorem stepsOf_one {e : List Int} {s f j : Nat} : stepsOf [e] s f j = if (e.getD s 0 == (j : Int)) = true then [e.getD f 0] else [] := by
  unfold stepsOf
  rw [List.filter_cons, List.filter_nil]
  split <;> rfl
theorem stepsAll_len {evs : List (List Int)} {s f n : Nat} : (stepsAll evs s f n).length = n := by unfold stepsAll; simp
def spSteps (K : PySem.W.Frag) (C : Addr) : Sp := fun vs H Q _ => ∃ (m : V) (n : Int) (evs : List (List Int)) (s f : Nat), vs = [m, .int s, .int f] ∧ MachAt K C H m n evs ∧ 0 ≤ n ∧ n ≤ 1000 ∧ evs.length ≤ 1000 ∧ s < 2 ∧ f < 2 ∧ (∀ e ∈ evs, okEv n e) ∧
  ∀ (D : Addr) (H' : Hp), Same H H' → H D = none → LL H' D (stepsAll evs s f n.toNat) → Q (.ref D) H'
theorem okAt {n : Int} {e : List Int} (h : okEv n e) {s : Nat} (hs : s < 2) : ∃ x, e[s]? = some x ∧ e.getD s 0 = x ∧ 0 ≤ x ∧ x < n := by
  obtain ⟨b, a, t, p, rfl, b0, b1, a0, a1, _⟩ := h
  match s, hs with
  | 0, _ => exact ⟨b, rfl, rfl, b0, b1⟩
  | 1, _ => exact ⟨a, rfl, rfl, a0, a1⟩
theorem ok_steps (T : Txt K mg A) : FnOk P w K mg base CX0 1 A.f_steps A.d_steps ["machine", "side", "far_side"] (spSteps K A.C_Machine) := by
  refine T.F_steps.ok sc_steps (fun vs H Q E h => ?_) (fun cdv A1 outer s H vs Q E hr h => ?_)
  · obtain ⟨m, n, evs, s, f, rfl, _⟩ := h
    rfl
  · obtain ⟨m, n, evs, sd, f, rfl, hM, n0, n1, hl, s2', f2, oks, k⟩ := h
    refine ⟨_, (pss_cons (ps_setLc (i := 4) (own := [("_", 3)]) rfl sc_steps.nd rfl rfl (sw_true rfl rfl rfl (by decide +kernel)) (pi_range1 rfl T.z_range (pa_cons (pe_fldK K rfl (pv 0) (by rfl)) pa_nil)) (blkOk_by (N := ["machine", "side", "far_side", "_", "steps", "event"]) (sc := defScope s_steps) (by decide +kernel)) (fun _ _ _ _ _ => by exact (pg_name (i := 3) sc_steps.nd rfl (Or.inl rfl))) (fun _ _ _ _ _ => by exact pts_nil) (fun _ _ _ _ _ => by exact (pe_lst pa_nil)))
      (pss_cons (ps_for PassesOwn.never rfl (pi_tup (pe_fldK K rfl (pv 0) (by rfl))) (pg_name (i := 5) sc_steps.nd rfl (Or.inl rfl))
        (pss_one (ps_expr (pe_bm PySem.F.plainAttrs_list PySem.F.slot_list_append PySem.F.type_list_append mt_append (pe_ix (ix_listK K rfl) (pv 4) (pe_ix (ix_tupK K rfl) (pv 5) (pv 1) (fun _ _ => rfl)) (fun _ _ => rfl)) (pa_cons (pe_ix (ix_tupK K rfl) (pv 5) (pv 2) (fun _ _ => rfl)) pa_nil)))))
      (pss_one (ps_ret (pv 4))))), ?_⟩
    refine ⟨_, rfl, fldS hM T.cl_Machine T.n_standings ⟨_, rfl, by omega, by omega, fun D hD => ?_⟩⟩
    refine lc_range (lo := 0) (n := n.toNat) (fun i H' => Same H H' ∧ ∃ as : List Addr, H' D = some (.lst (as.map V.ref)) ∧ as.length = i ∧ as.Nodup ∧ ∀ a ∈ as, H' a = some (.lst []) ∧ H a = none ∧ a ≠ D) ⟨Same.new hD, [], upd_same, rfl, List.nodup_nil, fun _ h => by cases h⟩ ?_ ?_
    · rintro i H1 hi ⟨s1, as, hA, la, nd, all⟩
      refine ⟨rfl, Nat.zero_le _, fun z hz => ?_⟩
      have sz := Same.new (o := .lst []) hz
      have zD : z ≠ D := fun e => by rw [e, hA] at hz; cases hz
      have zn : H z = none := s1.free hz
      refine ⟨_, sz _ _ hA, by rw [List.length_map]; exact Nat.lt_of_lt_of_le (show as.length < 1001 by omega) (by decide), Same.chg (s1.trans sz) hD, as ++ [z], by rw [upd_same, List.map_append]; rfl, by rw [List.length_append, la]; rfl, ?_, fun a ha => ?_⟩
      · rw [List.nodup_append]
        refine ⟨nd, by simp, fun a ha b hb => ?_⟩
        have e : b = z := by simpa using hb
        rw [e]
        intro e2
        rw [e2] at ha
        rw [(all z ha).1] at hz
        cases hz
      · rcases List.mem_append.mp ha with ha | ha
        · obtain ⟨h1, h2, h3⟩ := all a ha
          exact ⟨by rw [upd_ne h3]; exact sz _ _ h1, h2, h3⟩
        · have e : a = z := by simpa using ha
          rw [e]
          exact ⟨by rw [upd_ne zD]; exact upd_same, zn, zD⟩
    · rintro H1 ⟨s1, as, hA, la, nd, all⟩
      have hM1 := hM.keep (Keep.of s1)
      refine ⟨_, rfl, fldE hM1 T.cl_Machine T.n_events fun w hw => ?_⟩
      obtain ⟨x, xs, rfl, hx, al⟩ := hw
      refine ⟨x, rfl, ⟨_, hx⟩, ?_⟩
      have hx0 : ∀ H', Keep H1 H' → SqT K H' x xs := fun H' kp => SqT.keep kp hx
      refine for_tup (K := K) (a := x) (xs := xs) (fun i σ H' => Same H H' ∧ Keep H1 H' ∧ (∃ u, σ = [some m, some (.int sd), some (.int f), none, some (.ref D), u]) ∧ H' D = some (.lst (as.map V.ref)) ∧ All2 (fun a ns => H' a = some (.lst (ns.map V.int))) as (stepsAll (evs.take i) sd f n.toNat))
        ⟨s1, Keep.refl _, ⟨_, rfl⟩, hA, ?_⟩ (fun i σ H' _ z => hx0 _ z.2.1) ?_ ?_
      · exact all2_const _ (fun j => rfl) la fun a ha => (all a ha).1
      · rintro i y σ H2 hi ⟨s2, k2, ⟨u, rfl⟩, hD2, al2⟩
        obtain ⟨e, he, hI⟩ := al.getL hi
        have hy := hI.keep k2
        obtain ⟨x1, x1e, x1d, x10, x11⟩ := okAt (oks e (List.mem_of_getElem? he)) s2'
        obtain ⟨x2, x2e, x2d, _, _⟩ := okAt (oks e (List.mem_of_getElem? he)) f2
        have xl : x1.toNat < as.length := by omega
        have hax := List.getElem?_eq_getElem xl
        have ham := List.getElem_mem xl
        generalize as[x1.toNat] = a at hax ham
        obtain ⟨_, ha2, ha3⟩ := all a ham
        obtain ⟨b, hb, haL⟩ := al2.getL hax
        have eb := stepsAll_at hb
        have lb := stepsOf_len (evs.take i) sd f x1.toNat
        have lti := List.length_take_le i evs
        have ltj : (evs.take i).length ≤ evs.length := by rw [List.length_take]; omega
        refine ⟨_, rfl, _, rfl, _, rfl, ixI hy (by omega) (by rw [Int.toNat_natCast]; exact x1e) ⟨D, _, x1, .ref a, rfl, rfl, SqL.lt hD2, at_ge x10 (by rw [List.getElem?_map, hax]; rfl), .inl ⟨rfl, _, SqL.lt haL⟩, _, rfl, _, rfl, ixI hy (by omega) (by rw [Int.toNat_natCast]; exact x2e) ⟨a, _, _, rfl, rfl, haL, ?_, ?_⟩⟩⟩
        · rw [List.length_map, eb]
          exact Nat.lt_of_lt_of_le (show (stepsOf (evs.take i) sd f x1.toNat).length < 1001 by omega) (by decide)
        · refine ⟨Same.chg s2 ha2, k2.trans (Keep.lst haL), ⟨_, rfl⟩, by rw [upd_ne ha3.symm]; exact hD2, ?_⟩
          have tk := take_succ he
          refine all2_upd (R := fun a ns => H2 a = some (.lst (ns.map V.int))) nd al2 hax (by rw [stepsAll_len, stepsAll_len]) (fun b' c' e1 e2 r' => ?_) (fun j x' b' c' nj e1 nx e2 e3 r' => ?_)
          · have eb' := stepsAll_at e1
            have ec' := stepsAll_at e2
            rw [tk, stepsOf_app, ← eb'] at ec'
            have e3 : stepsOf [e] sd f x1.toNat = [x2] := by
              have t : (e.getD sd 0 == ((x1.toNat : Nat) : Int)) = true := by rw [x1d]; simp; omega
              rw [stepsOf_one, if_pos t, x2d]
            rw [upd_same, ec', e3, List.map_append]
            rw [hb] at e1
            have e4 : b = b' := Option.some.inj e1
            rw [e4]
            rfl
          · have eb' := stepsAll_at e2
            have ec' := stepsAll_at e3
            rw [tk, stepsOf_app, ← eb'] at ec'
            have e4 : stepsOf [e] sd f j = [] := by
              have t : ¬ (e.getD sd 0 == ((j : Nat) : Int)) = true := by rw [x1d]; simp; omega
              rw [stepsOf_one, if_neg t]
            rw [upd_ne nx, ec', e4, List.append_nil]
            exact r'
      · rintro σ H2 ⟨s2, k2, ⟨u, rfl⟩, hD2, al2⟩
        rw [al.len, List.take_length] at al2
        exact ⟨_, rfl, k D H2 s2 hD ⟨as, hD2, nd, fun z => (all D z).2.2 rfl, al2⟩⟩
end
end Myk33

namespace Myk33
open PySem L2 My EnT Pl
section
-- Same from behind
local macro_rules | `(tactic| nest_cls) => `(tactic| first
  | exact Same.refl _
  | assumption
  | (refine Same.back (Same.new (by assumption)) ?_; nest_cls)
  | (refine Same.back (by assumption) ?_; nest_cls)
  | (refine Same.chg ?_ (by first | assumption | exact Free.flip (by assumption) (by nest_cls)); nest_cls))
-- Keep from behind
local macro_rules | `(tactic| mem_news) => `(tactic| first
  | exact Keep.refl _
  | assumption
  | (refine Keep.back (Keep.new (by assumption)) ?_; mem_news)
  | (refine Keep.back (Keep.lst (by assumption)) ?_; mem_news)
  | (refine Keep.back (Keep.lst (by kd_adr)) ?_; mem_news)
  | (refine Keep.back (Keep.of (by assumption)) ?_; mem_news)
  | (refine Keep.back (Keep.ofBut (by assumption) (by kba_ints)) ?_; mem_news)
  | (refine Keep.back (by assumption) ?_; mem_news))
-- the pot
local macro_rules | `(tactic| kba_ints) => `(tactic| first
  | assumption
  | (refine Pt.At.back (Same.new (by assumption)) ?_; kba_ints)
  | (refine Pt.At.back (by assumption) ?_; kba_ints)
  | exact Pt.At.flip (by assumption) (by nest_cls))
-- a fact of a heap, from behind
local macro_rules | `(tactic| kd_adr) => `(tactic| first
  | ((with_reducible show IT _ _ _ _); first
    | assumption
    | exact IT.new2
    | exact IT.new1
    | exact IT.new3
    | exact IT.new4
    | exact IT.flip (by assumption) (by mem_news)
    | exact IT.flip IT.new2 (by mem_news)
    | exact IT.flip IT.new3 (by mem_news)
    | exact IT.flip IT.new1 (by mem_news)
    | exact IT.flip IT.new4 (by mem_news))
  | ((with_reducible show ITs _ _ _ _); first
    | assumption
    | exact ITs.flip (by assumption) (by mem_news))
  | ((with_reducible show SqT _ _ _ _); first
    | assumption
    | exact SqT.lt upd_same
    | exact SqT.lt (by assumption)
    | exact IT.sq (by assumption)
    | exact SqT.flip (by assumption) (by mem_news)
    | exact SqT.flip (SqT.lt (by assumption)) (by mem_news)
    | exact SqT.flip (IT.sq (by assumption)) (by mem_news)
    | exact SqT.flip (SqT.lt upd_same) (by mem_news))
  | ((with_reducible show SqL _ _ _ _); first
    | assumption
    | exact SqL.lt upd_same
    | exact SqL.lt (by assumption)
    | exact SqL.flip (by assumption) (by nest_cls)
    | exact SqL.flip (SqL.lt (by assumption)) (by nest_cls)
    | exact SqL.flip (SqL.lt upd_same) (by nest_cls))
  | ((with_reducible show Parts _ _ _ _ _); first | assumption | exact Parts.flip (by assumption) (by mem_news))
  | ((with_reducible show MachAt _ _ _ _ _ _); first | assumption | exact MachAt.flip (by assumption) (by mem_news))
  | ((with_reducible show ShIs _ _ _ _ _); first | assumption | exact ShIs.flip (by assumption) (by mem_news))
  | ((with_reducible show RunIs _ _ _ _ _); first | assumption | exact RunIs.flip (by assumption) (by mem_news))
  | ((with_reducible show LTs _ _ _ _); first | assumption | exact LTs.flip (by assumption) (by nest_cls))
  | ((with_reducible show Pt.At _ _); kba_ints)
  | ((with_reducible show Same _ _); nest_cls)
  | ((with_reducible show Keep _ _); mem_news)
  | ((with_reducible show (_ : Hp) _ = some _); first
    | assumption
    | exact upd_same
    | exact At.flip (by assumption) (by nest_cls)
    | exact At.flip upd_same (by nest_cls)))
-- a side condition
local macro_rules | `(tactic| leaf_len) => `(tactic| first
  | (with_reducible rfl)
  | (with_reducible assumption)
  | kd_adr
  | omega
  | ((with_reducible show (_ : Nat) ≤ sizeLine); first | (show 1 ≤ sizeLine; decide) | (show 2 ≤ sizeLine; decide) | (show 3 ≤ sizeLine; decide) | (show 4 ≤ sizeLine; decide) | (show 5 ≤ sizeLine; decide) | (show 6 ≤ sizeLine; decide) | (show 7 ≤ sizeLine; decide) | (show 8 ≤ sizeLine; decide) | (show 0 ≤ sizeLine; decide))
  | exact rfl
  | ((with_reducible show _ ∨ _); first | exact Or.inl (by leaf_len) | exact Or.inr (by leaf_len))
  | exact List.cons_ne_nil _ _
  | exact mf_ev _ _
  | exact mf_st _ _
  | exact flat_ints _
  | ((with_reducible show tyV _ _ _ _); exact Or.inl ⟨rfl, _, by kd_adr⟩)
  | ((with_reducible show ClsV _ _); exact ClsV.ty _)
  | ((with_reducible show CDivW _ _); exact CDivW.of (by omega) (by omega))
  | (apply Exists.intro (α := List V); kd_adr)
  | assumption
  | ((with_reducible show small _); unfold small; omega)
  | ((with_reducible show CPow _ _); exact ⟨by decide, by decide, by decide⟩)
  | ((with_reducible show CMul _ _); first | exact CMul.l (by omega) (by omega) | exact CMul.r (by omega) (by omega))
  | ((with_reducible show CMulW _ _); exact CMulW.of (by omega) (by omega))
  | ((with_reducible show TyX _ _ _ _); first | exact TyX.base (.int _) | exact TyX.base (.str _) | exact TyX.base (.bl _) | exact tyT (by kd_adr) | exact TyX.base (.lst (by kd_adr)))
  | ((with_reducible show PySem.W.kitOne _ _ _ = some _); first | exact kit_ty (r := true) (by decide +kernel) | exact kit_ty (r := false) (by decide +kernel))
  | decide)
-- a step
local macro_rules | `(tactic| l_ints) => `(tactic| first
  | (intro (p : Addr) (hp : (_ : Hp) p = none))
  | (intro (H' : Hp) (s : Same _ H'))
  | (intro (p : Addr) (H' : Hp) (s : Same _ H'))
  | (intro (h : IT _ _ _ _))
  | (intro (h : SqT _ _ _ _))
  | (intro (h : (_ : Hp) _ = none))
  | (intro (h : (_ : Hp) _ = some _))
  | ((with_reducible show rCatA _ _ _ _ _); refine catJ (by kd_adr) (by kd_adr) (by leaf_len) ?_)
  | ((with_reducible show rSlA _ _ none (some _) _ _); refine slTake (by kd_adr) (by omega) ?_)
  | with_reducible refine tC_i ?_
  | with_reducible refine tNil_i ?_
  | with_reducible refine tCons_i ?_
  | with_reducible refine tCall_i ?_
  | with_reducible refine tOp_i ?_
  | ((with_reducible refine tVar_i ?_ ?_); · exact rfl)
  | with_reducible refine iteT ?_
  | with_reducible refine iteF ?_
  | (with_reducible refine iteNEq ?_ ?_; · assumption)
  | (with_reducible refine iteNb ?_ ?_; · assumption)
  | (with_reducible refine iteTb ?_ ?_; · assumption)
  | (with_reducible refine iteFb ?_ ?_; · assumption)
  | ((with_reducible refine iteFb ?_ ?_); · exact rfl)
  | ((with_reducible refine iteTb ?_ ?_); · exact rfl)
  | with_reducible refine iteST rfl ?_
  | with_reducible refine iteSF (by decide +kernel) ?_
  | (refine And.intro ?_ ?_; · leaf_len)
  | apply Exists.intro (α := V)
  | apply Exists.intro (α := Int)
  | apply Exists.intro (α := Addr)
  | apply Exists.intro (α := List V)
  | apply Exists.intro (α := Str)
  | apply Exists.intro (α := Nat)
  | apply Exists.intro (α := Bool)
  | apply Exists.intro (α := Value)
  | apply Exists.intro (α := List Int)
  | apply Exists.intro (α := List (List Int))
  | apply Exists.intro (α := List Bool)
  | apply Exists.intro (α := List (Str × V))
  | apply Exists.intro (α := Option (List (Option Int)))
  | apply Exists.intro (α := Option Int)
  | apply Exists.intro (α := Pt)
  | refine Or.inr ⟨_, rfl, ?_⟩
  | apply Or.inl)

variable {P : Program} {w : World} {K : PySem.W.Frag} {mg : Str → Option Value} {base : Heap} {A : Ad}
theorem nodup_le : ∀ (n : Nat) (l : List Int), l.Nodup → (∀ x ∈ l, 0 ≤ x ∧ x < (n : Int)) → l.length ≤ n
  | 0, l, _, h => by
    cases l with
    | nil => exact Nat.le_refl _
    | cons a t =>
      obtain ⟨h1, h2⟩ := h a (by simp)
      omega
  | n + 1, l, nd, h => by
    have ih := nodup_le n (l.erase (n : Int)) (nd.erase _) fun x hx => by
      obtain ⟨h1, h2⟩ := (nd.mem_erase_iff).mp hx
      obtain ⟨h3, h4⟩ := h x h2
      exact ⟨h3, by omega⟩
    have := List.length_erase (a := (n : Int)) (l := l)
    split at this <;> omega
/-- what is reached over the ways from a standing -/
inductive Rch (nss : List (List Int)) (s : Int) : Int → Prop
  | refl : Rch nss s s
  | step {k x : Int} : Rch nss s k → x ∈ nss.getD k.toNat [] → Rch nss s x
def dTr (ks : List Int) : List (Key × V) := ks.map fun k => (Sum.inl k, .bl true)
theorem dTr_has (x : Int) : ∀ ks : List Int, (valV (dTr ks) (Sum.inl x)).isSome = decide (x ∈ ks)
  | [] => by simp [dTr, valV]
  | k :: ks => by
    have ih := dTr_has x ks
    rw [← valV_any] at ih ⊢
    unfold dTr at ih ⊢
    rw [List.map_cons, List.any_cons, ih]
    by_cases c : x = k
    · subst c; simp
    · have c1 : ¬ (Sum.inl k : Key) = Sum.inl x := fun z => c (Sum.inl.inj z).symm
      simp [c, c1]
theorem dTr_put {x : Int} {ks : List Int} (h : x ∉ ks) : putK (dTr ks) (Sum.inl x) (.bl true) = dTr (ks ++ [x]) := by
  unfold putK
  rw [valV_any, dTr_has, decide_eq_false h, if_neg (by decide)]
  unfold dTr
  rw [List.map_append]
  rfl
theorem dTr_keys (ks : List Int) : (dTr ks).map (·.1) = ks.map Sum.inl := by
  unfold dTr
  rw [List.map_map]
  rfl
def lenO : Option HO → Nat
  | some (.dK kvs) => kvs.length
  | some (.lst xs) => xs.length
  | _ => 0
def spSpread : Sp := fun vs H Q _ => ∃ (S : Addr) (st : Int) (nss : List (List Int)), vs = [.ref S, .int st] ∧ LL H S nss ∧ 0 ≤ st ∧ st < (nss.length : Int) ∧ nss.length ≤ 1000 ∧ (∀ ns ∈ nss, ns.length ≤ 1000 ∧ ∀ x ∈ ns, 0 ≤ x ∧ x < (nss.length : Int)) ∧
  ∀ (F : Addr) (H' : Hp) (ks : List Int), Same H H' → H F = none → H' F = some (.dK (dTr ks)) → ks.Nodup → (∀ k, k ∈ ks ↔ Rch nss st k) → ks.length ≤ nss.length → Q (.ref F) H'
/-- what the walk over the ways keeps: known ones, waiting ones -/
structure Spr (nss : List (List Int)) (st : Int) (ks ws : List Int) : Prop where
  nd : ks.Nodup
  in_ : ∀ k ∈ ks, 0 ≤ k ∧ k < (nss.length : Int)
  rc : ∀ k ∈ ks, Rch nss st k
  st_ : st ∈ ks
  sub : ∀ k ∈ ws, k ∈ ks
theorem Spr.len {nss : List (List Int)} {st : Int} {ks ws : List Int} (h : Spr nss st ks ws) : ks.length ≤ nss.length := nodup_le _ _ h.nd h.in_
theorem Rch.all {nss : List (List Int)} {st : Int} {ks : List Int} (h0 : st ∈ ks) (hc : ∀ k ∈ ks, ∀ x ∈ nss.getD k.toNat [], x ∈ ks) : ∀ {k : Int}, Rch nss st k → k ∈ ks := by
  intro k r
  induction r with
  | refl => exact h0
  | step _ hx ih => exact hc _ ih _ hx
theorem ok_spread (T : Txt K mg A) : FnOk P w K mg base CX0 1 A.f_spread A.d_spread ["steps", "start"] (spSpread) := by
  refine T.F_spread.ok sc_spread (fun vs H Q E h => ?_) (fun cdv A1 outer s H vs Q E hr h => ?_)
  · obtain ⟨S, st, nss, rfl, _⟩ := h
    rfl
  · obtain ⟨S, st, nss, rfl, hL, st0, st1, ln, hns, k⟩ := h
    obtain ⟨as, hS, _, _, al⟩ := hL
    refine ⟨_, (pss_cons (ps_set (i := 2) sc_spread.nd rfl (Or.inl rfl) (pe_disp (pps_cons (pv 1) pe_bl pps_nil) (by rfl) (by rfl) (fun z => by cases z) (by decide)))
      (pss_cons (ps_set (i := 3) sc_spread.nd rfl (Or.inl rfl) (pe_lst (pa_cons (pv 1) pa_nil)))
      (pss_cons (ps_while PassesOwn.never (pt_truth (pv 3) (by intro _; rfl)) (pss_cons (ps_set (i := 4) sc_spread.nd rfl (Or.inl rfl) (pe_bm0 PySem.F.plainAttrs_list PySem.F.slot_list_pop PySem.F.type_list_pop mt_pop (pv 3)))
      (pss_one (ps_for PassesOwn.never rfl (pi_list (pe_ix (ix_listK K rfl) (pv 0) (pv 4) (fun _ _ => rfl))) (pg_name (i := 5) sc_spread.nd rfl (Or.inl rfl))
        (pss_one (ps_if (pt_cmp (pc_dnotin (hu1 hr) (pv 5) (pv 2))) (pss_cons (ps_dput (hu1 hr) (pv 2) (pv 5) pe_bl rfl)
      (pss_one (ps_expr (pe_bm PySem.F.plainAttrs_list PySem.F.slot_list_append PySem.F.type_list_append mt_append (pv 3) (pa_cons (pv 5) pa_nil))))) pss_nil))))))
      (pss_one (ps_ret (pv 2)))))), ?_⟩
    refine fun F hF => ⟨_, rfl, upd_same, [(Sum.inl st, .bl true)], rfl, (by show 1 ≤ 15; decide), ?_⟩
    have e0 : mergeK [] [(Sum.inl st, V.bl true)] = dTr [st] := rfl
    rw [e0, upd_upd]
    have sF := Same.new (o := .dK (dTr [st])) hF
    have hFF := upd_same (H := H) (a := F) (o := .dK (dTr [st]))
    refine ⟨_, rfl, (by show 1 ≤ sizeLine; decide), fun W hW => ?_⟩
    have nFW : F ≠ W := ne_of_none hFF hW
    have sW := Same.new (o := .lst [.int st]) hW
    have hW0 : H W = none := sF.free hW
    dsimp only [gName, tSeq]
    refine while_by (fun σ H' => Same H H' ∧ ∃ (ks ws : List Int) (u4 u5 : Option V), σ = [some (.ref S), some (.int st), some (.ref F), some (.ref W), u4, u5] ∧ H' F = some (.dK (dTr ks)) ∧ H' W = some (.lst (ws.map V.int)) ∧ Spr nss st ks ws ∧ (∀ k ∈ ks, k ∉ ws → ∀ x ∈ nss.getD k.toNat [], x ∈ ks) ∧ ws.length ≤ ks.length)
      (fun _ H' => 2 * nss.length - 2 * lenO (H' F) + lenO (H' W)) ⟨sF.trans sW, [st], [st], none, none, rfl, sW _ _ hFF, upd_same, ⟨by simp, fun k hk => ?_, fun k hk => ?_, by simp, fun k hk => hk⟩, (fun k hk nk => absurd hk nk), Nat.le_refl _⟩ ?_ ?_
    · have e : k = st := by simpa using hk
      rw [e]; exact ⟨st0, st1⟩
    · have e : k = st := by simpa using hk
      rw [e]; exact .refl
    · rintro σ H1 ⟨s1, ks, ws, u4, u5, rfl, hF1, hW1, sp, cl, lws⟩
      refine ⟨_, rfl, !(ws.map V.int).isEmpty, .inl ⟨_, SqL.lt hW1, rfl⟩, ?_⟩
      rcases List.eq_nil_or_concat ws with e | ⟨ws', hr, e⟩
      · subst e
        refine iteF ⟨_, rfl, k F H1 ks s1 hF hF1 sp.nd (fun x => ⟨sp.rc x, fun r => r.all sp.st_ fun y hy => cl y hy (by simp)⟩) sp.len⟩
      · have e' : ws = ws' ++ [hr] := by simpa using e
        subst e'
        have em : (!(List.map V.int (ws' ++ [hr])).isEmpty) = true := by simp
        rw [em]
        refine iteT ⟨_, rfl, .inl ⟨rfl, _, SqL.lt hW1⟩, W, _, .int hr, rfl, rfl, hW1, ?_, ?_⟩
        · rw [List.length_map, List.length_append, List.map_append]
          simp
        have dl : (List.map V.int (ws' ++ [hr])).dropLast = ws'.map V.int := by rw [List.map_append]; simp
        rw [dl]
        have s2 := Same.chg (o := .lst (ws'.map V.int)) s1 hW0
        have hF2 : upd H1 W (.lst (ws'.map V.int)) F = some (.dK (dTr ks)) := by rw [upd_ne nFW]; exact hF1
        have hW2 := upd_same (H := H1) (a := W) (o := .lst (ws'.map V.int))
        have lw : lenO (H1 W) = ws'.length + 1 := by rw [hW1]; show (List.map V.int (ws' ++ [hr])).length = _; simp
        have lf : lenO (H1 F) = ks.length := by rw [hF1]; show (dTr ks).length = _; simp [dTr]
        generalize upd H1 W (.lst (ws'.map V.int)) = H2 at s2 hF2 hW2 ⊢
        have hin := sp.in_ hr (sp.sub hr (by simp))
        have hlt : hr.toNat < nss.length := by omega
        obtain ⟨a, ha, hA⟩ := al.get (List.getElem?_eq_getElem hlt)
        have hd : nss.getD hr.toNat [] = nss[hr.toNat] := by rw [List.getD_eq_getElem?_getD, List.getElem?_eq_getElem hlt]; rfl
        obtain ⟨nl, nx⟩ := hns _ (List.getElem_mem hlt)
        rw [← hd] at hA nl nx
        generalize hnx : nss.getD hr.toNat [] = nxt at hA nl nx
        refine ⟨_, rfl, _, rfl, S, _, hr, .ref a, rfl, rfl, SqL.lt (s2 _ _ hS), at_ge hin.1 (by rw [List.getElem?_map, ha]; rfl), a, rfl, ⟨_, SqL.lt (s2 _ _ hA)⟩, ?_⟩
        refine for_list (K := K) (a := a) (xs := nxt.map V.int) (fun i σ H' => Same H H' ∧ ∃ (ks1 ws1 : List Int) (u5 : Option V), σ = [some (.ref S), some (.int st), some (.ref F), some (.ref W), some (.int hr), u5] ∧ H' F = some (.dK (dTr ks1)) ∧ H' W = some (.lst (ws1.map V.int)) ∧ Spr nss st ks1 ws1 ∧
            (∀ k ∈ ks, k ∈ ks1) ∧ (∀ x ∈ nxt.take i, x ∈ ks1) ∧ (∀ k ∈ ks1, k ∉ ws1 → k ≠ hr → ∀ x ∈ nss.getD k.toNat [], x ∈ ks1) ∧ ks.length ≤ ks1.length ∧ ws1.length + ks.length = ws'.length + ks1.length)
          ⟨s2, ks, ws', u5, rfl, hF2, hW2, ⟨sp.nd, sp.in_, sp.rc, sp.st_, fun k hk => sp.sub k (by simp [hk])⟩, fun _ h => h, (fun x hx => by simp at hx), fun k hk nk ne => cl k hk (fun z => by
            rcases List.mem_append.mp z with z | z
            · exact nk z
            · exact ne (by simpa using z)), Nat.le_refl _, rfl⟩ (fun i σ H' _ z => SqL.lt (z.1 _ _ hA)) ?_ ?_
        · rintro i y σ H3 hi ⟨s3, ks1, ws1, u5, rfl, hF3, hW3, sp1, sb, tk1, cl1, mk, ms⟩
          obtain ⟨j, hj, rfl⟩ : ∃ j, nxt[i]? = some j ∧ y = V.int j := by
            rw [List.getElem?_map] at hi
            cases z : nxt[i]? with
            | none => rw [z] at hi; cases hi
            | some n => rw [z] at hi; exact ⟨n, rfl, (Option.some.inj hi).symm⟩
          have tk := take_succ hj
          have jn := nx j (List.mem_of_getElem? hj)
          have l1 := sp1.len
          refine ⟨_, rfl, _, rfl, F, _, rfl, DGet.k (k := Sum.inl j) hF3, _, rfl, ?_⟩
          rw [dTr_has]
          by_cases c : j ∈ ks1
          · rw [decide_eq_true c]
            refine iteF ⟨s3, ks1, ws1, _, rfl, hF3, hW3, sp1, sb, fun x hx => ?_, cl1, mk, ms⟩
            rw [tk] at hx
            rcases List.mem_append.mp hx with hx | hx
            · exact tk1 x hx
            · rw [show x = j by simpa using hx]; exact c
          · rw [decide_eq_false c]
            refine iteT ⟨_, rfl, _, rfl, F, _, rfl, DPut.k (k := Sum.inl j) hF3 ?_, ?_⟩
            · show (dTr ks1).length < sizeLine
              unfold dTr
              rw [List.length_map]
              exact Nat.lt_of_le_of_lt (Nat.le_trans l1 ln) (by decide)
            rw [dTr_put c]
            have s4 := Same.chg (o := .dK (dTr (ks1 ++ [j]))) s3 hF
            have hW4 : upd H3 F (.dK (dTr (ks1 ++ [j]))) W = some (.lst (ws1.map V.int)) := by rw [upd_ne nFW.symm]; exact hW3
            have hF4 := upd_same (H := H3) (a := F) (o := .dK (dTr (ks1 ++ [j])))
            generalize upd H3 F (.dK (dTr (ks1 ++ [j]))) = H4 at s4 hW4 hF4 ⊢
            have sp2 : Spr nss st (ks1 ++ [j]) (ws1 ++ [j]) := by
              refine ⟨?_, fun k hk => ?_, fun k hk => ?_, by simp [sp1.st_], fun k hk => ?_⟩
              · rw [List.nodup_append]
                refine ⟨sp1.nd, by simp, fun x hx z hz e => ?_⟩
                have ez : z = j := by simpa using hz
                rw [e, ez] at hx
                exact c hx
              · rcases List.mem_append.mp hk with h | h
                · exact sp1.in_ k h
                · rw [show k = j by simpa using h]; exact jn
              · rcases List.mem_append.mp hk with h | h
                · exact sp1.rc k h
                · rw [show k = j by simpa using h]
                  exact .step (sp1.rc hr (sb hr (sp.sub hr (by simp)))) (by rw [hnx]; exact List.mem_of_getElem? hj)
              · rcases List.mem_append.mp hk with h | h
                · exact List.mem_append.mpr (.inl (sp1.sub k h))
                · exact List.mem_append.mpr (.inr h)
            have l2 := sp2.len
            rw [List.length_append] at l2
            have l2 : ks1.length + 1 ≤ nss.length := l2
            refine ⟨_, rfl, .inl ⟨rfl, _, SqL.lt hW4⟩, _, rfl, W, _, _, rfl, rfl, hW4, ?_, ?_⟩
            · rw [List.length_map]
              have l0 : ks.length ≤ nss.length := sp.len
              rw [List.length_append] at lws
              have lws : ws'.length + 1 ≤ ks.length := lws
              exact Nat.lt_of_le_of_lt (show ws1.length ≤ 1000 by omega) (by decide)
            · refine ⟨Same.chg s4 hW0, ks1 ++ [j], ws1 ++ [j], _, rfl, by rw [upd_ne nFW]; exact hF4, by rw [upd_same, List.map_append]; rfl, sp2, fun x hx => by simp [sb x hx], fun x hx => ?_, fun x hx nx' ne => ?_, ?_⟩
              · rw [tk] at hx
                rcases List.mem_append.mp hx with hx | hx
                · simp [tk1 x hx]
                · simp [show x = j by simpa using hx]
              · intro z hz
                rcases List.mem_append.mp hx with h | h
                · have := cl1 x h (fun q => nx' (by simp [q])) ne z hz
                  simp [this]
                · exact absurd (List.mem_append.mpr (.inr h)) nx'
              · rw [List.length_append, List.length_append]
                show ks.length ≤ ks1.length + 1 ∧ ws1.length + 1 + ks.length = ws'.length + (ks1.length + 1)
                omega
        · rintro σ H3 ⟨s3, ks1, ws1, u5, rfl, hF3, hW3, sp1, sb, tk1, cl1, mk, ms⟩
          rw [List.length_map, List.take_length] at tk1
          refine ⟨⟨s3, ks1, ws1, _, _, rfl, hF3, hW3, sp1, fun x hx nx' => ?_, ?_⟩, ?_⟩
          · by_cases c : x = hr
            · subst c
              rw [hnx]
              exact tk1
            · exact cl1 x hx nx' c
          · rw [List.length_append] at lws
            have lws : ws'.length + 1 ≤ ks.length := lws
            omega
          · show 2 * nss.length - 2 * lenO (H3 F) + lenO (H3 W) < 2 * nss.length - 2 * lenO (H1 F) + lenO (H1 W)
            have lw3 : lenO (H3 W) = ws1.length := by rw [hW3]; show (List.map V.int ws1).length = _; simp
            have lf3 : lenO (H3 F) = ks1.length := by rw [hF3]; show (dTr ks1).length = _; simp [dTr]
            have l1 := sp1.len
            have l0 : ks.length ≤ nss.length := sp.len
            rw [lw, lf, lw3, lf3]
            omega
    · intro σ H Q Q' hq h
      obtain ⟨x, hx, kk, ht, q⟩ := h
      exact ⟨x, hx, kk, ht, hq _ _ q⟩
end
end Myk33

namespace Myk33
open PySem L2 My EnT Pl
section
-- Same from behind
local macro_rules | `(tactic| nest_cls) => `(tactic| first
  | exact Same.refl _
  | assumption
  | (refine Same.back (Same.new (by assumption)) ?_; nest_cls)
  | (refine Same.back (by assumption) ?_; nest_cls)
  | (refine Same.chg ?_ (by first | assumption | exact Free.flip (by assumption) (by nest_cls)); nest_cls))
-- Keep from behind
local macro_rules | `(tactic| mem_news) => `(tactic| first
  | exact Keep.refl _
  | assumption
  | (refine Keep.back (Keep.new (by assumption)) ?_; mem_news)
  | (refine Keep.back (Keep.lst (by assumption)) ?_; mem_news)
  | (refine Keep.back (Keep.lst (by kd_adr)) ?_; mem_news)
  | (refine Keep.back (Keep.of (by assumption)) ?_; mem_news)
  | (refine Keep.back (Keep.ofBut (by assumption) (by kba_ints)) ?_; mem_news)
  | (refine Keep.back (by assumption) ?_; mem_news))
-- the pot
local macro_rules | `(tactic| kba_ints) => `(tactic| first
  | assumption
  | (refine Pt.At.back (Same.new (by assumption)) ?_; kba_ints)
  | (refine Pt.At.back (by assumption) ?_; kba_ints)
  | exact Pt.At.flip (by assumption) (by nest_cls))
-- a fact of a heap, from behind
local macro_rules | `(tactic| kd_adr) => `(tactic| first
  | ((with_reducible show IT _ _ _ _); first
    | assumption
    | exact IT.new2
    | exact IT.new1
    | exact IT.new3
    | exact IT.new4
    | exact IT.flip (by assumption) (by mem_news)
    | exact IT.flip IT.new2 (by mem_news)
    | exact IT.flip IT.new3 (by mem_news)
    | exact IT.flip IT.new1 (by mem_news)
    | exact IT.flip IT.new4 (by mem_news))
  | ((with_reducible show ITs _ _ _ _); first
    | assumption
    | exact ITs.flip (by assumption) (by mem_news))
  | ((with_reducible show SqT _ _ _ _); first
    | assumption
    | exact SqT.lt upd_same
    | exact SqT.lt (by assumption)
    | exact IT.sq (by assumption)
    | exact SqT.flip (by assumption) (by mem_news)
    | exact SqT.flip (SqT.lt (by assumption)) (by mem_news)
    | exact SqT.flip (IT.sq (by assumption)) (by mem_news)
    | exact SqT.flip (SqT.lt upd_same) (by mem_news))
  | ((with_reducible show SqL _ _ _ _); first
    | assumption
    | exact SqL.lt upd_same
    | exact SqL.lt (by assumption)
    | exact SqL.flip (by assumption) (by nest_cls)
    | exact SqL.flip (SqL.lt (by assumption)) (by nest_cls)
    | exact SqL.flip (SqL.lt upd_same) (by nest_cls))
  | ((with_reducible show Parts _ _ _ _ _); first | assumption | exact Parts.flip (by assumption) (by mem_news))
  | ((with_reducible show MachAt _ _ _ _ _ _); first | assumption | exact MachAt.flip (by assumption) (by mem_news))
  | ((with_reducible show ShIs _ _ _ _ _); first | assumption | exact ShIs.flip (by assumption) (by mem_news))
  | ((with_reducible show RunIs _ _ _ _ _); first | assumption | exact RunIs.flip (by assumption) (by mem_news))
  | ((with_reducible show LTs _ _ _ _); first | assumption | exact LTs.flip (by assumption) (by nest_cls))
  | ((with_reducible show Pt.At _ _); kba_ints)
  | ((with_reducible show Same _ _); nest_cls)
  | ((with_reducible show Keep _ _); mem_news)
  | ((with_reducible show (_ : Hp) _ = some _); first
    | assumption
    | exact upd_same
    | exact At.flip (by assumption) (by nest_cls)
    | exact At.flip upd_same (by nest_cls)))
-- a side condition
local macro_rules | `(tactic| leaf_len) => `(tactic| first
  | (with_reducible rfl)
  | (with_reducible assumption)
  | kd_adr
  | omega
  | ((with_reducible show (_ : Nat) ≤ sizeLine); first | (show 1 ≤ sizeLine; decide) | (show 2 ≤ sizeLine; decide) | (show 3 ≤ sizeLine; decide) | (show 4 ≤ sizeLine; decide) | (show 5 ≤ sizeLine; decide) | (show 6 ≤ sizeLine; decide) | (show 7 ≤ sizeLine; decide) | (show 8 ≤ sizeLine; decide) | (show 0 ≤ sizeLine; decide))
  | exact rfl
  | ((with_reducible show _ ∨ _); first | exact Or.inl (by leaf_len) | exact Or.inr (by leaf_len))
  | exact List.cons_ne_nil _ _
  | exact mf_ev _ _
  | exact mf_st _ _
  | exact flat_ints _
  | ((with_reducible show tyV _ _ _ _); exact Or.inl ⟨rfl, _, by kd_adr⟩)
  | ((with_reducible show ClsV _ _); exact ClsV.ty _)
  | ((with_reducible show CDivW _ _); exact CDivW.of (by omega) (by omega))
  | (apply Exists.intro (α := List V); kd_adr)
  | assumption
  | ((with_reducible show small _); unfold small; omega)
  | ((with_reducible show CPow _ _); exact ⟨by decide, by decide, by decide⟩)
  | ((with_reducible show CMul _ _); first | exact CMul.l (by omega) (by omega) | exact CMul.r (by omega) (by omega))
  | ((with_reducible show CMulW _ _); exact CMulW.of (by omega) (by omega))
  | ((with_reducible show TyX _ _ _ _); first | exact TyX.base (.int _) | exact TyX.base (.str _) | exact TyX.base (.bl _) | exact tyT (by kd_adr) | exact TyX.base (.lst (by kd_adr)))
  | ((with_reducible show PySem.W.kitOne _ _ _ = some _); first | exact kit_ty (r := true) (by decide +kernel) | exact kit_ty (r := false) (by decide +kernel))
  | decide)
-- a step
local macro_rules | `(tactic| l_ints) => `(tactic| first
  | (intro (p : Addr) (hp : (_ : Hp) p = none))
  | (intro (H' : Hp) (s : Same _ H'))
  | (intro (p : Addr) (H' : Hp) (s : Same _ H'))
  | (intro (h : IT _ _ _ _))
  | (intro (h : SqT _ _ _ _))
  | (intro (h : (_ : Hp) _ = none))
  | (intro (h : (_ : Hp) _ = some _))
  | ((with_reducible show rCatA _ _ _ _ _); refine catJ (by kd_adr) (by kd_adr) (by leaf_len) ?_)
  | ((with_reducible show rSlA _ _ none (some _) _ _); refine slTake (by kd_adr) (by omega) ?_)
  | with_reducible refine tC_i ?_
  | with_reducible refine tNil_i ?_
  | with_reducible refine tCons_i ?_
  | with_reducible refine tCall_i ?_
  | with_reducible refine tOp_i ?_
  | ((with_reducible refine tVar_i ?_ ?_); · exact rfl)
  | with_reducible refine iteT ?_
  | with_reducible refine iteF ?_
  | (with_reducible refine iteNEq ?_ ?_; · assumption)
  | (with_reducible refine iteNb ?_ ?_; · assumption)
  | (with_reducible refine iteTb ?_ ?_; · assumption)
  | (with_reducible refine iteFb ?_ ?_; · assumption)
  | ((with_reducible refine iteFb ?_ ?_); · exact rfl)
  | ((with_reducible refine iteTb ?_ ?_); · exact rfl)
  | with_reducible refine iteST rfl ?_
  | with_reducible refine iteSF (by decide +kernel) ?_
  | (refine And.intro ?_ ?_; · leaf_len)
  | apply Exists.intro (α := V)
  | apply Exists.intro (α := Int)
  | apply Exists.intro (α := Addr)
  | apply Exists.intro (α := List V)
  | apply Exists.intro (α := Str)
  | apply Exists.intro (α := Nat)
  | apply Exists.intro (α := Bool)
  | apply Exists.intro (α := Value)
  | apply Exists.intro (α := List Int)
  | apply Exists.intro (α := List (List Int))
  | apply Exists.intro (α := List Bool)
  | apply Exists.intro (α := List (Str × V))
  | apply Exists.intro (α := Option (List (Option Int)))
  | apply Exists.intro (α := Option Int)
  | apply Exists.intro (α := Pt)
  | refine Or.inr ⟨_, rfl, ?_⟩
  | apply Or.inl)

variable {P : Program} {w : World} {K : PySem.W.Frag} {mg : Str → Option Value} {base : Heap} {A : Ad}
theorem srt_eq : ∀ {a b : List Int}, a.Pairwise (· < ·) → b.Pairwise (· < ·) → (∀ k, k ∈ a ↔ k ∈ b) → a = b
  | [], [], _, _, _ => rfl
  | [], y :: ys, _, _, h => by have := (h y).mpr (by simp); simp at this
  | x :: xs, [], _, _, h => by have := (h x).mp (by simp); simp at this
  | x :: xs, y :: ys, p, q, h => by
    obtain ⟨p1, p2⟩ := List.pairwise_cons.mp p
    obtain ⟨q1, q2⟩ := List.pairwise_cons.mp q
    have e : x = y := by
      have h1 := (h x).mp (by simp)
      have h2 := (h y).mpr (by simp)
      rcases List.mem_cons.mp h1 with h1 | h1
      · exact h1
      · rcases List.mem_cons.mp h2 with h2 | h2
        · exact h2.symm
        · have := q1 x h1
          have := p1 y h2
          omega
    subst e
    rw [srt_eq p2 q2 fun k => ⟨fun hk => by
      have := (h k).mp (by simp [hk])
      rcases List.mem_cons.mp this with z | z
      · have := p1 k hk
        omega
      · exact z, fun hk => by
      have := (h k).mpr (by simp [hk])
      rcases List.mem_cons.mp this with z | z
      · have := q1 k hk
        omega
      · exact z⟩]
theorem srt_of {ys ks : List Int} (pm : ys.Perm ks) (pw : ys.Pairwise (· ≤ ·)) (nd : ks.Nodup) : ys.Pairwise (· < ·) := by
  have n2 : ys.Pairwise (· ≠ ·) := pm.symm.nodup nd
  exact (pw.and n2).imp fun {a b} h => by
    have h1 := h.1
    have h2 := h.2
    omega
/-- the standings of a machine that pass -/
noncomputable def pick (n : Nat) (P : Int → Prop) : List Int := ((List.range n).map fun (i : Nat) => (i : Int)).filter fun k => @decide (P k) (Classical.propDecidable _)
theorem pick_mem {n : Nat} {P : Int → Prop} {k : Int} : k ∈ pick n P ↔ (0 ≤ k ∧ k < (n : Int)) ∧ P k := by
  unfold pick
  rw [List.mem_filter, List.mem_map]
  refine ⟨fun ⟨⟨i, hi, e⟩, h⟩ => ⟨by have := List.mem_range.mp hi; omega, by simpa using h⟩, fun ⟨⟨h0, h1⟩, h⟩ => ⟨⟨k.toNat, List.mem_range.mpr (by omega), by omega⟩, by simpa using h⟩⟩
theorem pick_srt {n : Nat} {P : Int → Prop} : (pick n P).Pairwise (· < ·) := by
  unfold pick
  refine List.Pairwise.filter _ ?_
  rw [List.pairwise_map]
  exact List.pairwise_lt_range.imp fun h => by omega
theorem pick_eq {n : Nat} {P : Int → Prop} {a : List Int} (h : a.Pairwise (· < ·)) (hm : ∀ k, k ∈ a ↔ (0 ≤ k ∧ k < (n : Int)) ∧ P k) : a = pick n P := srt_eq h pick_srt fun k => (hm k).trans pick_mem.symm
theorem stepsOf_mem {n : Int} {evs : List (List Int)} (oks : ∀ e ∈ evs, okEv n e) {s f j : Nat} (hf : f < 2) : ∀ x ∈ stepsOf evs s f j, 0 ≤ x ∧ x < n := fun x hx => by
  unfold stepsOf at hx
  obtain ⟨e, he, rfl⟩ := List.mem_map.mp hx
  obtain ⟨y, _, e2, h0, h1⟩ := okAt (oks e (List.mem_filter.mp he).1) hf
  rw [e2]
  exact ⟨h0, h1⟩
theorem steps_ok {n : Int} {evs : List (List Int)} (oks : ∀ e ∈ evs, okEv n e) (n0 : 0 ≤ n) (hl : evs.length ≤ 1000) {s f : Nat} (hf : f < 2) : ∀ ns ∈ stepsAll evs s f n.toNat, ns.length ≤ 1000 ∧ ∀ x ∈ ns, 0 ≤ x ∧ x < ((stepsAll evs s f n.toNat).length : Int) := fun ns h => by
  rw [stepsAll_len]
  unfold stepsAll at h
  obtain ⟨j, _, rfl⟩ := List.mem_map.mp h
  refine ⟨Nat.le_trans (stepsOf_len _ _ _ _) hl, fun x hx => ?_⟩
  have := stepsOf_mem oks hf x hx
  omega
theorem Rch.in_ {nss : List (List Int)} {st : Int} (h : ∀ ns ∈ nss, ∀ x ∈ ns, 0 ≤ x ∧ x < (nss.length : Int)) (h0 : 0 ≤ st ∧ st < (nss.length : Int)) {k : Int} (r : Rch nss st k) : 0 ≤ k ∧ k < (nss.length : Int) := by
  induction r with
  | refl => exact h0
  | @step k x _ hx ih =>
    have hk : k.toNat < nss.length := by omega
    rw [List.getD_eq_getElem?_getD, List.getElem?_eq_getElem hk] at hx
    exact h _ (List.getElem_mem hk) x hx
/-- what is reached from a standing -/
noncomputable def rchL (evs : List (List Int)) (n : Nat) (s : Int) : List Int := pick n fun k => Rch (stepsAll evs 0 1 n) s k
def spReached (K : PySem.W.Frag) (C : Addr) : Sp := fun vs H Q _ => ∃ (m : V) (n : Int) (evs : List (List Int)), vs = [m] ∧ MachAt K C H m n evs ∧ 1 ≤ n ∧ n ≤ 60 ∧ evs.length ≤ 1000 ∧ (∀ e ∈ evs, okEv n e) ∧
  ∀ (q : Addr) (H' : Hp), Same H H' → H q = none → H' q = some (.tup ((rchL evs n.toNat 0).map V.int)) → Q (.ref q) H'
theorem ok_reached (T : Txt K mg A) : FnOk P w K mg base CX0 2 A.f_reached A.d_reached ["machine"] (spReached K A.C_Machine) := by
  refine T.F_reached.ok sc_reached (fun vs H Q E h => ?_) (fun cdv A1 outer s H vs Q E hr h => ?_)
  · obtain ⟨m, n, evs, rfl, _⟩ := h
    rfl
  · obtain ⟨m, n, evs, rfl, hM, n1, n60, hl, oks, k⟩ := h
    refine ⟨_, (pss_one (ps_ret (pe_callTy (call_tupleK K rfl) (by rfl) T.z_tuple (by decide +kernel) (pa_cons (pe_callB (call_sortedDI rfl) (by rfl) T.z_sorted (by decide +kernel) (pa_cons (pe_call (ok_spread T) (hr.mono (by decide)) rfl T.m_spread T.F_spread.kp T.B_spread .nil pass0 (pa_cons (pe_call (ok_steps T) (hr.mono (by decide)) rfl T.m_steps T.F_steps.kp T.B_steps .nil pass0 (pa_cons (pv 0) (pa_cons pe_int (pa_cons pe_int pa_nil)))) (pa_cons pe_int pa_nil))) pa_nil)) pa_nil)))), ?_⟩
    have ok := steps_ok oks (by omega) hl (s := 0) (f := 1) (by decide)
    refine ⟨_, rfl, m, n, evs, 0, 1, rfl, hM, by omega, by omega, hl, by decide, by decide, oks, fun D H1 s1 hD L => ?_⟩
    refine ⟨D, 0, _, rfl, L, by decide, by rw [stepsAll_len]; omega, by rw [stepsAll_len]; omega, ok, fun F H2 ks s2 hF hFF nd hks lk => ?_⟩
    rw [stepsAll_len] at lk
    refine ⟨F, dTr ks, ks, rfl, .inl hFF, dTr_keys ks, by omega, fun ys p pm pw hp => ?_⟩
    refine ⟨p, _, rfl, .inl ⟨SqL.lt upd_same, fun q hq => ?_⟩⟩
    have s3 := Same.new (o := .lst (ys.map V.int)) hp
    have s4 := Same.new (o := .tup (ys.map V.int)) hq
    refine k q _ (((s1.trans s2).trans s3).trans s4) (((s1.trans s2).trans s3).free hq) ?_
    have e : ys = rchL evs n.toNat 0 := pick_eq (srt_of pm pw nd) fun x => by
      rw [pm.mem_iff, hks x]
      refine ⟨fun r => ⟨?_, r⟩, fun h => h.2⟩
      have z := r.in_ (fun ns h => (ok ns h).2) ⟨by decide, by rw [stepsAll_len]; omega⟩
      rw [stepsAll_len] at z
      exact z
    rw [← e]
    exact upd_same
end
end Myk33

namespace Myk33
open PySem L2 My EnT Pl
section
-- Same from behind
local macro_rules | `(tactic| nest_cls) => `(tactic| first
  | exact Same.refl _
  | assumption
  | (refine Same.back (Same.new (by assumption)) ?_; nest_cls)
  | (refine Same.back (by assumption) ?_; nest_cls)
  | (refine Same.chg ?_ (by first | assumption | exact Free.flip (by assumption) (by nest_cls)); nest_cls))
-- Keep from behind
local macro_rules | `(tactic| mem_news) => `(tactic| first
  | exact Keep.refl _
  | assumption
  | (refine Keep.back (Keep.new (by assumption)) ?_; mem_news)
  | (refine Keep.back (Keep.lst (by assumption)) ?_; mem_news)
  | (refine Keep.back (Keep.lst (by kd_adr)) ?_; mem_news)
  | (refine Keep.back (Keep.of (by assumption)) ?_; mem_news)
  | (refine Keep.back (Keep.ofBut (by assumption) (by kba_ints)) ?_; mem_news)
  | (refine Keep.back (by assumption) ?_; mem_news))
-- the pot
local macro_rules | `(tactic| kba_ints) => `(tactic| first
  | assumption
  | (refine Pt.At.back (Same.new (by assumption)) ?_; kba_ints)
  | (refine Pt.At.back (by assumption) ?_; kba_ints)
  | exact Pt.At.flip (by assumption) (by nest_cls))
-- a fact of a heap, from behind
local macro_rules | `(tactic| kd_adr) => `(tactic| first
  | ((with_reducible show IT _ _ _ _); first
    | assumption
    | exact IT.new2
    | exact IT.new1
    | exact IT.new3
    | exact IT.new4
    | exact IT.flip (by assumption) (by mem_news)
    | exact IT.flip IT.new2 (by mem_news)
    | exact IT.flip IT.new3 (by mem_news)
    | exact IT.flip IT.new1 (by mem_news)
    | exact IT.flip IT.new4 (by mem_news))
  | ((with_reducible show ITs _ _ _ _); first
    | assumption
    | exact ITs.flip (by assumption) (by mem_news))
  | ((with_reducible show SqT _ _ _ _); first
    | assumption
    | exact SqT.lt upd_same
    | exact SqT.lt (by assumption)
    | exact IT.sq (by assumption)
    | exact SqT.flip (by assumption) (by mem_news)
    | exact SqT.flip (SqT.lt (by assumption)) (by mem_news)
    | exact SqT.flip (IT.sq (by assumption)) (by mem_news)
    | exact SqT.flip (SqT.lt upd_same) (by mem_news))
  | ((with_reducible show SqL _ _ _ _); first
    | assumption
    | exact SqL.lt upd_same
    | exact SqL.lt (by assumption)
    | exact SqL.flip (by assumption) (by nest_cls)
    | exact SqL.flip (SqL.lt (by assumption)) (by nest_cls)
    | exact SqL.flip (SqL.lt upd_same) (by nest_cls))
  | ((with_reducible show Parts _ _ _ _ _); first | assumption | exact Parts.flip (by assumption) (by mem_news))
  | ((with_reducible show MachAt _ _ _ _ _ _); first | assumption | exact MachAt.flip (by assumption) (by mem_news))
  | ((with_reducible show ShIs _ _ _ _ _); first | assumption | exact ShIs.flip (by assumption) (by mem_news))
  | ((with_reducible show RunIs _ _ _ _ _); first | assumption | exact RunIs.flip (by assumption) (by mem_news))
  | ((with_reducible show LTs _ _ _ _); first | assumption | exact LTs.flip (by assumption) (by nest_cls))
  | ((with_reducible show Pt.At _ _); kba_ints)
  | ((with_reducible show Same _ _); nest_cls)
  | ((with_reducible show Keep _ _); mem_news)
  | ((with_reducible show (_ : Hp) _ = some _); first
    | assumption
    | exact upd_same
    | exact At.flip (by assumption) (by nest_cls)
    | exact At.flip upd_same (by nest_cls)))
-- a side condition
local macro_rules | `(tactic| leaf_len) => `(tactic| first
  | (with_reducible rfl)
  | (with_reducible assumption)
  | kd_adr
  | omega
  | ((with_reducible show (_ : Nat) ≤ sizeLine); first | (show 1 ≤ sizeLine; decide) | (show 2 ≤ sizeLine; decide) | (show 3 ≤ sizeLine; decide) | (show 4 ≤ sizeLine; decide) | (show 5 ≤ sizeLine; decide) | (show 6 ≤ sizeLine; decide) | (show 7 ≤ sizeLine; decide) | (show 8 ≤ sizeLine; decide) | (show 0 ≤ sizeLine; decide))
  | exact rfl
  | ((with_reducible show _ ∨ _); first | exact Or.inl (by leaf_len) | exact Or.inr (by leaf_len))
  | exact List.cons_ne_nil _ _
  | exact mf_ev _ _
  | exact mf_st _ _
  | exact flat_ints _
  | ((with_reducible show tyV _ _ _ _); exact Or.inl ⟨rfl, _, by kd_adr⟩)
  | ((with_reducible show ClsV _ _); exact ClsV.ty _)
  | ((with_reducible show CDivW _ _); exact CDivW.of (by omega) (by omega))
  | (apply Exists.intro (α := List V); kd_adr)
  | assumption
  | ((with_reducible show small _); unfold small; omega)
  | ((with_reducible show CPow _ _); exact ⟨by decide, by decide, by decide⟩)
  | ((with_reducible show CMul _ _); first | exact CMul.l (by omega) (by omega) | exact CMul.r (by omega) (by omega))
  | ((with_reducible show CMulW _ _); exact CMulW.of (by omega) (by omega))
  | ((with_reducible show TyX _ _ _ _); first | exact TyX.base (.int _) | exact TyX.base (.str _) | exact TyX.base (.bl _) | exact tyT (by kd_adr) | exact TyX.base (.lst (by kd_adr)))
  | ((with_reducible show PySem.W.kitOne _ _ _ = some _); first | exact kit_ty (r := true) (by decide +kernel) | exact kit_ty (r := false) (by decide +kernel))
  | decide)
-- a step
local macro_rules | `(tactic| l_ints) => `(tactic| first
  | (intro (p : Addr) (hp : (_ : Hp) p = none))
  | (intro (H' : Hp) (s : Same _ H'))
  | (intro (p : Addr) (H' : Hp) (s : Same _ H'))
  | (intro (h : IT _ _ _ _))
  | (intro (h : SqT _ _ _ _))
  | (intro (h : (_ : Hp) _ = none))
  | (intro (h : (_ : Hp) _ = some _))
  | ((with_reducible show rCatA _ _ _ _ _); refine catJ (by kd_adr) (by kd_adr) (by leaf_len) ?_)
  | ((with_reducible show rSlA _ _ none (some _) _ _); refine slTake (by kd_adr) (by omega) ?_)
  | with_reducible refine tC_i ?_
  | with_reducible refine tNil_i ?_
  | with_reducible refine tCons_i ?_
  | with_reducible refine tCall_i ?_
  | with_reducible refine tOp_i ?_
  | ((with_reducible refine tVar_i ?_ ?_); · exact rfl)
  | with_reducible refine iteT ?_
  | with_reducible refine iteF ?_
  | (with_reducible refine iteNEq ?_ ?_; · assumption)
  | (with_reducible refine iteNb ?_ ?_; · assumption)
  | (with_reducible refine iteTb ?_ ?_; · assumption)
  | (with_reducible refine iteFb ?_ ?_; · assumption)
  | ((with_reducible refine iteFb ?_ ?_); · exact rfl)
  | ((with_reducible refine iteTb ?_ ?_); · exact rfl)
  | with_reducible refine iteST rfl ?_
  | with_reducible refine iteSF (by decide +kernel) ?_
  | (refine And.intro ?_ ?_; · leaf_len)
  | apply Exists.intro (α := V)
  | apply Exists.intro (α := Int)
  | apply Exists.intro (α := Addr)
  | apply Exists.intro (α := List V)
  | apply Exists.intro (α := Str)
  | apply Exists.intro (α := Nat)
  | apply Exists.intro (α := Bool)
  | apply Exists.intro (α := Value)
  | apply Exists.intro (α := List Int)
  | apply Exists.intro (α := List (List Int))
  | apply Exists.intro (α := List Bool)
  | apply Exists.intro (α := List (Str × V))
  | apply Exists.intro (α := Option (List (Option Int)))
  | apply Exists.intro (α := Option Int)
  | apply Exists.intro (α := Pt)
  | refine Or.inr ⟨_, rfl, ?_⟩
  | apply Or.inl)

variable {P : Program} {w : World} {K : PySem.W.Frag} {mg : Str → Option Value} {base : Heap} {A : Ad}
theorem stepsAll_getD {evs : List (List Int)} {s f n j : Nat} : (stepsAll evs s f n).getD j [] = if j < n then stepsOf evs s f j else [] := by
  unfold stepsAll
  rw [List.getD_eq_getElem?_getD, List.getElem?_map]
  by_cases c : j < n
  · rw [if_pos c, List.getElem?_range c]
    rfl
  · rw [if_neg c, List.getElem?_eq_none (by rw [List.length_range]; omega)]
    rfl
theorem edge_rev {n : Int} {evs : List (List Int)} (oks : ∀ e ∈ evs, okEv n e) {s f : Nat} (hs : s < 2) (hf : f < 2) {k x : Int} (k0 : 0 ≤ k) (h : x ∈ (stepsAll evs s f n.toNat).getD k.toNat []) : k ∈ (stepsAll evs f s n.toNat).getD x.toNat [] := by
  rw [stepsAll_getD] at h ⊢
  split at h
  · unfold stepsOf at h
    obtain ⟨e, he, rfl⟩ := List.mem_map.mp h
    obtain ⟨he1, he2⟩ := List.mem_filter.mp he
    obtain ⟨y, _, e2, h0, h1⟩ := okAt (oks e he1) hf
    rw [e2, if_pos (by omega)]
    unfold stepsOf
    refine List.mem_map.mpr ⟨e, List.mem_filter.mpr ⟨he1, ?_⟩, ?_⟩
    · rw [e2]
      simp
      omega
    · have := eq_of_beq he2
      omega
  · cases h
theorem Rch.trans {nss : List (List Int)} {a b c : Int} (h : Rch nss a b) (g : Rch nss b c) : Rch nss a c := by
  induction g with
  | refl => exact h
  | step _ hx ih => exact .step ih hx
theorem rch_rev {n : Int} {evs : List (List Int)} (oks : ∀ e ∈ evs, okEv n e) (n0 : 0 ≤ n) (hl : evs.length ≤ 1000) {s f : Nat} (hs : s < 2) (hf : f < 2) {a b : Int} (a0 : 0 ≤ a ∧ a < n) (h : Rch (stepsAll evs s f n.toNat) a b) : Rch (stepsAll evs f s n.toNat) b a := by
  induction h with
  | refl => exact .refl
  | @step k x r hx ih =>
    have hk := r.in_ (fun ns h => (steps_ok oks n0 hl hf ns h).2) (by rw [stepsAll_len]; omega)
    exact (Rch.step .refl (edge_rev oks hs hf hk.1 hx)).trans ih
/-- the knot of a standing -/
noncomputable def mutL (evs : List (List Int)) (n : Nat) (s : Int) : List Int := pick n fun k => Rch (stepsAll evs 0 1 n) s k ∧ Rch (stepsAll evs 0 1 n) k s
theorem pick_len {n : Nat} {P : Int → Prop} : (pick n P).length ≤ n := by
  unfold pick
  have := List.length_filter_le (fun k => @decide (P k) (Classical.propDecidable _)) ((List.range n).map fun (i : Nat) => (i : Int))
  rw [List.length_map, List.length_range] at this
  exact this
def knF (f : Int → List Int) (st : List (List Int) × List Int) (s : Int) : List (List Int) × List Int := if s ∈ st.2 then st else (st.1 ++ [f s], st.2 ++ f s)
def kn (f : Int → List Int) (l : List Int) : List (List Int) × List Int := l.foldl (knF f) ([], [])
theorem kn_snoc (f : Int → List Int) (l : List Int) (s : Int) : kn f (l ++ [s]) = knF f (kn f l) s := by
  unfold kn
  rw [List.foldl_append]
  rfl
theorem kn_len (f : Int → List Int) : ∀ (l : List Int) (st : List (List Int) × List Int), (l.foldl (knF f) st).1.length ≤ st.1.length + l.length
  | [], st => Nat.le_refl _
  | s :: l, st => by
    have ih := kn_len f l (knF f st s)
    have h : (knF f st s).1.length ≤ st.1.length + 1 := by
      unfold knF
      split
      · omega
      · show (st.1 ++ [f s]).length ≤ _
        rw [List.length_append]
        exact Nat.le_refl _
    rw [List.foldl_cons, List.length_cons]
    omega
/-- a comprehension from ints to ints over a list, with what has stayed -/
theorem lcIS {K : PySem.W.Frag} {a D : Addr} {ns : List Int} {g : TG} {tt : L2.TT} {te : TE} {vs : List Nat} {σ : L2.St} {H1 : Hp} {Qd : Hp → Prop} (f : Int → Bool)
    (hS : SqL K H1 a (ns.map V.int)) (hD : H1 D = none) (hl : ns.length < sizeLine)
    (hs : ∀ (n : Int) (H : Hp) (Q1 : Hp → Prop) (Q2 : V → Hp → Prop), n ∈ ns → Same H1 H → (f n = true → Q2 (.int n) H) → (f n = false → Q1 H) → g (.int n) (wipe σ vs) H fun σ2 H2 => wipe σ2 vs = wipe σ vs ∧ tt σ2 H2 fun b H3 => if b = true then te σ2 H3 Q2 else Q1 H3)
    (hd : Qd (upd H1 D (.lst ((ns.filter f).map V.int)))) :
    ∃ W : Nat → Nat → Hp → Prop, (∃ m, W 0 m (upd H1 D (.lst []))) ∧ ∀ i m H, W i m H →
      ((Itl K a).stop i H ∧ Qd H) ∨ ((Itl K a).go i H ∧ ∃ Nx : Hp → Prop, (∀ H', Nx H' → ∃ m', m' < m ∧ W (i + 1) m' H') ∧ ∀ x H', (Itl K a).yld i H x H' → g x (wipe σ vs) H' fun σ2 H2 => wipe σ2 vs = wipe σ vs ∧ tt σ2 H2 fun b H3 =>
        if b = true then te σ2 H3 fun y H4 => ∃ acc, H4 D = some (.lst acc) ∧ acc.length < sizeLine ∧ Nx (upd H4 D (.lst (acc ++ [y]))) else Nx H3) := by
  have sub : ∀ (H : Hp) (l : List V), H = upd H1 D (.lst l) → SqL K H a (ns.map V.int) := fun H l q => by
    rw [q]
    exact Same.seq (Same.new hD) hS
  refine lc_list (K := K) (a := a) (xs := ns.map V.int) (fun i H => H = upd H1 D (.lst (((ns.take i).filter f).map V.int))) rfl (fun i H _ q => sub H _ q) ?_ (fun H q => ?_)
  · intro i x H hi q
    obtain ⟨n, hn, rfl⟩ : ∃ n, ns[i]? = some n ∧ x = V.int n := by
      rw [List.getElem?_map] at hi
      cases z : ns[i]? with
      | none => rw [z] at hi; cases hi
      | some n => rw [z] at hi; exact ⟨n, rfl, (Option.some.inj hi).symm⟩
    have tk := take_succ hn
    have len : ((ns.take i).filter f).length < sizeLine := by
      have q1 := List.length_filter_le f (ns.take i)
      rw [List.length_take] at q1
      omega
    refine hs n H _ _ (List.mem_of_getElem? hn) (by rw [q]; exact Same.new hD) (fun c => ⟨_, by rw [q]; exact upd_same, by rw [List.length_map]; exact len, ?_⟩) (fun c => ?_)
    · show upd H D _ = _
      rw [tk, q, upd_upd, List.filter_append, List.map_append]
      simp [c]
    · show H = _
      rw [tk, q, List.filter_append]
      simp [c]
  · rw [List.length_map, List.take_length] at q
    rw [q]
    exact hd
theorem Same.but {l : List Addr} {H H1 H2 : Hp} (a : Same H H1) (b : But l H1 H2) (h : ∀ x ∈ l, H x = none) : Same H H2 := fun c o e => b c o (fun z => by
  rw [h c z] at e
  cases e) (a c o e)
theorem But.keep1 {H H' : Hp} {p : Addr} {o : HO} (h : H p = some o) (i : Im o = false) (b : But [p] H H') : Keep H H' := fun c u im e => b c u (fun z => by
  have z' : c = p := by simpa using z
  rw [z', h] at e
  cases e
  rw [i] at im
  cases im) e
/-- new tuples of ints in a list -/
def LTN (H0 H : Hp) (D : Addr) (nss : List (List Int)) : Prop := ∃ xs, H D = some (.lst xs) ∧ All2 (fun x ns => ∃ q, x = V.ref q ∧ H0 q = none ∧ H q = some (.tup (ns.map V.int))) xs nss
def spKnots (K : PySem.W.Frag) (C : Addr) : Sp := fun vs H Q _ => ∃ (m : V) (n : Int) (evs : List (List Int)), vs = [m] ∧ MachAt K C H m n evs ∧ 1 ≤ n ∧ n ≤ 60 ∧ evs.length ≤ 1000 ∧ (∀ e ∈ evs, okEv n e) ∧
  ∀ (D : Addr) (H' : Hp), Same H H' → H D = none → LTN H H' D (kn (mutL evs n.toNat) (rchL evs n.toNat 0)).1 → Q (.ref D) H'
theorem ok_knots (T : Txt K mg A) : FnOk P w K mg base CX0 3 A.f_knots A.d_knots ["machine"] (spKnots K A.C_Machine) := by
  refine T.F_knots.ok sc_knots (fun vs H Q E h => ?_) (fun cdv A1 outer s H vs Q E hr h => ?_)
  · obtain ⟨m, n, evs, rfl, _⟩ := h
    rfl
  · obtain ⟨m, n, evs, rfl, hM, n1, n60, hl, oks, k⟩ := h
    refine ⟨_, (pss_cons (ps_set (i := 1) sc_knots.nd rfl (Or.inl rfl) (pe_call (ok_steps T) (hr.mono (by decide)) rfl T.m_steps T.F_steps.kp T.B_steps .nil pass0 (pa_cons (pv 0) (pa_cons pe_int (pa_cons pe_int pa_nil)))))
      (pss_cons (ps_set (i := 2) sc_knots.nd rfl (Or.inl rfl) (pe_call (ok_steps T) (hr.mono (by decide)) rfl T.m_steps T.F_steps.kp T.B_steps .nil pass0 (pa_cons (pv 0) (pa_cons pe_int (pa_cons pe_int pa_nil)))))
      (pss_cons (ps_set (i := 3) sc_knots.nd rfl (Or.inl rfl) (pe_lst pa_nil))
      (pss_cons (ps_set (i := 4) sc_knots.nd rfl (Or.inl rfl) (pe_callTy0 (cr_set0W w rfl) (by rfl) T.z_set (by decide +kernel)))
      (pss_cons (ps_for PassesOwn.never rfl (pi_tup (pe_call (ok_reached T) (hr.mono (by decide)) rfl T.m_reached T.F_reached.kp T.B_reached .nil pass0 (pa_cons (pv 0) pa_nil))) (pg_name (i := 5) sc_knots.nd rfl (Or.inl rfl))
        (pss_cons (ps_if (pt_cmpR (or_sinW w rfl) (pv 5) (pv 4) (by with_unfolding_all rfl)) (pss_one ps_continue) pss_nil)
      (pss_cons (ps_set (i := 6) sc_knots.nd rfl (Or.inr rfl) (pe_call (ok_spread T) (hr.mono (by decide)) rfl T.m_spread T.F_spread.kp T.B_spread .nil pass0 (pa_cons (pv 2) (pa_cons (pv 5) pa_nil))))
      (pss_cons (ps_setLc (i := 8) (own := [("other", 7)]) rfl sc_knots.nd rfl rfl (sw_true rfl rfl rfl (by decide +kernel)) (pi_list (pe_callB (call_sortedDI rfl) (by rfl) T.z_sorted (by decide +kernel) (pa_cons (pe_call (ok_spread T) (hr.mono (by decide)) rfl T.m_spread T.F_spread.kp T.B_spread .nil pass0 (pa_cons (pv 1) (pa_cons (pv 5) pa_nil))) pa_nil))) (blkOk_by (N := ["machine", "forth", "back", "found", "placed", "standing", "leading", "other", "knot"]) (sc := defScope s_knots) (by decide +kernel)) (fun _ _ _ _ _ => by exact (pg_name (i := 7) sc_knots.nd rfl (Or.inl rfl))) (fun _ _ _ _ _ => by exact (pts_one (pt_cmp (pc_din (hu1 hr) (pv 7) (pv 6))))) (fun _ _ _ _ _ => by exact (pv 7)))
      (pss_cons (ps_for PassesOwn.never rfl (pi_list (pv 8)) (pg_name (i := 7) sc_knots.nd rfl (Or.inl rfl))
        (pss_one (ps_expr (pe_saddW w rfl (pv 4) (pa_cons (pv 7) pa_nil)))))
      (pss_one (ps_expr (pe_bm PySem.F.plainAttrs_list PySem.F.slot_list_append PySem.F.type_list_append mt_append (pv 3) (pa_cons (pe_callTy (call_tupleK K rfl) (by rfl) T.z_tuple (by decide +kernel) (pa_cons (pv 8) pa_nil)) pa_nil)))))))))
      (pss_one (ps_ret (pv 3)))))))), ?_⟩
    have okF := steps_ok oks (by omega) hl (s := 0) (f := 1) (by decide)
    have okB := steps_ok oks (by omega) hl (s := 1) (f := 0) (by decide)
    refine ⟨_, rfl, m, n, evs, 0, 1, rfl, hM, by omega, by omega, hl, by decide, by decide, oks, fun Fo H1 s1 hFo LF => ?_⟩
    refine ⟨_, rfl, m, n, evs, 1, 0, rfl, hM.keep (Keep.of s1), by omega, by omega, hl, by decide, by decide, oks, fun Bk H2 s2 hBk LB => ?_⟩
    refine ⟨Nat.zero_le _, fun D hD => ⟨rfl, fun Pl hPl => ?_⟩⟩
    have sD := Same.new (o := .lst []) hD
    have sP := Same.new (o := SetO w Pl (fun _ => false) 0) hPl
    have s12 := s1.trans s2
    have hD0 : H D = none := s12.free hD
    have hP0 : H Pl = none := (s12.trans sD).free hPl
    have nDP : D ≠ Pl := ne_of_none upd_same hPl
    have hDD := sP _ _ (upd_same (H := H2) (a := D) (o := .lst []))
    have hPP := upd_same (H := upd H2 D (.lst [])) (a := Pl) (o := SetO w Pl (fun _ => false) 0)
    have s0 := (s12.trans sD).trans sP
    have LF2 := LF.same s2
    have LB2 := LB
    have s23 := sD.trans sP
    generalize upd (upd H2 D (.lst [])) Pl (SetO w Pl (fun _ => false) 0) = H3 at hDD hPP s0 s23 ⊢
    refine ⟨_, rfl, m, n, evs, rfl, hM.keep (Keep.of s0), n1, n60, hl, oks, fun rq H4 s4 _ hrq0 => ?_⟩
    have hrq := SqT.lt (K := K) hrq0
    clear hrq0
    refine ⟨rq, rfl, ⟨_, hrq⟩, ?_⟩
    generalize hrs : rchL evs n.toNat 0 = rs at hrq k
    have lrs : rs.length ≤ 60 := by
      rw [← hrs]
      unfold rchL
      exact Nat.le_trans pick_len (by omega)
    have hin : ∀ s ∈ rs, 0 ≤ s ∧ s < n := fun s hs => by
      rw [← hrs] at hs
      have := (pick_mem.mp hs).1
      omega
    have hD2 := hD
    have hP2 : H2 Pl = none := sD.free hPl
    have s24 := s23.trans s4
    refine for_tup (K := K) (a := rq) (xs := rs.map V.int) (fun i σ H' => Same H2 H' ∧ Keep H4 H' ∧ ∃ (u5 u6 u7 u8 : Option V) (S : Int → Bool) (cnt : Nat), σ = [some m, some (.ref Fo), some (.ref Bk), some (.ref D), some (.ref Pl), u5, u6, u7, u8] ∧
        LTN H H' D (kn (mutL evs n.toNat) (rs.take i)).1 ∧ H' Pl = some (SetO w Pl S cnt) ∧ (∀ k, S k = decide (k ∈ (kn (mutL evs n.toNat) (rs.take i)).2)) ∧ cnt ≤ 60 * i)
      ⟨s24, Keep.refl _, none, none, none, none, _, 0, rfl, ⟨[], s4 _ _ hDD, .nil⟩, s4 _ _ hPP, fun k => by simp [kn], Nat.zero_le _⟩ (fun i σ H' _ z => SqT.keep z.2.1 hrq) ?_ ?_
    · rintro i y σ Ha hi ⟨sa, ka, u5, u6, u7, u8, S, cnt, rfl, hDa, hPa, hSS, hcnt⟩
      obtain ⟨s, hs, rfl⟩ : ∃ s, rs[i]? = some s ∧ y = V.int s := by
        rw [List.getElem?_map] at hi
        cases z : rs[i]? with
        | none => rw [z] at hi; cases hi
        | some n => rw [z] at hi; exact ⟨n, rfl, (Option.some.inj hi).symm⟩
      have il := (List.getElem?_eq_some_iff.mp hs).1
      obtain ⟨q0, q1⟩ := hin s (List.mem_of_getElem? hs)
      have tk := take_succ hs
      have kl := kn_len (mutL evs n.toNat) (rs.take i) ([], [])
      have ltk : (rs.take i).length = i := by rw [List.length_take]; omega
      rw [ltk] at kl
      have kl : (kn (mutL evs n.toNat) (rs.take i)).1.length ≤ 0 + i := kl
      have snoc : kn (mutL evs n.toNat) (rs.take (i + 1)) = knF (mutL evs n.toNat) (kn (mutL evs n.toNat) (rs.take i)) s := by rw [tk, kn_snoc]
      generalize kn (mutL evs n.toNat) (rs.take i) = acc at hDa hSS kl snoc
      refine ⟨_, rfl, _, rfl, s, Pl, S, cnt, rfl, rfl, hPa, _, rfl, ?_⟩
      rw [hSS s]
      by_cases c : s ∈ acc.2
      · rw [decide_eq_true c]
        have e : knF (mutL evs n.toNat) acc s = acc := if_pos c
        rw [e] at snoc
        refine iteT ⟨sa, ka, _, _, _, _, S, cnt, rfl, by rw [snoc]; exact hDa, hPa, fun k => by rw [snoc]; exact hSS k, by omega⟩
      · rw [decide_eq_false c]
        have e : knF (mutL evs n.toNat) acc s = (acc.1 ++ [mutL evs n.toNat s], acc.2 ++ mutL evs n.toNat s) := if_neg c
        rw [e] at snoc
        refine iteF ⟨_, rfl, _, rfl, Bk, s, _, rfl, LB2.same sa, q0, by rw [stepsAll_len]; omega, by rw [stepsAll_len]; omega, okB, fun F1 Hb ks1 sb _ hF1 nd1 hk1 lk1 => ?_⟩
        refine ⟨_, rfl, _, rfl, Fo, s, _, rfl, (LF2.same sa).same sb, q0, by rw [stepsAll_len]; omega, by rw [stepsAll_len]; omega, okF, fun F2 Hc ks2 sc _ hF2 nd2 hk2 lk2 => ?_⟩
        rw [stepsAll_len] at lk2
        refine ⟨F2, dTr ks2, ks2, rfl, .inl hF2, dTr_keys ks2, by omega, fun ys p pm pw hp => ⟨p, rfl, ⟨_, SqL.lt upd_same⟩, fun Dk hDk => ?_⟩⟩
        have sp := Same.new (o := .lst (ys.map V.int)) hp
        have ly : ys.length < sizeLine := by
          rw [pm.length_eq]
          exact Nat.lt_of_le_of_lt (show ks2.length ≤ 60 by omega) (by decide)
        refine lcIS (K := K) (a := p) (ns := ys) (fun x => decide (x ∈ ks1)) (SqL.lt upd_same) hDk ly (fun x Hx Q1 Q2 hx sx h1 h2 => ⟨rfl, _, rfl, _, rfl, F1, _, rfl, DGet.k (k := Sum.inl x) (sx _ _ (sp _ _ (sc _ _ hF1))), _, rfl, ?_⟩) ?_
        · rw [dTr_has]
          cases c : decide (x ∈ ks1) with
          | true => exact iteT ⟨_, rfl, h1 c⟩
          | false => exact iteF (h2 c)
        have em : ys.filter (fun x => decide (x ∈ ks1)) = mutL evs n.toNat s := pick_eq ((srt_of pm pw nd2).filter _) fun x => by
          rw [List.mem_filter, pm.mem_iff, hk2 x]
          have rin : ∀ {x : Int}, Rch (stepsAll evs 0 1 n.toNat) s x → 0 ≤ x ∧ x < (n.toNat : Int) := fun r => by
            have z := r.in_ (fun ns h => (okF ns h).2) ⟨q0, by rw [stepsAll_len]; omega⟩
            rw [stepsAll_len] at z
            exact z
          refine ⟨fun ⟨h1, h2⟩ => ⟨rin h1, h1, ?_⟩, fun ⟨h0, h1, h2⟩ => ⟨h1, ?_⟩⟩
          · exact rch_rev oks (by omega) hl (s := 1) (f := 0) (by decide) (by decide) ⟨q0, q1⟩ ((hk1 x).mp (of_decide_eq_true h2))
          · exact decide_eq_true ((hk1 x).mpr (rch_rev oks (by omega) hl (s := 0) (f := 1) (by decide) (by decide) (by omega) h2))
        rw [em]
        have lm : (mutL evs n.toNat s).length ≤ 60 := Nat.le_trans pick_len (by omega)
        have sDk := Same.new (o := .lst ((mutL evs n.toNat s).map V.int)) hDk
        have sad := ((sb.trans sc).trans sp).trans sDk
        have hKd := upd_same (H := upd Hc p (.lst (ys.map V.int))) (a := Dk) (o := .lst ((mutL evs n.toNat s).map V.int))
        clear em
        generalize mutL evs n.toNat s = kk at lm sad hKd snoc ⊢
        have nPk : Dk ≠ Pl := fun z => by
          have := sp _ _ (sc _ _ (sb _ _ hPa))
          rw [← z, hDk] at this
          cases this
        have nDk : D ≠ Dk := fun z => by
          obtain ⟨_, hx, _⟩ := hDa
          have := sp _ _ (sc _ _ (sb _ _ hx))
          rw [z, hDk] at this
          cases this
        generalize upd (upd Hc p (.lst (ys.map V.int))) Dk (.lst (kk.map V.int)) = Hd at sad hKd ⊢
        refine ⟨_, rfl, Dk, rfl, ⟨_, SqL.lt hKd⟩, ?_⟩
        refine for_list (K := K) (a := Dk) (xs := kk.map V.int) (fun j σ H' => But [Pl] Hd H' ∧ ∃ (u7 : Option V) (S : Int → Bool) (cnt : Nat), σ = [some m, some (.ref Fo), some (.ref Bk), some (.ref D), some (.ref Pl), some (.int s), some (.ref F1), u7, some (.ref Dk)] ∧
            H' Pl = some (SetO w Pl S cnt) ∧ (∀ k, S k = decide (k ∈ acc.2 ++ kk.take j)) ∧ cnt ≤ 60 * i + j)
          ⟨But.refl _ _, u7, S, cnt, rfl, sad _ _ hPa, fun k => by rw [hSS k, List.take_zero, List.append_nil], by omega⟩ (fun j σ H' _ z => SqL.lt (z.1 _ _ (by simpa using nPk) hKd)) ?_ ?_
        · rintro j y σ He hj ⟨be, u7, S, cnt, rfl, hPe, hSe, hce⟩
          obtain ⟨x, hx, rfl⟩ : ∃ x, kk[j]? = some x ∧ y = V.int x := by
            rw [List.getElem?_map] at hj
            cases z : kk[j]? with
            | none => rw [z] at hj; cases hj
            | some n => rw [z] at hj; exact ⟨n, rfl, (Option.some.inj hj).symm⟩
          have jl := (List.getElem?_eq_some_iff.mp hx).1
          refine ⟨_, rfl, ⟨Pl, S, cnt, rfl, hPe⟩, _, rfl, Pl, x, S, cnt, rfl, rfl, hPe, (by unfold scanBound; omega), ?_⟩
          refine ⟨be.trans (But.at (by simp)), _, _, _, rfl, upd_same, fun k => ?_, ?_⟩
          · rw [take_succ hx, hSe k]
            show (decide (k ∈ acc.2 ++ kk.take j) || decide (k = x)) = _
            rw [← List.append_assoc]
            simp [List.mem_append, Bool.or_assoc]
          · split <;> omega
        · rintro σ He ⟨be, u7, S', cnt', rfl, hPe, hSe, hce⟩
          rw [List.length_map, List.take_length] at hSe
          rw [List.length_map] at hce
          obtain ⟨xs, hx, al⟩ := hDa
          have hPd := sad _ _ hPa
          have kde := But.keep1 hPd rfl be
          have hxe := be _ _ (by simpa using nDP) (sad _ _ hx)
          have hke := be _ _ (by simpa using nPk) hKd
          have lx := al.len
          refine ⟨_, rfl, .inl ⟨rfl, _, SqL.lt hxe⟩, _, rfl, Dk, _, rfl, .inl ⟨SqL.lt hke, fun q hq => ?_⟩⟩
          have sq := Same.new (o := .tup (kk.map V.int)) hq
          refine ⟨D, xs, _, rfl, rfl, sq _ _ hxe, Nat.lt_of_le_of_lt (show xs.length ≤ 1000 by omega) (by decide), ?_⟩
          have kp := Keep.lst (o := .lst (xs ++ [.ref q])) (sq _ _ hxe)
          have kall : Keep Ha (upd He q (.tup (kk.map V.int))) := ((Keep.of sad).trans kde).trans (Keep.of sq)
          refine ⟨Same.chg ((Same.but (sa.trans sad) be fun x hx => by
            have e : x = Pl := by simpa using hx
            rw [e]; exact hP2).trans sq) hD2, (ka.trans kall).trans kp, _, _, _, _, S', cnt', rfl, ?_, ?_, fun k => by rw [snoc]; exact hSe k, by omega⟩
          · rw [snoc]
            have hqn := (s12.trans (Same.but (sa.trans sad) be fun x hx => by
              have e : x = Pl := by simpa using hx
              rw [e]; exact hP2)).free hq
            exact ⟨_, upd_same, (al.imp fun _ _ ⟨q', e', n', t'⟩ => ⟨q', e', n', kp _ _ rfl (kall _ _ rfl t')⟩).snoc ⟨q, rfl, hqn, kp _ _ rfl upd_same⟩⟩
          · rw [upd_ne nDP.symm]
            exact sq _ _ hPe
    · rintro σ Ha ⟨sa, ka, u5, u6, u7, u8, S, cnt, rfl, hDa, hPa, hSS, hcnt⟩
      rw [List.length_map, List.take_length] at hDa
      exact ⟨_, rfl, k D Ha (s12.trans sa) hD0 hDa⟩
end
end Myk33

namespace Myk33
open PySem L2 My EnT Pl
section
-- Same from behind
local macro_rules | `(tactic| nest_cls) => `(tactic| first
  | exact Same.refl _
  | assumption
  | (refine Same.back (Same.new (by assumption)) ?_; nest_cls)
  | (refine Same.back (by assumption) ?_; nest_cls)
  | (refine Same.chg ?_ (by first | assumption | exact Free.flip (by assumption) (by nest_cls)); nest_cls))
-- Keep from behind
local macro_rules | `(tactic| mem_news) => `(tactic| first
  | exact Keep.refl _
  | assumption
  | (refine Keep.back (Keep.new (by assumption)) ?_; mem_news)
  | (refine Keep.back (Keep.lst (by assumption)) ?_; mem_news)
  | (refine Keep.back (Keep.lst (by kd_adr)) ?_; mem_news)
  | (refine Keep.back (Keep.of (by assumption)) ?_; mem_news)
  | (refine Keep.back (Keep.ofBut (by assumption) (by kba_ints)) ?_; mem_news)
  | (refine Keep.back (by assumption) ?_; mem_news))
-- the pot
local macro_rules | `(tactic| kba_ints) => `(tactic| first
  | assumption
  | (refine Pt.At.back (Same.new (by assumption)) ?_; kba_ints)
  | (refine Pt.At.back (by assumption) ?_; kba_ints)
  | exact Pt.At.flip (by assumption) (by nest_cls))
-- a fact of a heap, from behind
local macro_rules | `(tactic| kd_adr) => `(tactic| first
  | ((with_reducible show IT _ _ _ _); first
    | assumption
    | exact IT.new2
    | exact IT.new1
    | exact IT.new3
    | exact IT.new4
    | exact IT.flip (by assumption) (by mem_news)
    | exact IT.flip IT.new2 (by mem_news)
    | exact IT.flip IT.new3 (by mem_news)
    | exact IT.flip IT.new1 (by mem_news)
    | exact IT.flip IT.new4 (by mem_news))
  | ((with_reducible show ITs _ _ _ _); first
    | assumption
    | exact ITs.flip (by assumption) (by mem_news))
  | ((with_reducible show SqT _ _ _ _); first
    | assumption
    | exact SqT.lt upd_same
    | exact SqT.lt (by assumption)
    | exact IT.sq (by assumption)
    | exact SqT.flip (by assumption) (by mem_news)
    | exact SqT.flip (SqT.lt (by assumption)) (by mem_news)
    | exact SqT.flip (IT.sq (by assumption)) (by mem_news)
    | exact SqT.flip (SqT.lt upd_same) (by mem_news))
  | ((with_reducible show SqL _ _ _ _); first
    | assumption
    | exact SqL.lt upd_same
    | exact SqL.lt (by assumption)
    | exact SqL.flip (by assumption) (by nest_cls)
    | exact SqL.flip (SqL.lt (by assumption)) (by nest_cls)
    | exact SqL.flip (SqL.lt upd_same) (by nest_cls))
  | ((with_reducible show Parts _ _ _ _ _); first | assumption | exact Parts.flip (by assumption) (by mem_news))
  | ((with_reducible show MachAt _ _ _ _ _ _); first | assumption | exact MachAt.flip (by assumption) (by mem_news))
  | ((with_reducible show ShIs _ _ _ _ _); first | assumption | exact ShIs.flip (by assumption) (by mem_news))
  | ((with_reducible show RunIs _ _ _ _ _); first | assumption | exact RunIs.flip (by assumption) (by mem_news))
  | ((with_reducible show LTs _ _ _ _); first | assumption | exact LTs.flip (by assumption) (by nest_cls))
  | ((with_reducible show Pt.At _ _); kba_ints)
  | ((with_reducible show Same _ _); nest_cls)
  | ((with_reducible show Keep _ _); mem_news)
  | ((with_reducible show (_ : Hp) _ = some _); first
    | assumption
    | exact upd_same
    | exact At.flip (by assumption) (by nest_cls)
    | exact At.flip upd_same (by nest_cls)))
-- a side condition
local macro_rules | `(tactic| leaf_len) => `(tactic| first
  | (with_reducible rfl)
  | (with_reducible assumption)
  | kd_adr
  | omega
  | ((with_reducible show (_ : Nat) ≤ sizeLine); first | (show 1 ≤ sizeLine; decide) | (show 2 ≤ sizeLine; decide) | (show 3 ≤ sizeLine; decide) | (show 4 ≤ sizeLine; decide) | (show 5 ≤ sizeLine; decide) | (show 6 ≤ sizeLine; decide) | (show 7 ≤ sizeLine; decide) | (show 8 ≤ sizeLine; decide) | (show 0 ≤ sizeLine; decide))
  | exact rfl
  | ((with_reducible show _ ∨ _); first | exact Or.inl (by leaf_len) | exact Or.inr (by leaf_len))
  | exact List.cons_ne_nil _ _
  | exact mf_ev _ _
  | exact mf_st _ _
  | exact flat_ints _
  | ((with_reducible show tyV _ _ _ _); exact Or.inl ⟨rfl, _, by kd_adr⟩)
  | ((with_reducible show ClsV _ _); exact ClsV.ty _)
  | ((with_reducible show CDivW _ _); exact CDivW.of (by omega) (by omega))
  | (apply Exists.intro (α := List V); kd_adr)
  | assumption
  | ((with_reducible show small _); unfold small; omega)
  | ((with_reducible show CPow _ _); exact ⟨by decide, by decide, by decide⟩)
  | ((with_reducible show CMul _ _); first | exact CMul.l (by omega) (by omega) | exact CMul.r (by omega) (by omega))
  | ((with_reducible show CMulW _ _); exact CMulW.of (by omega) (by omega))
  | ((with_reducible show TyX _ _ _ _); first | exact TyX.base (.int _) | exact TyX.base (.str _) | exact TyX.base (.bl _) | exact tyT (by kd_adr) | exact TyX.base (.lst (by kd_adr)))
  | ((with_reducible show PySem.W.kitOne _ _ _ = some _); first | exact kit_ty (r := true) (by decide +kernel) | exact kit_ty (r := false) (by decide +kernel))
  | decide)
-- a step
local macro_rules | `(tactic| l_ints) => `(tactic| first
  | (intro (p : Addr) (hp : (_ : Hp) p = none))
  | (intro (H' : Hp) (s : Same _ H'))
  | (intro (p : Addr) (H' : Hp) (s : Same _ H'))
  | (intro (h : IT _ _ _ _))
  | (intro (h : SqT _ _ _ _))
  | (intro (h : (_ : Hp) _ = none))
  | (intro (h : (_ : Hp) _ = some _))
  | ((with_reducible show rCatA _ _ _ _ _); refine catJ (by kd_adr) (by kd_adr) (by leaf_len) ?_)
  | ((with_reducible show rSlA _ _ none (some _) _ _); refine slTake (by kd_adr) (by omega) ?_)
  | with_reducible refine tC_i ?_
  | with_reducible refine tNil_i ?_
  | with_reducible refine tCons_i ?_
  | with_reducible refine tCall_i ?_
  | with_reducible refine tOp_i ?_
  | ((with_reducible refine tVar_i ?_ ?_); · exact rfl)
  | with_reducible refine iteT ?_
  | with_reducible refine iteF ?_
  | (with_reducible refine iteNEq ?_ ?_; · assumption)
  | (with_reducible refine iteNb ?_ ?_; · assumption)
  | (with_reducible refine iteTb ?_ ?_; · assumption)
  | (with_reducible refine iteFb ?_ ?_; · assumption)
  | ((with_reducible refine iteFb ?_ ?_); · exact rfl)
  | ((with_reducible refine iteTb ?_ ?_); · exact rfl)
  | with_reducible refine iteST rfl ?_
  | with_reducible refine iteSF (by decide +kernel) ?_
  | (refine And.intro ?_ ?_; · leaf_len)
  | apply Exists.intro (α := V)
  | apply Exists.intro (α := Int)
  | apply Exists.intro (α := Addr)
  | apply Exists.intro (α := List V)
  | apply Exists.intro (α := Str)
  | apply Exists.intro (α := Nat)
  | apply Exists.intro (α := Bool)
  | apply Exists.intro (α := Value)
  | apply Exists.intro (α := List Int)
  | apply Exists.intro (α := List (List Int))
  | apply Exists.intro (α := List Bool)
  | apply Exists.intro (α := List (Str × V))
  | apply Exists.intro (α := Option (List (Option Int)))
  | apply Exists.intro (α := Option Int)
  | apply Exists.intro (α := Pt)
  | refine Or.inr ⟨_, rfl, ?_⟩
  | apply Or.inl)

variable {P : Program} {w : World} {K : PySem.W.Frag} {mg : Str → Option Value} {base : Heap} {A : Ad}
theorem mem_F {n : Int} {evs : List (List Int)} {k x : Int} (k0 : 0 ≤ k) (h : x ∈ (stepsAll evs 0 1 n.toNat).getD k.toNat []) : ∃ e ∈ evs, e.getD 0 0 = k ∧ e.getD 1 0 = x := by
  rw [stepsAll_getD] at h
  split at h
  · unfold stepsOf at h
    obtain ⟨e, he, rfl⟩ := List.mem_map.mp h
    obtain ⟨h1, h2⟩ := List.mem_filter.mp he
    have := eq_of_beq h2
    exact ⟨e, h1, by omega, rfl⟩
  · cases h
theorem of_F {n : Int} {evs : List (List Int)} (oks : ∀ e ∈ evs, okEv n e) {e : List Int} (he : e ∈ evs) : e.getD 1 0 ∈ (stepsAll evs 0 1 n.toNat).getD (e.getD 0 0).toNat [] := by
  obtain ⟨y, _, e2, h0, h1⟩ := okAt (oks e he) (s := 0) (by decide)
  rw [stepsAll_getD, e2, if_pos (by omega)]
  unfold stepsOf
  refine List.mem_map.mpr ⟨e, List.mem_filter.mpr ⟨he, ?_⟩, rfl⟩
  rw [e2]
  simp
  omega
theorem sub_len : ∀ (l D : List Int), l.Nodup → (∀ x ∈ l, x ∈ D) → l.length ≤ D.length
  | [], D, _, _ => Nat.zero_le _
  | x :: l, D, nd, h => by
    obtain ⟨n1, n2⟩ := List.nodup_cons.mp nd
    have hx := h x (by simp)
    have ih := sub_len l (D.erase x) n2 fun y hy => (List.mem_erase_of_ne (fun e => n1 (by rw [← e]; exact hy))).mpr (h y (by simp [hy]))
    have e := List.length_erase_of_mem hx
    have p : 0 < D.length := List.length_pos_of_mem hx
    rw [List.length_cons]
    omega
def kdF (f : Int → List Int) (acc : List (List Int)) (s : Int) : List (List Int) := if f s ∈ acc then acc else acc ++ [f s]
/-- the knots of a list of standings, one behind another -/
theorem kn_all {f : Int → List Int} {L : List Int} (h1 : ∀ s ∈ L, s ∈ f s) (h2 : ∀ s ∈ L, ∀ q ∈ f s, q ∈ L ∧ f q = f s) (h3 : ∀ s ∈ L, (f s).Pairwise (· < ·)) :
    ∀ (l : List Int) (acc : List (List Int)) (pl : List Int), l.Pairwise (· < ·) → (∀ s ∈ l, s ∈ L) → pl = acc.flatten → (∀ ns ∈ acc, ∃ t r, ns = t :: r ∧ ns = f t ∧ t ∈ L ∧ ∀ s ∈ l, t < s) → SrtO.Srtd SrtT.lexI acc →
      (∀ q ∈ L, (∀ s ∈ l, q < s) → q ∈ pl) → pl.Nodup → (∀ q ∈ pl, q ∈ L) → (∀ q ∈ L, q ∉ l → ∀ s ∈ l, q < s) →
      SrtO.Srtd SrtT.lexI (l.foldl (knF f) (acc, pl)).1 ∧ (l.foldl (knF f) (acc, pl)).1 = l.foldl (kdF f) acc ∧ (l.foldl (knF f) (acc, pl)).2 = (l.foldl (knF f) (acc, pl)).1.flatten ∧ (l.foldl (knF f) (acc, pl)).2.Nodup ∧
        (∀ q, q ∈ (l.foldl (knF f) (acc, pl)).2 ↔ q ∈ L) ∧ ∀ ns ∈ (l.foldl (knF f) (acc, pl)).1, ns ≠ []
  | [], acc, pl, _, _, e, ha, hs, hq, nd, hp, _ => ⟨hs, rfl, e, nd, fun q => ⟨hp q, fun m => hq q m fun s z => by cases z⟩, fun ns hn z => by
    obtain ⟨t, r, h, _⟩ := ha ns hn
    rw [z] at h
    cases h⟩
  | s :: l, acc, pl, pw, sub, e, ha, hs, hq, nd, hp, ho => by
    obtain ⟨p1, p2⟩ := List.pairwise_cons.mp pw
    have sL := sub s (by simp)
    have iff : s ∈ pl ↔ f s ∈ acc := by
      rw [e, List.mem_flatten]
      refine ⟨fun ⟨ns, n1, n2⟩ => ?_, fun h => ⟨f s, h, h1 s sL⟩⟩
      obtain ⟨t, r, _, e2, tL, _⟩ := ha ns n1
      rw [e2] at n2
      rw [(h2 t tL s n2).2, ← e2]
      exact n1
    have ho' : ∀ q ∈ L, q ∉ l → ∀ x ∈ l, q < x := fun q qL nq x xl => by
      by_cases c : q = s
      · rw [c]; exact p1 x xl
      · have := ho q qL (by simp [c, nq]) s (by simp)
        have := p1 x xl
        omega
    rw [List.foldl_cons, List.foldl_cons]
    by_cases c : s ∈ pl
    · have e1 : knF f (acc, pl) s = (acc, pl) := if_pos c
      have e2 : kdF f acc s = acc := if_pos (iff.mp c)
      rw [e1, e2]
      refine kn_all h1 h2 h3 l acc pl p2 (fun x hx => sub x (by simp [hx])) e (fun ns hn => ?_) hs (fun q qL hl => ?_) nd hp ho'
      · obtain ⟨t, r, a1, a2, a3, a4⟩ := ha ns hn
        exact ⟨t, r, a1, a2, a3, fun x hx => a4 x (by simp [hx])⟩
      · by_cases cq : q = s
        · rw [cq]; exact c
        · refine hq q qL fun x hx => ?_
          refine ho q qL (fun z => ?_) x hx
          rcases List.mem_cons.mp z with z | z
          · exact cq z
          · have := hl q z
            omega
    · have e1 : knF f (acc, pl) s = (acc ++ [f s], pl ++ f s) := if_neg c
      have e2 : kdF f acc s = acc ++ [f s] := if_neg fun z => c (iff.mpr z)
      rw [e1, e2]
      have disj : ∀ q ∈ f s, q ∉ pl := fun q hqs hqp => by
        rw [e, List.mem_flatten] at hqp
        obtain ⟨ns, n1, n2⟩ := hqp
        obtain ⟨t, r, _, e3, tL, _⟩ := ha ns n1
        rw [e3] at n2
        have z := (h2 s sL q hqs).2.symm.trans (h2 t tL q n2).2
        exact c (iff.mpr (by rw [z, ← e3]; exact n1))
      have least : ∀ q ∈ f s, s ≤ q := fun q hqs => by
        by_cases z : s ≤ q
        · exact z
        · exfalso
          refine disj q hqs (hq q (h2 s sL q hqs).1 fun x hx => ?_)
          rcases List.mem_cons.mp hx with hx | hx
          · omega
          · have := p1 x hx
            omega
      obtain ⟨r, er⟩ : ∃ r, f s = s :: r := by
        have hm := h1 s sL
        have hp3 := h3 s sL
        cases hfs : f s with
        | nil => rw [hfs] at hm; cases hm
        | cons x xs =>
          rw [hfs] at hm hp3
          have lx := least x (by rw [hfs]; simp)
          rcases List.mem_cons.mp hm with hm | hm
          · exact ⟨xs, by rw [hm]⟩
          · have := (List.pairwise_cons.mp hp3).1 s hm
            omega
      refine kn_all h1 h2 h3 l (acc ++ [f s]) (pl ++ f s) p2 (fun x hx => sub x (by simp [hx])) (by rw [e]; simp) (fun ns hn => ?_) ?_ (fun q qL hl => ?_) ?_ (fun q hqp => ?_) ho'
      · rcases List.mem_append.mp hn with hn | hn
        · obtain ⟨t, r, a1, a2, a3, a4⟩ := ha ns hn
          exact ⟨t, r, a1, a2, a3, fun x hx => a4 x (by simp [hx])⟩
        · rw [show ns = f s by simpa using hn]
          exact ⟨s, r, er, rfl, sL, fun x hx => p1 x hx⟩
      · refine SrtO.srtd_snoc hs fun ns hn => ?_
        obtain ⟨t, r', a1, _, _, a4⟩ := ha ns hn
        have lt := a4 s (by simp)
        rw [er, a1]
        show (if s = t then SrtT.lexI r r' else decide (s < t)) = false
        rw [if_neg (by omega)]
        exact decide_eq_false (by omega)
      · by_cases cq : q = s
        · rw [cq]
          exact List.mem_append.mpr (.inr (h1 s sL))
        · refine List.mem_append.mpr (.inl (hq q qL fun x hx => ho q qL (fun z => ?_) x hx))
          rcases List.mem_cons.mp z with z | z
          · exact cq z
          · have := hl q z
            omega
      · rw [List.nodup_append]
        refine ⟨nd, (h3 s sL).imp fun h => by omega, fun x hx y hy z => disj y hy (by rw [← z]; exact hx)⟩
      · rcases List.mem_append.mp hqp with hqp | hqp
        · exact hp q hqp
        · exact (h2 s sL q hqp).1
theorem mutL_facts {n : Int} {evs : List (List Int)} (oks : ∀ e ∈ evs, okEv n e) (n0 : 0 < n) (hl : evs.length ≤ 1000) :
    (∀ s ∈ rchL evs n.toNat 0, s ∈ mutL evs n.toNat s) ∧ (∀ s ∈ rchL evs n.toNat 0, ∀ q ∈ mutL evs n.toNat s, q ∈ rchL evs n.toNat 0 ∧ mutL evs n.toNat q = mutL evs n.toNat s) := by
  refine ⟨fun s hs => pick_mem.mpr ⟨(pick_mem.mp hs).1, .refl, .refl⟩, fun s hs q hq => ?_⟩
  obtain ⟨a1, a2⟩ := pick_mem.mp hs
  obtain ⟨b1, b2, b3⟩ := pick_mem.mp hq
  refine ⟨pick_mem.mpr ⟨b1, a2.trans b2⟩, srt_eq pick_srt pick_srt fun k => ?_⟩
  unfold mutL
  rw [pick_mem, pick_mem]
  exact ⟨fun ⟨h, h1, h2⟩ => ⟨h, b2.trans h1, h2.trans b3⟩, fun ⟨h, h1, h2⟩ => ⟨h, b3.trans h1, h2.trans b2⟩⟩
theorem knots_facts {n : Int} {evs : List (List Int)} (oks : ∀ e ∈ evs, okEv n e) (n0 : 0 < n) (hl : evs.length ≤ 1000) :
    SrtO.Srtd SrtT.lexI (kn (mutL evs n.toNat) (rchL evs n.toNat 0)).1 ∧ (kn (mutL evs n.toNat) (rchL evs n.toNat 0)).1 = (rchL evs n.toNat 0).foldl (kdF (mutL evs n.toNat)) [] ∧
      ((kn (mutL evs n.toNat) (rchL evs n.toNat 0)).1.map fun ns => (ns.length : Int)).sum = (rchL evs n.toNat 0).length ∧ ∀ ns ∈ (kn (mutL evs n.toNat) (rchL evs n.toNat 0)).1, ns ≠ [] := by
  obtain ⟨h1, h2⟩ := mutL_facts oks n0 hl
  obtain ⟨a1, a2, a3, a4, a5, a6⟩ := kn_all h1 h2 (fun s _ => pick_srt) (rchL evs n.toNat 0) [] [] pick_srt (fun _ h => h) rfl (fun _ h => by cases h) List.Pairwise.nil (fun q hq h => by
    have := h q hq
    omega) List.nodup_nil (fun _ h => by cases h) (fun q hq nq => absurd hq nq)
  refine ⟨a1, a2, ?_, a6⟩
  have nd : (rchL evs n.toNat 0).Nodup := pick_srt.imp fun h => by omega
  have e1 := sub_len _ _ a4 fun q hq => (a5 q).mp hq
  have e2 := sub_len _ _ nd fun q hq => (a5 q).mpr hq
  have e3 : ∀ l : List (List Int), (l.map fun ns => (ns.length : Int)).sum = (l.flatten.length : Int) := fun l => by
    induction l with
    | nil => rfl
    | cons x l ih => rw [List.map_cons, List.sum_cons, ih, List.flatten_cons, List.length_append]; omega
  rw [e3]
  unfold kn
  rw [← a3]
  omega
end
end Myk33

namespace Myk33
open PySem L2 My EnT Pl
section
-- Same from behind
local macro_rules | `(tactic| nest_cls) => `(tactic| first
  | exact Same.refl _
  | assumption
  | (refine Same.back (Same.new (by assumption)) ?_; nest_cls)
  | (refine Same.back (by assumption) ?_; nest_cls)
  | (refine Same.chg ?_ (by first | assumption | exact Free.flip (by assumption) (by nest_cls)); nest_cls))
-- Keep from behind
local macro_rules | `(tactic| mem_news) => `(tactic| first
  | exact Keep.refl _
  | assumption
  | (refine Keep.back (Keep.new (by assumption)) ?_; mem_news)
  | (refine Keep.back (Keep.lst (by assumption)) ?_; mem_news)
  | (refine Keep.back (Keep.lst (by kd_adr)) ?_; mem_news)
  | (refine Keep.back (Keep.of (by assumption)) ?_; mem_news)
  | (refine Keep.back (Keep.ofBut (by assumption) (by kba_ints)) ?_; mem_news)
  | (refine Keep.back (by assumption) ?_; mem_news))
-- the pot
local macro_rules | `(tactic| kba_ints) => `(tactic| first
  | assumption
  | (refine Pt.At.back (Same.new (by assumption)) ?_; kba_ints)
  | (refine Pt.At.back (by assumption) ?_; kba_ints)
  | exact Pt.At.flip (by assumption) (by nest_cls))
-- a fact of a heap, from behind
local macro_rules | `(tactic| kd_adr) => `(tactic| first
  | ((with_reducible show IT _ _ _ _); first
    | assumption
    | exact IT.new2
    | exact IT.new1
    | exact IT.new3
    | exact IT.new4
    | exact IT.flip (by assumption) (by mem_news)
    | exact IT.flip IT.new2 (by mem_news)
    | exact IT.flip IT.new3 (by mem_news)
    | exact IT.flip IT.new1 (by mem_news)
    | exact IT.flip IT.new4 (by mem_news))
  | ((with_reducible show ITs _ _ _ _); first
    | assumption
    | exact ITs.flip (by assumption) (by mem_news))
  | ((with_reducible show SqT _ _ _ _); first
    | assumption
    | exact SqT.lt upd_same
    | exact SqT.lt (by assumption)
    | exact IT.sq (by assumption)
    | exact SqT.flip (by assumption) (by mem_news)
    | exact SqT.flip (SqT.lt (by assumption)) (by mem_news)
    | exact SqT.flip (IT.sq (by assumption)) (by mem_news)
    | exact SqT.flip (SqT.lt upd_same) (by mem_news))
  | ((with_reducible show SqL _ _ _ _); first
    | assumption
    | exact SqL.lt upd_same
    | exact SqL.lt (by assumption)
    | exact SqL.flip (by assumption) (by nest_cls)
    | exact SqL.flip (SqL.lt (by assumption)) (by nest_cls)
    | exact SqL.flip (SqL.lt upd_same) (by nest_cls))
  | ((with_reducible show Parts _ _ _ _ _); first | assumption | exact Parts.flip (by assumption) (by mem_news))
  | ((with_reducible show MachAt _ _ _ _ _ _); first | assumption | exact MachAt.flip (by assumption) (by mem_news))
  | ((with_reducible show ShIs _ _ _ _ _); first | assumption | exact ShIs.flip (by assumption) (by mem_news))
  | ((with_reducible show RunIs _ _ _ _ _); first | assumption | exact RunIs.flip (by assumption) (by mem_news))
  | ((with_reducible show LTs _ _ _ _); first | assumption | exact LTs.flip (by assumption) (by nest_cls))
  | ((with_reducible show Pt.At _ _); kba_ints)
  | ((with_reducible show Same _ _); nest_cls)
  | ((with_reducible show Keep _ _); mem_news)
  | ((with_reducible show (_ : Hp) _ = some _); first
    | assumption
    | exact upd_same
    | exact At.flip (by assumption) (by nest_cls)
    | exact At.flip upd_same (by nest_cls)))
-- a side condition
local macro_rules | `(tactic| leaf_len) => `(tactic| first
  | (with_reducible rfl)
  | (with_reducible assumption)
  | kd_adr
  | omega
  | ((with_reducible show (_ : Nat) ≤ sizeLine); first | (show 1 ≤ sizeLine; decide) | (show 2 ≤ sizeLine; decide) | (show 3 ≤ sizeLine; decide) | (show 4 ≤ sizeLine; decide) | (show 5 ≤ sizeLine; decide) | (show 6 ≤ sizeLine; decide) | (show 7 ≤ sizeLine; decide) | (show 8 ≤ sizeLine; decide) | (show 0 ≤ sizeLine; decide))
  | exact rfl
  | ((with_reducible show _ ∨ _); first | exact Or.inl (by leaf_len) | exact Or.inr (by leaf_len))
  | exact List.cons_ne_nil _ _
  | exact mf_ev _ _
  | exact mf_st _ _
  | exact flat_ints _
  | ((with_reducible show tyV _ _ _ _); exact Or.inl ⟨rfl, _, by kd_adr⟩)
  | ((with_reducible show ClsV _ _); exact ClsV.ty _)
  | ((with_reducible show CDivW _ _); exact CDivW.of (by omega) (by omega))
  | (apply Exists.intro (α := List V); kd_adr)
  | assumption
  | ((with_reducible show small _); unfold small; omega)
  | ((with_reducible show CPow _ _); exact ⟨by decide, by decide, by decide⟩)
  | ((with_reducible show CMul _ _); first | exact CMul.l (by omega) (by omega) | exact CMul.r (by omega) (by omega))
  | ((with_reducible show CMulW _ _); exact CMulW.of (by omega) (by omega))
  | ((with_reducible show TyX _ _ _ _); first | exact TyX.base (.int _) | exact TyX.base (.str _) | exact TyX.base (.bl _) | exact tyT (by kd_adr) | exact TyX.base (.lst (by kd_adr)))
  | ((with_reducible show PySem.W.kitOne _ _ _ = some _); first | exact kit_ty (r := true) (by decide +kernel) | exact kit_ty (r := false) (by decide +kernel))
  | decide)
-- a step
local macro_rules | `(tactic| l_ints) => `(tactic| first
  | (intro (p : Addr) (hp : (_ : Hp) p = none))
  | (intro (H' : Hp) (s : Same _ H'))
  | (intro (p : Addr) (H' : Hp) (s : Same _ H'))
  | (intro (h : IT _ _ _ _))
  | (intro (h : SqT _ _ _ _))
  | (intro (h : (_ : Hp) _ = none))
  | (intro (h : (_ : Hp) _ = some _))
  | ((with_reducible show rCatA _ _ _ _ _); refine catJ (by kd_adr) (by kd_adr) (by leaf_len) ?_)
  | ((with_reducible show rSlA _ _ none (some _) _ _); refine slTake (by kd_adr) (by omega) ?_)
  | with_reducible refine tC_i ?_
  | with_reducible refine tNil_i ?_
  | with_reducible refine tCons_i ?_
  | with_reducible refine tCall_i ?_
  | with_reducible refine tOp_i ?_
  | ((with_reducible refine tVar_i ?_ ?_); · exact rfl)
  | with_reducible refine iteT ?_
  | with_reducible refine iteF ?_
  | (with_reducible refine iteNEq ?_ ?_; · assumption)
  | (with_reducible refine iteNb ?_ ?_; · assumption)
  | (with_reducible refine iteTb ?_ ?_; · assumption)
  | (with_reducible refine iteFb ?_ ?_; · assumption)
  | ((with_reducible refine iteFb ?_ ?_); · exact rfl)
  | ((with_reducible refine iteTb ?_ ?_); · exact rfl)
  | with_reducible refine iteST rfl ?_
  | with_reducible refine iteSF (by decide +kernel) ?_
  | (refine And.intro ?_ ?_; · leaf_len)
  | apply Exists.intro (α := V)
  | apply Exists.intro (α := Int)
  | apply Exists.intro (α := Addr)
  | apply Exists.intro (α := List V)
  | apply Exists.intro (α := Str)
  | apply Exists.intro (α := Nat)
  | apply Exists.intro (α := Bool)
  | apply Exists.intro (α := Value)
  | apply Exists.intro (α := List Int)
  | apply Exists.intro (α := List (List Int))
  | apply Exists.intro (α := List Bool)
  | apply Exists.intro (α := List (Str × V))
  | apply Exists.intro (α := Option (List (Option Int)))
  | apply Exists.intro (α := Option Int)
  | apply Exists.intro (α := Pt)
  | refine Or.inr ⟨_, rfl, ?_⟩
  | apply Or.inl)

variable {P : Program} {w : World} {K : PySem.W.Frag} {mg : Str → Option Value} {base : Heap} {A : Ad}
def inAt (evs : List (List Int)) (kn : List Int) (i : Nat) : Bool := decide (evB (evs.getD i []) ∈ kn) && decide (evA (evs.getD i []) ∈ kn)
def inL (evs : List (List Int)) (kn : List Int) : List Int := ((List.range evs.length).filter (inAt evs kn)).map fun i : Nat => (i : Int)
def spInner (K : PySem.W.Frag) (C : Addr) : Sp := fun vs H Q _ => ∃ (m v : V) (n : Int) (evs : List (List Int)) (kn : List Int), vs = [m, v] ∧ MachAt K C H m n evs ∧ IT K H v kn ∧ (∀ e ∈ evs, Four e) ∧ evs.length ≤ 1000 ∧
  ∀ (D : Addr) (H' : Hp), Same H H' → H D = none → H' D = some (.lst ((inL evs kn).map V.int)) → Q (.ref D) H'
theorem ok_inner_events (T : Txt K mg A) : FnOk P w K mg base CX0 1 A.f_inner_events A.d_inner_events ["machine", "knot"] (spInner K A.C_Machine) := by
  refine T.F_inner_events.ok sc_inner_events (fun vs H Q E h => ?_) (fun cdv A1 outer s H vs Q E hr h => ?_)
  · obtain ⟨m, v, n, evs, kn, rfl, _⟩ := h
    rfl
  · obtain ⟨m, v, n, evs, kn, rfl, hM, hv, f4, hl, k⟩ := h
    obtain ⟨vr, rfl, hvr⟩ := id hv
    obtain ⟨ma, dx, w, xs, rfl, hm, hw, al⟩ := hM.open
    have hc := T.cl_Machine
    have hne := T.n_events
    have lx := al.len
    refine ⟨_, (pss_one (ps_ret (pe_lc (own := [("number", 2), ("event", 3)]) rfl sc_inner_events.nd (pi_enumT rfl T.z_enumerate (pa_cons (pe_fldK K rfl (pv 0) (by rfl)) pa_nil)) (blkOk_by (N := ["machine", "knot", "number", "event"]) (sc := defScope s_inner_events) (by decide +kernel)) (fun _ _ _ _ _ => by exact (pg_tupK K rfl 2 rfl (pgs_cons (pg_name (i := 2) sc_inner_events.nd rfl (Or.inl rfl)) (pgs_cons (pg_name (i := 3) sc_inner_events.nd rfl (Or.inl rfl)) pgs_nil)) rfl rfl)) (fun _ _ _ _ _ => by exact (pts_one (PW.pt (pw_and (pt_cmpR (op_inK K rfl) (pe_ix (ix_tupK K rfl) (pv 3) pe_int (fun _ _ => rfl)) (pv 1) (by with_unfolding_all rfl)) (pw_and1 (pt_cmpR (op_inK K rfl) (pe_ix (ix_tupK K rfl) (pv 3) pe_int (fun _ _ => rfl)) (pv 1) (by with_unfolding_all rfl))))))) (fun _ _ _ _ _ => by exact (pv 2))))), ?_⟩
    repeat l_ints
    rename_i D hD
    refine lcEnT (K := K) (a := w) (xs := xs) (inAt evs kn) (fun i => (i : Int)) (R := fun _ v b => v = .int b) (by kd_adr) hD (by rw [lx]; exact Nat.lt_of_le_of_lt hl (by decide)) (fun _ _ _ _ _ z => z) ?_ ?_
    · intro i y Tt H2 Q1 Q2 hi s2 hT h1 h2
      obtain ⟨e, he, hI⟩ := al.getL hi
      obtain ⟨b, a', t, p, rfl⟩ := f4 e (List.mem_of_getElem? he)
      have hI2 := hI.keep (Keep.of s2)
      obtain ⟨r, rfl, hr⟩ := id hI2
      have ed : evs.getD i [] = [b, a', t, p] := by rw [List.getD_eq_getElem?_getD, he]; rfl
      have hv2 : IT K H2 (.ref vr) kn := by kd_adr
      have e1 : inV (.int b) (kn.map V.int) = decide (b ∈ kn) := inV_ints b kn
      have e2 : inV (.int a') (kn.map V.int) = decide (a' ∈ kn) := inV_ints a' kn
      have eA : inAt evs kn i = (decide (b ∈ kn) && decide (a' ∈ kn)) := by unfold inAt; rw [ed]; rfl
      repeat l_ints
      refine iteCB (c := inV (.int b) (kn.map V.int)) (fun c => ?_) (fun c => ?_)
      · repeat l_ints
        refine iteCB (c := inV (.int a') (kn.map V.int)) (fun c2 => ?_) (fun c2 => ?_)
        · repeat l_ints
          exact h1 (by rw [eA, ← e1, ← e2, c, c2]; rfl) _ _ (by nest_cls) rfl
        · repeat l_ints
          exact h2 (by rw [eA, ← e1, ← e2, c, c2]; rfl) _ (by nest_cls)
      · repeat l_ints
        exact h2 (by rw [eA, ← e1, ← e2, c]; rfl) _ (by nest_cls)
    · intro H2 acc s2 hA al2
      rw [lx] at al2
      have ea := all2_int al2
      subst ea
      exact k D H2 (by nest_cls) hD hA
def spHangs (K : PySem.W.Frag) (C : Addr) : Sp := fun vs H Q _ => ∃ (m : V) (n : Int) (evs : List (List Int)) (k0 : List Int) (ks : List (List Int)), vs = [m] ∧ MachAt K C H m n evs ∧ 1 ≤ n ∧ n ≤ 60 ∧ evs.length ≤ 1000 ∧ (∀ e ∈ evs, okEv n e) ∧
  (kn (mutL evs n.toNat) (rchL evs n.toNat 0)).1 = k0 :: ks ∧ ∀ H', Same H H' → Q (.bl (decide (ks = []) && decide (0 < (inL evs k0).length))) H'
end
end Myk33

namespace Myk33
open PySem L2 My EnT Pl
section
-- an environment written out
local macro_rules | `(tactic| nest_cls) => `(tactic| with_unfolding_all (repeat (first | exact Nf.nil | apply Nf.cons)))
-- side conditions over values
local macro_rules | `(tactic| leaf_len) => `(tactic| first
  | (with_reducible rfl)
  | (with_reducible assumption)
  | rfl
  | omega
  | ((with_reducible show _ ≤ sizeLine); first | exact szL (by first | decide | (simp; done) | (simp; omega)) | exact szL (by omega) | decide)
  | ((with_reducible show _ < sizeLine); first | exact szK (by first | decide | (simp; done) | (simp; omega)) | exact szK (by omega) | decide)
  | ((with_reducible show CMul _ _ ∨ _); first | exact .inl (CMul.l (by omega) (by omega)) | exact .inl (CMul.r (by omega) (by omega)) | exact .inr (CMulW.of (by omega) (by omega)))
  | ((with_reducible show CMul _ _); first | exact CMul.l (by omega) (by omega) | exact CMul.r (by omega) (by omega))
  | ((with_reducible show CDivW _ _); exact CDivW.of (by omega) (by omega))
  | ((with_reducible show CPow _ _); exact ⟨by decide, by decide, by decide⟩)
  | ((with_reducible show small _); unfold small; omega)
  | ((with_reducible show ∀ K, PySem.W.kitOne K _ _ = some _); first | exact fun _ => kit_ty (r := true) (by decide +kernel) | exact fun _ => kit_ty (r := false) (by decide +kernel))
  | decide)
-- a step over values
local macro_rules | `(tactic| tb_rel) => `(tactic| first
  | (with_reducible refine i_sqN (by nest_cls) ?_)
  | (with_reducible first
    | refine i_sq ?_ | refine i_set ?_ | refine i_stV ?_ | refine i_stO ?_ | refine i_nx ?_
    | refine i_c ?_ | refine i_bin ?_ | refine i_wV ?_ | refine i_wT ?_ | refine i_test ?_ | refine i_tb ?_ | refine i_tru ?_ | refine i_truB ?_
    | refine iteT ?_ | refine iteF ?_
    | refine o_addI ?_ | refine o_I0 ?_ | refine o_B0 ?_ | refine o_eqI ?_ | refine o_neI ?_ | refine o_iaddI ?_
    | refine i_aCons ?_ | refine i_aNil ?_ | refine i_call ?_
    | refine i_if ?_ | refine i_ret ?_ | refine i_rt ?_ | refine i_retN ?_ | refine i_next ?_ | refine i_drop ?_ | refine i_break ?_ | refine i_cont ?_ | refine i_bk ?_ | refine i_ct ?_
    | refine i_andT ?_ | refine i_orT ?_ | refine i_notT ?_ | refine i_andV ?_ | refine i_orV ?_ | refine i_notV ?_ | refine i_ifE ?_
    | refine i_tup ?_ | refine i_lst ?_ | refine i_un ?_ | refine i_ei ?_ | refine i_eb ?_
    | refine i_cB ?_ | refine i_make ?_ | refine i_makeO ?_ | refine i_fld ?_ | refine i_chain ?_ | refine i_for ?_ | refine i_iseq ?_ | refine i_irg1 ?_ | refine i_irg2 ?_ | refine i_ien ?_ | refine i_lc ?_ | refine i_yes ?_ | refine i_lrg ?_ | refine i_index ?_
    | refine i_asg ?_ | refine i_par ?_ | refine i_gname ?_ | refine i_gnil ?_ | refine i_gconsM ?_ | refine i_gnilM ?_ | refine i_gcons ?_
    | refine i_sl ?_ | refine i_noP ?_ | refine i_part ?_ | refine i_slL ?_ | refine i_slT ?_
    | refine i_raise0 ?_ | refine i_raise1 ?_ | refine i_dict0 ?_ | refine i_disp1 ?_ | refine i_dget2 ?_ | refine i_keyI ?_ | refine i_keyS ?_ | refine i_isDK ?_ | refine i_isDT ?_ | refine o_din' ?_ | refine o_dix' ?_ | refine i_dgZ ?_ | refine i_dgI ?_ | refine i_dc ?_ | refine i_dgS ?_ | refine i_try ?_
    | refine f_lenE ?_ | refine f_lenI ?_ | refine f_lenM ?_ | refine f_lenL ?_ | refine f_lenT ?_ | refine f_intI ?_ | refine f_intB ?_ | refine f_absI ?_ | refine f_tupL ?_ | refine f_tupT ?_ | refine f_lstL ?_ | refine f_lstT ?_ | refine f_gcdI ?_ | refine i_isC ?_ | refine i_isCM ?_ | refine o_neE ?_
    | refine o_ixP0 ?_ | refine o_ixS0 ?_ | refine o_ixS1 ?_ | refine f_lenTI' ?_ | refine o_ixP1 ?_ | refine o_inT ?_ | refine o_ninT ?_
    | refine o_isN ?_ | refine o_isnN ?_ | refine o_isB ?_ | refine o_isnB ?_
    | refine loop_nil ?_
    | refine i_truL ?_ | refine i_truT ?_ | refine i_truI ?_)
  | (with_reducible refine i_var (by with_unfolding_all rfl) ?_)
  | (with_reducible refine i_callU (by with_unfolding_all rfl) (by with_unfolding_all rfl) ?_)
  | ((with_reducible refine o_IC ?_ ?_); · leaf_len)
  | ((with_reducible refine o_mulI ?_ ?_); · leaf_len)
  | (with_reducible refine i_varO (by with_unfolding_all rfl) ?_)
  | (with_reducible refine i_wN (by with_unfolding_all rfl) ?_)
  | (with_reducible refine i_gtup (by with_unfolding_all rfl) (by with_unfolding_all rfl) ?_)
  | (with_reducible refine i_aug (by with_unfolding_all rfl) ?_)
  | (with_reducible refine i_mb rfl (by with_unfolding_all rfl) ?_)
  | (with_reducible refine i_mb0 rfl (by with_unfolding_all rfl) ?_)
  | ((with_reducible refine m_appI ?_ ?_); · leaf_len)
  | ((with_reducible refine m_app ?_ ?_); · leaf_len)
  | (with_reducible refine i_dcZ (by with_unfolding_all rfl) (fun _ _ => ?_))
  | (with_reducible refine i_setDcZ (by with_unfolding_all rfl) (fun _ _ => ?_))
  | (with_reducible refine i_setD (by with_unfolding_all rfl) ?_)
  | (with_reducible refine i_dgT (by with_unfolding_all rfl) ?_)
  | ((with_reducible refine i_dpI ?_ ?_); · leaf_len)
  | ((with_reducible show ∃ d, _ = some (Sl.own d) ∧ _); refine ⟨_, rfl, ?_⟩)
  | (with_reducible refine i_setL (by with_unfolding_all rfl) ?_)
  | (with_reducible refine i_augL (by with_unfolding_all rfl) ?_)
  | (with_reducible refine i_setF (by with_unfolding_all rfl) ?_)
  | (with_reducible refine i_stN (by with_unfolding_all rfl) ?_)
  | ((with_reducible refine o_ix0 ?_ ?_); · first | assumption | exact four_getD (by assumption) (by assumption) (by assumption))
  | ((with_reducible refine o_ix1 ?_ ?_); · first | assumption | exact four_getD (by assumption) (by assumption) (by assumption))
  | ((with_reducible refine o_ixEv ?_ ?_ ?_ ?_); (· assumption); (· first | assumption | omega); (· first | assumption | omega))
  | ((with_reducible refine o_mulL ?_ ?_ ?_); (· omega); (· omega))
  | ((with_reducible refine o_addTI ?_ ?_); · omega)
  | ((with_reducible refine o_addT ?_ ?_); · leaf_len)
  | ((with_reducible refine o_addL ?_ ?_); · leaf_len)
  | ((with_reducible refine isi_int ?_ ?_); · first | assumption | exact ⟨_, rfl⟩)
  | ((with_reducible refine isi_bool ?_ ?_); · first | assumption | exact ⟨_, rfl⟩)
  | ((with_reducible refine isi_tup ?_ ?_); · first | assumption | exact ⟨_, rfl⟩)
  | ((with_reducible refine isi_lst ?_ ?_); · first | assumption | exact ⟨_, rfl⟩)
  | ((with_reducible refine isi_str ?_ ?_); · first | assumption | exact ⟨_, rfl⟩)
  | ((with_reducible refine iteTb ?_ ?_); · exact rfl)
  | ((with_reducible refine iteFb ?_ ?_); · exact rfl)
  | ((with_reducible refine iteTb ?_ ?_); · assumption)
  | ((with_reducible refine iteFb ?_ ?_); · assumption)
  | (with_reducible refine i_aft (by with_unfolding_all rfl) ?_)
  | ((with_reducible refine iteDT ?_ ?_); · first | assumption | omega)
  | ((with_reducible refine iteDF ?_ ?_); · first | assumption | omega)
  | ((with_reducible refine iteNT ?_ ?_); · first | assumption | omega)
  | ((with_reducible refine iteNF ?_ ?_); · first | assumption | omega)
  | ((with_reducible show ∃ ds, dsO _ _ = some ds ∧ _); refine ⟨_, rfl, ?_⟩)
  | ((with_reducible show ∃ s, RV.out _ _ = some s ∧ _); refine ⟨_, rfl, ?_⟩)
  | ((with_reducible show ∃ ds d, dsO _ _ = some ds ∧ _); refine ⟨_, _, rfl, rfl, ?_⟩)
  | ((with_reducible show ∃ d, dsO _ _ = some [d] ∧ _); refine ⟨_, rfl, ?_⟩)
  | ((with_reducible show ∃ y, RV.d _ _ = some y ∧ _); refine ⟨_, rfl, ?_⟩)
  | ((with_reducible show ∃ (y : D) (fs : List (Str × D)), RV.d _ _ = some y ∧ _); refine ⟨_, _, rfl, rfl, by first | exact putD_lt (by decide) | decide, ?_⟩)
  | ((with_reducible show ∃ ds, seqD _ = some ds ∧ _); refine ⟨_, rfl, ?_⟩)
  | ((with_reducible show ∃ d e, dsO _ _ = some [d, e] ∧ _); refine ⟨_, _, rfl, ?_⟩)
  | ((with_reducible show ∃ (fs : List (Str × D)) (y : D), D.ins _ _ = .ins _ fs ∧ _); refine ⟨_, _, rfl, rfl, ?_⟩)
  | ((with_reducible show ∃ (fs : List (Str × D)) (y : D), machD _ _ _ = .ins _ fs ∧ _); refine ⟨_, _, rfl, rfl, ?_⟩)
  | ((with_reducible show _ ≤ sizeLine ∧ _); refine ⟨?_, ?_⟩; · leaf_len)
  | ((with_reducible show _ < sizeLine ∧ _); refine ⟨?_, ?_⟩; · leaf_len))

variable {P : Program} {w : World} {K : PySem.W.Frag} {mg : Str → Option Value} {base : Heap} {A : Ad}
/-! promises over the heap, turned -/
/-- the frozen part, and what tuples are new -/
def newF (H H' F : Hp) : Hp := fun b => match H b with
  | some _ => F b
  | none => match H' b with
    | some (.tup xs) => some (.tup xs)
    | _ => none
theorem newF_old {H H' F : Hp} {b : Addr} {o : HO} (h : H b = some o) : newF H H' F b = F b := by unfold newF; rw [h]
theorem newF_tup {H H' F : Hp} {b : Addr} {xs : List V} (n : H b = none) (h : H' b = some (.tup xs)) : newF H H' F b = some (.tup xs) := by unfold newF; rw [n, h]
theorem newF_same {po : Option Pt} {G F H H' : Hp} (a : StA po G F H) : Same F (newF H H' F) := fun b o h => by rw [newF_old (a.fh _ _ h)]; exact h
theorem Pt.some_at {p : Pt} {H : Hp} (h : p.At H) {b : Addr} (m : b ∈ Pl.pl p) : ∃ o, H b = some o := by
  cases e : H b with
  | some o => exact ⟨o, rfl⟩
  | none =>
    exfalso
    have z := h.fresh e
    have m' : b = p.a ∨ b = p.g ∨ b = p.s := by simpa [Pl.pl] using m
    rcases m' with r | r | r
    · exact z.1 r
    · exact z.2.1 r
    · exact z.2.2 r
theorem newF_sta {po : Option Pt} {G F H H' : Hp} (a : StA po G F H) (s : Same H H') : StA po G (newF H H' F) H' := by
  refine ⟨fun b u h => ?_, fun b u h => s _ _ (a.gh _ _ h), fun b u h => ?_, fun p ep => ⟨(a.pt p ep).1.same s, fun b hb => ⟨?_, ((a.pt p ep).2 b hb).2⟩⟩⟩
  · unfold newF at h
    cases e : H b with
    | some o => rw [e] at h; exact s _ _ (a.fh _ _ h)
    | none =>
      rw [e] at h
      dsimp only at h
      cases e2 : H' b with
      | none => rw [e2] at h; cases h
      | some o =>
        rw [e2] at h
        cases o <;> first | exact h | cases h
  · rw [newF_old (a.gh _ _ h)]
    exact a.dj _ _ h
  · obtain ⟨o, ho⟩ := Pt.some_at (a.pt p ep).1 hb
    rw [newF_old ho]
    exact ((a.pt p ep).2 b hb).1
def S_reached (C : Addr) : QSpec := fun ds k _ => ∃ n evs, ds = [machD C n evs] ∧ 1 ≤ n ∧ n ≤ 60 ∧ evs.length ≤ 1000 ∧ (∀ e ∈ evs, okEv n e) ∧ k (.val (tupI (rchL evs n.toNat 0)))
theorem oq_reached (T : Txt K mg A) : FnOk P w K mg base (L2.CX P w) 2 A.f_reached A.d_reached ["machine"] (spP K (S_reached A.C_Machine)) := by
  refine (FnOk.cx (ok_reached T)).imp fun vs H Q E ⟨po, G, F, ds, k, kx, a, r, ⟨n, evs, ed, n1, n6, hl, ok, hk⟩, q, _⟩ => ?_
  subst ed
  cases r with
  | cons r1 r =>
    cases r
    refine ⟨_, n, evs, rfl, Rdb.mach a.fh (.inl r1), n1, n6, hl, ok, fun b H' s hb hb' => ?_⟩
    exact q (newF H H' F) H' (.val _) _ (newF_same a) (newF_sta a s) (Rep.tup (newF_tup hb hb') (Reps.ints _)) hk
theorem ltn_reps {po : Option Pt} {F H H' : Hp} {xs : List V} {nss : List (List Int)} (al : All2 (fun x ns => ∃ q, x = V.ref q ∧ H q = none ∧ H' q = some (.tup (ns.map V.int))) xs nss) : Reps K po (newF H H' F) (nss.map tupI) xs := by
  induction al with
  | nil => exact .nil
  | cons h _ ih =>
    obtain ⟨q, rfl, h1, h2⟩ := h
    exact .cons (Rep.tup (newF_tup h1 h2) (Reps.ints _)) ih
def S_knots (C : Addr) : QSpec := fun ds k _ => ∃ n evs, ds = [machD C n evs] ∧ 1 ≤ n ∧ n ≤ 60 ∧ evs.length ≤ 1000 ∧ (∀ e ∈ evs, okEv n e) ∧ k (.tmp (.lst ((kn (mutL evs n.toNat) (rchL evs n.toNat 0)).1.map tupI)))
theorem oq_knots (T : Txt K mg A) : FnOk P w K mg base (L2.CX P w) 3 A.f_knots A.d_knots ["machine"] (spP K (S_knots A.C_Machine)) := by
  refine (FnOk.cx (ok_knots T)).imp fun vs H Q E ⟨po, G, F, ds, k, kx, a, r, ⟨n, evs, ed, n1, n6, hl, ok, hk⟩, q, _⟩ => ?_
  subst ed
  cases r with
  | cons r1 r =>
    cases r
    refine ⟨_, n, evs, rfl, Rdb.mach a.fh (.inl r1), n1, n6, hl, ok, fun b H' s hb ⟨xs, hb', al⟩ => ?_⟩
    have nf : newF H H' F b = none := by unfold newF; rw [hb, hb']
    exact q (newF H H' F) H' (.tmp _) _ (newF_same a) (newF_sta a s) ⟨b, _, rfl, hb', nf, a.gh.free hb, a.npot hb, .lst (ltn_reps al)⟩ hk
end
end Myk33

namespace Myk33
open PySem L2 My EnT Pl
section
-- an environment written out
local macro_rules | `(tactic| nest_cls) => `(tactic| with_unfolding_all (repeat (first | exact Nf.nil | apply Nf.cons)))
-- side conditions over values
local macro_rules | `(tactic| leaf_len) => `(tactic| first
  | (with_reducible rfl)
  | (with_reducible assumption)
  | rfl
  | omega
  | ((with_reducible show _ ≤ sizeLine); first | exact szL (by first | decide | (simp; done) | (simp; omega)) | exact szL (by omega) | decide)
  | ((with_reducible show _ < sizeLine); first | exact szK (by first | decide | (simp; done) | (simp; omega)) | exact szK (by omega) | decide)
  | ((with_reducible show CMul _ _ ∨ _); first | exact .inl (CMul.l (by omega) (by omega)) | exact .inl (CMul.r (by omega) (by omega)) | exact .inr (CMulW.of (by omega) (by omega)))
  | ((with_reducible show CMul _ _); first | exact CMul.l (by omega) (by omega) | exact CMul.r (by omega) (by omega))
  | ((with_reducible show CDivW _ _); exact CDivW.of (by omega) (by omega))
  | ((with_reducible show CPow _ _); exact ⟨by decide, by decide, by decide⟩)
  | ((with_reducible show small _); unfold small; omega)
  | ((with_reducible show ∀ K, PySem.W.kitOne K _ _ = some _); first | exact fun _ => kit_ty (r := true) (by decide +kernel) | exact fun _ => kit_ty (r := false) (by decide +kernel))
  | decide)
-- a step over values
local macro_rules | `(tactic| tb_rel) => `(tactic| first
  | (with_reducible refine i_sqN (by nest_cls) ?_)
  | (with_reducible first
    | refine i_sq ?_ | refine i_set ?_ | refine i_stV ?_ | refine i_stO ?_ | refine i_nx ?_
    | refine i_c ?_ | refine i_bin ?_ | refine i_wV ?_ | refine i_wT ?_ | refine i_test ?_ | refine i_tb ?_ | refine i_tru ?_ | refine i_truB ?_
    | refine iteT ?_ | refine iteF ?_
    | refine o_addI ?_ | refine o_I0 ?_ | refine o_B0 ?_ | refine o_eqI ?_ | refine o_neI ?_ | refine o_iaddI ?_
    | refine i_aCons ?_ | refine i_aNil ?_ | refine i_call ?_
    | refine i_if ?_ | refine i_ret ?_ | refine i_rt ?_ | refine i_retN ?_ | refine i_next ?_ | refine i_drop ?_ | refine i_break ?_ | refine i_cont ?_ | refine i_bk ?_ | refine i_ct ?_
    | refine i_andT ?_ | refine i_orT ?_ | refine i_notT ?_ | refine i_andV ?_ | refine i_orV ?_ | refine i_notV ?_ | refine i_ifE ?_
    | refine i_tup ?_ | refine i_lst ?_ | refine i_un ?_ | refine i_ei ?_ | refine i_eb ?_
    | refine i_cB ?_ | refine i_make ?_ | refine i_makeO ?_ | refine i_fld ?_ | refine i_chain ?_ | refine i_for ?_ | refine i_iseq ?_ | refine i_irg1 ?_ | refine i_irg2 ?_ | refine i_ien ?_ | refine i_lc ?_ | refine i_yes ?_ | refine i_lrg ?_ | refine i_index ?_
    | refine i_asg ?_ | refine i_par ?_ | refine i_gname ?_ | refine i_gnil ?_ | refine i_gconsM ?_ | refine i_gnilM ?_ | refine i_gcons ?_
    | refine i_sl ?_ | refine i_noP ?_ | refine i_part ?_ | refine i_slL ?_ | refine i_slT ?_
    | refine i_raise0 ?_ | refine i_raise1 ?_ | refine i_dict0 ?_ | refine i_disp1 ?_ | refine i_dget2 ?_ | refine i_keyI ?_ | refine i_keyS ?_ | refine i_isDK ?_ | refine i_isDT ?_ | refine o_din' ?_ | refine o_dix' ?_ | refine i_dgZ ?_ | refine i_dgI ?_ | refine i_dc ?_ | refine i_dgS ?_ | refine i_try ?_
    | refine f_lenE ?_ | refine f_lenI ?_ | refine f_lenM ?_ | refine f_lenL ?_ | refine f_lenT ?_ | refine f_intI ?_ | refine f_intB ?_ | refine f_absI ?_ | refine f_tupL ?_ | refine f_tupT ?_ | refine f_lstL ?_ | refine f_lstT ?_ | refine f_gcdI ?_ | refine i_isC ?_ | refine i_isCM ?_ | refine o_neE ?_
    | refine o_ixP0 ?_ | refine o_ixS0 ?_ | refine o_ixS1 ?_ | refine f_lenTI' ?_ | refine o_ixP1 ?_ | refine o_inT ?_ | refine o_ninT ?_
    | refine o_isN ?_ | refine o_isnN ?_ | refine o_isB ?_ | refine o_isnB ?_
    | refine loop_nil ?_
    | refine i_truL ?_ | refine i_truT ?_ | refine i_truI ?_)
  | (with_reducible refine i_var (by with_unfolding_all rfl) ?_)
  | (with_reducible refine i_callU (by with_unfolding_all rfl) (by with_unfolding_all rfl) ?_)
  | ((with_reducible refine o_IC ?_ ?_); · leaf_len)
  | ((with_reducible refine o_mulI ?_ ?_); · leaf_len)
  | (with_reducible refine i_varO (by with_unfolding_all rfl) ?_)
  | (with_reducible refine i_wN (by with_unfolding_all rfl) ?_)
  | (with_reducible refine i_gtup (by with_unfolding_all rfl) (by with_unfolding_all rfl) ?_)
  | (with_reducible refine i_aug (by with_unfolding_all rfl) ?_)
  | (with_reducible refine i_mb rfl (by with_unfolding_all rfl) ?_)
  | (with_reducible refine i_mb0 rfl (by with_unfolding_all rfl) ?_)
  | ((with_reducible refine m_appI ?_ ?_); · leaf_len)
  | ((with_reducible refine m_app ?_ ?_); · leaf_len)
  | (with_reducible refine i_dcZ (by with_unfolding_all rfl) (fun _ _ => ?_))
  | (with_reducible refine i_setDcZ (by with_unfolding_all rfl) (fun _ _ => ?_))
  | (with_reducible refine i_setD (by with_unfolding_all rfl) ?_)
  | (with_reducible refine i_dgT (by with_unfolding_all rfl) ?_)
  | ((with_reducible refine i_dpI ?_ ?_); · leaf_len)
  | ((with_reducible show ∃ d, _ = some (Sl.own d) ∧ _); refine ⟨_, rfl, ?_⟩)
  | (with_reducible refine i_setL (by with_unfolding_all rfl) ?_)
  | (with_reducible refine i_augL (by with_unfolding_all rfl) ?_)
  | (with_reducible refine i_setF (by with_unfolding_all rfl) ?_)
  | (with_reducible refine i_stN (by with_unfolding_all rfl) ?_)
  | ((with_reducible refine o_ix0 ?_ ?_); · first | assumption | exact four_getD (by assumption) (by assumption) (by assumption))
  | ((with_reducible refine o_ix1 ?_ ?_); · first | assumption | exact four_getD (by assumption) (by assumption) (by assumption))
  | ((with_reducible refine o_ixEv ?_ ?_ ?_ ?_); (· assumption); (· first | assumption | omega); (· first | assumption | omega))
  | ((with_reducible refine o_mulL ?_ ?_ ?_); (· omega); (· omega))
  | ((with_reducible refine o_addTI ?_ ?_); · omega)
  | ((with_reducible refine o_addT ?_ ?_); · leaf_len)
  | ((with_reducible refine o_addL ?_ ?_); · leaf_len)
  | ((with_reducible refine isi_int ?_ ?_); · first | assumption | exact ⟨_, rfl⟩)
  | ((with_reducible refine isi_bool ?_ ?_); · first | assumption | exact ⟨_, rfl⟩)
  | ((with_reducible refine isi_tup ?_ ?_); · first | assumption | exact ⟨_, rfl⟩)
  | ((with_reducible refine isi_lst ?_ ?_); · first | assumption | exact ⟨_, rfl⟩)
  | ((with_reducible refine isi_str ?_ ?_); · first | assumption | exact ⟨_, rfl⟩)
  | ((with_reducible refine iteTb ?_ ?_); · exact rfl)
  | ((with_reducible refine iteFb ?_ ?_); · exact rfl)
  | ((with_reducible refine iteTb ?_ ?_); · assumption)
  | ((with_reducible refine iteFb ?_ ?_); · assumption)
  | (with_reducible refine i_aft (by with_unfolding_all rfl) ?_)
  | ((with_reducible refine iteDT ?_ ?_); · first | assumption | omega)
  | ((with_reducible refine iteDF ?_ ?_); · first | assumption | omega)
  | ((with_reducible refine iteNT ?_ ?_); · first | assumption | omega)
  | ((with_reducible refine iteNF ?_ ?_); · first | assumption | omega)
  | ((with_reducible show ∃ ds, dsO _ _ = some ds ∧ _); refine ⟨_, rfl, ?_⟩)
  | ((with_reducible show ∃ s, RV.out _ _ = some s ∧ _); refine ⟨_, rfl, ?_⟩)
  | ((with_reducible show ∃ ds d, dsO _ _ = some ds ∧ _); refine ⟨_, _, rfl, rfl, ?_⟩)
  | ((with_reducible show ∃ d, dsO _ _ = some [d] ∧ _); refine ⟨_, rfl, ?_⟩)
  | ((with_reducible show ∃ y, RV.d _ _ = some y ∧ _); refine ⟨_, rfl, ?_⟩)
  | ((with_reducible show ∃ (y : D) (fs : List (Str × D)), RV.d _ _ = some y ∧ _); refine ⟨_, _, rfl, rfl, by first | exact putD_lt (by decide) | decide, ?_⟩)
  | ((with_reducible show ∃ ds, seqD _ = some ds ∧ _); refine ⟨_, rfl, ?_⟩)
  | ((with_reducible show ∃ d e, dsO _ _ = some [d, e] ∧ _); refine ⟨_, _, rfl, ?_⟩)
  | ((with_reducible show ∃ (fs : List (Str × D)) (y : D), D.ins _ _ = .ins _ fs ∧ _); refine ⟨_, _, rfl, rfl, ?_⟩)
  | ((with_reducible show ∃ (fs : List (Str × D)) (y : D), machD _ _ _ = .ins _ fs ∧ _); refine ⟨_, _, rfl, rfl, ?_⟩)
  | ((with_reducible show _ ≤ sizeLine ∧ _); refine ⟨?_, ?_⟩; · leaf_len)
  | ((with_reducible show _ < sizeLine ∧ _); refine ⟨?_, ?_⟩; · leaf_len))

variable {P : Program} {w : World} {K : PySem.W.Frag} {mg : Str → Option Value} {base : Heap} {A : Ad}
def S_made (C : Addr) : QSpec := fun ds k _ => ∃ n evs, ds = [.int n, evsD evs] ∧ k (.tmp (machD C n evs))
def S_cm : QSpec := fun ds k _ => ∃ m : Int, ds = [.int m] ∧ 0 ≤ m ∧ m ≤ 100 ∧ k (.val .non)
def S_out : QSpec := fun ds k _ => ∃ n evs s, ds = [partsD n evs, .int s] ∧ (∀ e ∈ evs, Four e) ∧ evs.length ≤ 1000 ∧ k (.tmp (lstI (outsI evs s)))
theorem lnoq_law_out : ∀ ds k kx, (S_out : QSpec) ds k kx → ds.length = 2 := by
  intro ds k kx h
  obtain ⟨n, evs, s, rfl, f4, hl, hk⟩ := h
  rfl
theorem oq_law_out (T : Txt K mg A) : FnOk P w K mg base (L2.CX P w) 1 A.f_law_out A.d_law_out ["parts", "standing"] (spP K (S_out)) := by
  refine T.F_law_out.okX sc_law_out (spP_len lnoq_law_out) (fun cdv A1 outer s H vs Q E hr h => ?_)
  refine def_run (N := ["parts", "standing", "number"]) (p := _) (fun kx => (qss_one (qs_ret (q_lc (own := [("number", 2)]) rfl sc_law_out.nd (qi_range1 rfl T.z_range (qa_cons (q_callB (f_len rfl) sim_len (by rfl) T.z_len (by decide +kernel) (qa_cons (q_ix (q_var rfl (pv 0)) (q_int rfl) (fun _ _ => rfl)) (qa_nil rfl))) (qa_nil rfl))) (blkOk_by (N := ["parts", "standing", "number"]) (sc := defScope s_law_out) (by decide +kernel)) (fun _ _ _ _ _ => by exact (qg_name (i := 2) rfl sc_law_out.nd rfl (Or.inl rfl))) (fun _ _ _ _ _ => by exact (qts_one (qt_cmp1 (c_eq rfl (hu64 hr)) (q_ix (q_ix (q_ix (q_var rfl (pv 0)) (q_int rfl) (fun _ _ => rfl)) (q_var rfl (pv 2)) (fun _ _ => rfl)) (q_int rfl) (fun _ _ => rfl)) (q_var rfl (pv 1)) (nomark _)))) (fun _ _ _ _ _ => by exact (q_var rfl (pv 2))) (by decide))))) h (fun ds k kx h => by rw [lnoq_law_out ds k kx h]; decide) (fun ds k kx h => ?_)
  obtain ⟨n, evs, s, rfl, f4, hl, hk⟩ := h
  repeat tb_rel
  refine ⟨_, rfl, by omega, by omega, ?_⟩
  repeat tb_rel
  refine lc_f (fun i => if decide (evB (evs.getD i []) = s) = true then some (.int (i : Nat)) else none) (by rw [rgD_len]; omega) (fun i d acc hi la nx h1 h2 => ?_) ?_
  · obtain ⟨hi, rfl⟩ := rgD_get hi
    have j0 : (0 : Int) ≤ 0 + (i : Nat) := by omega
    have j1 : (0 : Int) + (i : Nat) < (evs.length : Int) := by omega
    have ej : ((0 : Int) + (i : Nat)).toNat = i := by omega
    repeat tb_rel
    rw [ej]
    refine iteD (fun c => ?_) (fun c => ?_)
    · repeat tb_rel
      rw [Int.zero_add]
      exact h2 _ (by rw [if_pos (decide_eq_true c)])
    · repeat tb_rel
      exact h1 (by rw [if_neg (by rw [decide_eq_false c]; decide)])
  · rw [outs_fm evs s _ (by rw [rgD_len]; omega)]
    (repeat tb_rel)
    try exact hk
def S_any : QSpec := fun ds k _ => ∃ d es, ds = [.pot, d] ∧ (d = .tup es ∨ d = .lst es) ∧ es ≠ [] ∧ es.length ≤ 1000 ∧ ∀ e ∈ es, k (.val e)
theorem inD_ints (x : Int) : ∀ ns : List Int, inD (.int x) (ns.map D.int) = decide (x ∈ ns)
  | [] => by simp [inD]
  | n :: ns => by
    have ih := inD_ints x ns
    unfold inD at ih ⊢
    rw [List.map_cons, List.any_cons, ih]
    have e : deq (.int n) (.int x) = decide (n = x) := by unfold deq; rw [D.py, D.py, PyData.eqv, Bool.beq_eq_decide_eq]
    rw [e]
    by_cases c : n = x
    · subst c; simp
    · have c' : ¬ x = n := fun z => c z.symm
      simp [c, c']
theorem dats_ints : ∀ ns : List Int, dats 59 (ns.map D.int) = true
  | [] => rfl
  | n :: ns => by rw [List.map_cons]; unfold dats; rw [dats_ints ns]; rfl
theorem lstI_dat (ns : List Int) : (lstI ns).dat 60 = true := by
  show D.dat 60 (.lst (ns.map .int)) = true
  unfold D.dat
  exact dats_ints ns
theorem o_ninL {i : Int} {ns : List Int} {k : RV → Prop} (h : k (.val (.bl (!decide (i ∈ ns))))) : opIn true (.int i) (lstI ns) k := ⟨rfl, lstI_dat ns, by rw [if_pos rfl, inD_ints]; exact h⟩
theorem o_inLI {i : Int} {ns : List Int} {k : RV → Prop} (h : k (.val (.bl (decide (i ∈ ns))))) : opIn false (.int i) (lstI ns) k := ⟨rfl, lstI_dat ns, by rw [if_neg (by decide), inD_ints]; exact h⟩
def S_walk : QSpec := fun ds k _ => ∃ n evs m, ds = [.pot, partsD n evs, .int m] ∧ (∀ e ∈ evs, Four e) ∧ evs.length ≤ 1000 ∧ 0 ≤ m ∧ m ≤ 1000 ∧
  ∀ run t, walkTo evs 0 run = some t → (run.length : Int) ≤ m → (∀ k ∈ run, 0 ≤ k ∧ k < (evs.length : Int)) → ((run.length : Int) < m → outsI evs t = []) → k (.val (tupI run))
theorem walk_snoc {evs : List (List Int)} {s t k : Int} {run : List Int} (h : walkTo evs s run = some t) (hk : k ∈ outsI evs t) : walkTo evs s (run ++ [k]) = some (evA (evs.getD k.toNat [])) := by
  obtain ⟨k0, k1, k2⟩ := outsI_mem.mp hk
  rw [walkTo_app, h]
  show walkTo evs t [k] = _
  show (if 0 ≤ k ∧ k < (evs.length : Int) ∧ evB (evs.getD k.toNat []) = t then walkTo evs (evA (evs.getD k.toNat [])) [] else none) = _
  rw [if_pos ⟨k0, k1, k2⟩]
  rfl
theorem o_addTT {a b : List Int} {k : RV → Prop} (l : a.length + b.length ≤ 1000) (h : k (.val (tupI (a ++ b)))) : opAdd (tupI a) (tupI b) k := by
  refine o_addT ?_ ?_
  · rw [List.length_map, List.length_map]
    exact szL (by omega)
  · rw [← List.map_append]
    exact h
theorem f_lenTI {ns : List Int} {k : RV → Prop} (h : k (.val (.int ns.length))) : fLen [tupI ns] k := f_lenT (by rw [List.length_map]; exact h)
end
end Myk33

namespace Myk33
open PySem L2 My EnT Pl
section
-- an environment written out
local macro_rules | `(tactic| nest_cls) => `(tactic| with_unfolding_all (repeat (first | exact Nf.nil | apply Nf.cons)))
-- side conditions over values
local macro_rules | `(tactic| leaf_len) => `(tactic| first
  | (with_reducible rfl)
  | (with_reducible assumption)
  | rfl
  | omega
  | ((with_reducible show _ ≤ sizeLine); first | exact szL (by first | decide | (simp; done) | (simp; omega)) | exact szL (by omega) | decide)
  | ((with_reducible show _ < sizeLine); first | exact szK (by first | decide | (simp; done) | (simp; omega)) | exact szK (by omega) | decide)
  | ((with_reducible show CMul _ _ ∨ _); first | exact .inl (CMul.l (by omega) (by omega)) | exact .inl (CMul.r (by omega) (by omega)) | exact .inr (CMulW.of (by omega) (by omega)))
  | ((with_reducible show CMul _ _); first | exact CMul.l (by omega) (by omega) | exact CMul.r (by omega) (by omega))
  | ((with_reducible show CDivW _ _); exact CDivW.of (by omega) (by omega))
  | ((with_reducible show CPow _ _); exact ⟨by decide, by decide, by decide⟩)
  | ((with_reducible show small _); unfold small; omega)
  | ((with_reducible show ∀ K, PySem.W.kitOne K _ _ = some _); first | exact fun _ => kit_ty (r := true) (by decide +kernel) | exact fun _ => kit_ty (r := false) (by decide +kernel))
  | decide)
-- a step over values
local macro_rules | `(tactic| tb_rel) => `(tactic| first
  | (with_reducible refine i_sqN (by nest_cls) ?_)
  | (with_reducible first
    | refine i_sq ?_ | refine i_set ?_ | refine i_stV ?_ | refine i_stO ?_ | refine i_nx ?_
    | refine i_c ?_ | refine i_bin ?_ | refine i_wV ?_ | refine i_wT ?_ | refine i_test ?_ | refine i_tb ?_ | refine i_tru ?_ | refine i_truB ?_
    | refine iteT ?_ | refine iteF ?_
    | refine o_addI ?_ | refine o_I0 ?_ | refine o_B0 ?_ | refine o_eqI ?_ | refine o_neI ?_ | refine o_iaddI ?_
    | refine i_aCons ?_ | refine i_aNil ?_ | refine i_call ?_
    | refine i_if ?_ | refine i_ret ?_ | refine i_rt ?_ | refine i_retN ?_ | refine i_next ?_ | refine i_drop ?_ | refine i_break ?_ | refine i_cont ?_ | refine i_bk ?_ | refine i_ct ?_
    | refine i_andT ?_ | refine i_orT ?_ | refine i_notT ?_ | refine i_andV ?_ | refine i_orV ?_ | refine i_notV ?_ | refine i_ifE ?_
    | refine i_tup ?_ | refine i_lst ?_ | refine i_un ?_ | refine i_ei ?_ | refine i_eb ?_
    | refine i_cB ?_ | refine i_make ?_ | refine i_makeO ?_ | refine i_fld ?_ | refine i_chain ?_ | refine i_for ?_ | refine i_iseq ?_ | refine i_irg1 ?_ | refine i_irg2 ?_ | refine i_ien ?_ | refine i_lc ?_ | refine i_yes ?_ | refine i_lrg ?_ | refine i_index ?_
    | refine i_asg ?_ | refine i_par ?_ | refine i_gname ?_ | refine i_gnil ?_ | refine i_gconsM ?_ | refine i_gnilM ?_ | refine i_gcons ?_
    | refine i_sl ?_ | refine i_noP ?_ | refine i_part ?_ | refine i_slL ?_ | refine i_slT ?_
    | refine i_raise0 ?_ | refine i_raise1 ?_ | refine i_dict0 ?_ | refine i_disp1 ?_ | refine i_dget2 ?_ | refine i_keyI ?_ | refine i_keyS ?_ | refine i_isDK ?_ | refine i_isDT ?_ | refine o_din' ?_ | refine o_dix' ?_ | refine i_dgZ ?_ | refine i_dgI ?_ | refine i_dc ?_ | refine i_dgS ?_ | refine i_try ?_
    | refine f_lenE ?_ | refine f_lenI ?_ | refine f_lenM ?_ | refine f_lenL ?_ | refine f_lenT ?_ | refine f_intI ?_ | refine f_intB ?_ | refine f_absI ?_ | refine f_tupL ?_ | refine f_tupT ?_ | refine f_lstL ?_ | refine f_lstT ?_ | refine f_gcdI ?_ | refine i_isC ?_ | refine i_isCM ?_ | refine o_neE ?_
    | refine o_ixP0 ?_ | refine o_ixS0 ?_ | refine o_ixS1 ?_ | refine f_lenTI' ?_ | refine o_ixP1 ?_ | refine o_inT ?_ | refine o_ninT ?_
    | refine o_isN ?_ | refine o_isnN ?_ | refine o_isB ?_ | refine o_isnB ?_
    | refine loop_nil ?_
    | refine i_truL ?_ | refine i_truT ?_ | refine i_truI ?_)
  | (with_reducible refine i_var (by with_unfolding_all rfl) ?_)
  | (with_reducible refine i_callU (by with_unfolding_all rfl) (by with_unfolding_all rfl) ?_)
  | ((with_reducible refine o_IC ?_ ?_); · leaf_len)
  | ((with_reducible refine o_mulI ?_ ?_); · leaf_len)
  | (with_reducible refine i_varO (by with_unfolding_all rfl) ?_)
  | (with_reducible refine i_wN (by with_unfolding_all rfl) ?_)
  | (with_reducible refine i_gtup (by with_unfolding_all rfl) (by with_unfolding_all rfl) ?_)
  | (with_reducible refine i_aug (by with_unfolding_all rfl) ?_)
  | (with_reducible refine i_mb rfl (by with_unfolding_all rfl) ?_)
  | (with_reducible refine i_mb0 rfl (by with_unfolding_all rfl) ?_)
  | ((with_reducible refine m_appI ?_ ?_); · leaf_len)
  | ((with_reducible refine m_app ?_ ?_); · leaf_len)
  | (with_reducible refine i_dcZ (by with_unfolding_all rfl) (fun _ _ => ?_))
  | (with_reducible refine i_setDcZ (by with_unfolding_all rfl) (fun _ _ => ?_))
  | (with_reducible refine i_setD (by with_unfolding_all rfl) ?_)
  | (with_reducible refine i_dgT (by with_unfolding_all rfl) ?_)
  | ((with_reducible refine i_dpI ?_ ?_); · leaf_len)
  | ((with_reducible show ∃ d, _ = some (Sl.own d) ∧ _); refine ⟨_, rfl, ?_⟩)
  | (with_reducible refine i_setL (by with_unfolding_all rfl) ?_)
  | (with_reducible refine i_augL (by with_unfolding_all rfl) ?_)
  | (with_reducible refine i_setF (by with_unfolding_all rfl) ?_)
  | (with_reducible refine i_stN (by with_unfolding_all rfl) ?_)
  | ((with_reducible refine o_ix0 ?_ ?_); · first | assumption | exact four_getD (by assumption) (by assumption) (by assumption))
  | ((with_reducible refine o_ix1 ?_ ?_); · first | assumption | exact four_getD (by assumption) (by assumption) (by assumption))
  | ((with_reducible refine o_ixEv ?_ ?_ ?_ ?_); (· assumption); (· first | assumption | omega); (· first | assumption | omega))
  | ((with_reducible refine o_mulL ?_ ?_ ?_); (· omega); (· omega))
  | ((with_reducible refine o_addTI ?_ ?_); · omega)
  | ((with_reducible refine o_addT ?_ ?_); · leaf_len)
  | ((with_reducible refine o_addL ?_ ?_); · leaf_len)
  | ((with_reducible refine isi_int ?_ ?_); · first | assumption | exact ⟨_, rfl⟩)
  | ((with_reducible refine isi_bool ?_ ?_); · first | assumption | exact ⟨_, rfl⟩)
  | ((with_reducible refine isi_tup ?_ ?_); · first | assumption | exact ⟨_, rfl⟩)
  | ((with_reducible refine isi_lst ?_ ?_); · first | assumption | exact ⟨_, rfl⟩)
  | ((with_reducible refine isi_str ?_ ?_); · first | assumption | exact ⟨_, rfl⟩)
  | ((with_reducible refine iteTb ?_ ?_); · exact rfl)
  | ((with_reducible refine iteFb ?_ ?_); · exact rfl)
  | ((with_reducible refine iteTb ?_ ?_); · assumption)
  | ((with_reducible refine iteFb ?_ ?_); · assumption)
  | (with_reducible refine i_aft (by with_unfolding_all rfl) ?_)
  | ((with_reducible refine iteDT ?_ ?_); · first | assumption | omega)
  | ((with_reducible refine iteDF ?_ ?_); · first | assumption | omega)
  | ((with_reducible refine iteNT ?_ ?_); · first | assumption | omega)
  | ((with_reducible refine iteNF ?_ ?_); · first | assumption | omega)
  | ((with_reducible show ∃ ds, dsO _ _ = some ds ∧ _); refine ⟨_, rfl, ?_⟩)
  | ((with_reducible show ∃ s, RV.out _ _ = some s ∧ _); refine ⟨_, rfl, ?_⟩)
  | ((with_reducible show ∃ ds d, dsO _ _ = some ds ∧ _); refine ⟨_, _, rfl, rfl, ?_⟩)
  | ((with_reducible show ∃ d, dsO _ _ = some [d] ∧ _); refine ⟨_, rfl, ?_⟩)
  | ((with_reducible show ∃ y, RV.d _ _ = some y ∧ _); refine ⟨_, rfl, ?_⟩)
  | ((with_reducible show ∃ (y : D) (fs : List (Str × D)), RV.d _ _ = some y ∧ _); refine ⟨_, _, rfl, rfl, by first | exact putD_lt (by decide) | decide, ?_⟩)
  | ((with_reducible show ∃ ds, seqD _ = some ds ∧ _); refine ⟨_, rfl, ?_⟩)
  | ((with_reducible show ∃ d e, dsO _ _ = some [d, e] ∧ _); refine ⟨_, _, rfl, ?_⟩)
  | ((with_reducible show ∃ (fs : List (Str × D)) (y : D), D.ins _ _ = .ins _ fs ∧ _); refine ⟨_, _, rfl, rfl, ?_⟩)
  | ((with_reducible show ∃ (fs : List (Str × D)) (y : D), machD _ _ _ = .ins _ fs ∧ _); refine ⟨_, _, rfl, rfl, ?_⟩)
  | ((with_reducible show _ ≤ sizeLine ∧ _); refine ⟨?_, ?_⟩; · leaf_len)
  | ((with_reducible show _ < sizeLine ∧ _); refine ⟨?_, ?_⟩; · leaf_len))

variable {P : Program} {w : World} {K : PySem.W.Frag} {mg : Str → Option Value} {base : Heap} {A : Ad}
def S_pair : QSpec := fun ds k _ => ∃ a b : Int, ds = [tupI [a, b]] ∧ k (.val (.bl true))
theorem lnoq_is_pair : ∀ ds k kx, (S_pair : QSpec) ds k kx → ds.length = 1 := by
  intro ds k kx h
  obtain ⟨a, b, rfl, hk⟩ := h
  rfl
theorem oq_is_pair (T : Txt K mg A) : FnOk P w K mg base (L2.CX P w) 2 A.f_is_pair A.d_is_pair ["thing"] (spP K (S_pair)) := by
  refine T.F_is_pair.okX sc_is_pair (spP_len lnoq_is_pair) (fun cdv A1 outer s H vs Q E hr h => ?_)
  refine def_run (N := ["thing"]) (p := _) (fun kx => (qss_one (qs_ret (q_and (q_callB (f_isi rfl) sim_isi (by rfl) T.z_isinstance (by decide +kernel) (qa_cons (q_var rfl (pv 0)) (qa_cons (q_c (d := .ty "tuple") rfl (pe_bltn (v := .ty "tuple") (u := .type "tuple") rfl T.z_tuple (by decide +kernel) rfl) (fun _ _ => .ty _)) (qa_nil rfl)))) (q_and (q_cmp1 (c_eq rfl (hu64 hr)) (q_callB (f_len rfl) sim_len (by rfl) T.z_len (by decide +kernel) (qa_cons (q_var rfl (pv 0)) (qa_nil rfl))) (q_int rfl) (nomark _)) (q_and (q_call (oq_is_whole T) (hr.mono (by decide)) (by rfl) T.m_is_whole T.F_is_whole.kp T.B_is_whole (takes_of rfl rfl rfl rfl) (qa_cons (q_ix (q_var rfl (pv 0)) (q_int rfl) (fun _ _ => rfl)) (qa_nil rfl))) (q_one (q_call (oq_is_whole T) (hr.mono (by decide)) (by rfl) T.m_is_whole T.F_is_whole.kp T.B_is_whole (takes_of rfl rfl rfl rfl) (qa_cons (q_ix (q_var rfl (pv 0)) (q_int rfl) (fun _ _ => rfl)) (qa_nil rfl)))))))))) h (fun ds k kx h => by rw [lnoq_is_pair ds k kx h]; decide) (fun ds k kx h => ?_)
  obtain ⟨a, b, rfl, hk⟩ := h
  repeat tb_rel
  refine ⟨_, rfl, ⟨_, rfl⟩, ?_⟩
  repeat tb_rel
  refine ⟨_, rfl, ⟨_, rfl⟩, ?_⟩
  repeat tb_rel
  try exact hk
def S_share : QSpec := fun ds k _ => ∃ a b : Int, ds = [tupI [a, b]] ∧ 1 ≤ b ∧ gcdI a b = 1 ∧ k (.val (.bl true))
theorem lnoq_is_share : ∀ ds k kx, (S_share : QSpec) ds k kx → ds.length = 1 := by
  intro ds k kx h
  obtain ⟨a, b, rfl, hb, hg, hk⟩ := h
  rfl
theorem oq_is_share (T : Txt K mg A) : FnOk P w K mg base (L2.CX P w) 3 A.f_is_share A.d_is_share ["thing"] (spP K (S_share)) := by
  refine T.F_is_share.okX sc_is_share (spP_len lnoq_is_share) (fun cdv A1 outer s H vs Q E hr h => ?_)
  refine def_run (N := ["thing"]) (p := _) (fun kx => (qss_one (qs_ret (q_and (q_call (oq_is_pair T) (hr.mono (by decide)) (by rfl) T.m_is_pair T.F_is_pair.kp T.B_is_pair (takes_of rfl rfl rfl rfl) (qa_cons (q_var rfl (pv 0)) (qa_nil rfl))) (q_and (q_cmp1 c_ge (q_ix (q_var rfl (pv 0)) (q_int rfl) (fun _ _ => rfl)) (q_int rfl) (nomark _)) (q_one (q_cmp1 (c_eq rfl (hu64 hr)) (q_callF cr_gcd sim_gcd rfl T.m_gcd (qa_cons (q_ix (q_var rfl (pv 0)) (q_int rfl) (fun _ _ => rfl)) (qa_cons (q_ix (q_var rfl (pv 0)) (q_int rfl) (fun _ _ => rfl)) (qa_nil rfl)))) (q_int rfl) (nomark _)))))))) h (fun ds k kx h => by rw [lnoq_is_share ds k kx h]; decide) (fun ds k kx h => ?_)
  obtain ⟨a, b, rfl, hb, hg, hk⟩ := h
  repeat tb_rel
  refine ⟨a, b, rfl, ?_⟩
  repeat tb_rel
  rw [show decide (((Nat.gcd a.natAbs b.natAbs : Nat) : Int) = 1) = true from decide_eq_true hg]
  repeat tb_rel
  try exact hk
def S_cshare : QSpec := fun ds k _ => ∃ a b : Int, ds = [tupI [a, b]] ∧ 1 ≤ b ∧ gcdI a b = 1 ∧ k (.val .non)
theorem lnoq_check_share : ∀ ds k kx, (S_cshare : QSpec) ds k kx → ds.length = 1 := by
  intro ds k kx h
  obtain ⟨a, b, rfl, hb, hg, hk⟩ := h
  rfl
theorem oq_check_share (T : Txt K mg A) : FnOk P w K mg base (L2.CX P w) 4 A.f_check_share A.d_check_share ["thing"] (spP K (S_cshare)) := by
  refine T.F_check_share.okX sc_check_share (spP_len lnoq_check_share) (fun cdv A1 outer s H vs Q E hr h => ?_)
  refine def_run (N := ["thing"]) (p := _) (fun kx => (qss_one (qs_if (qt_not (qt_tru (q_call (oq_is_share T) (hr.mono (by decide)) (by rfl) T.m_is_share T.F_is_share.kp T.B_is_share (takes_of rfl rfl rfl rfl) (qa_cons (q_var rfl (pv 0)) (qa_nil rfl))))) (qss_one (qs_raise0 rfl rfl (takes_of rfl rfl rfl rfl) (pmk_own0 PySem.F.excBase_ValueError T.x_NoShare T.m_NoShare T.kp_NoShare (raises_own T.b_NoShare T.t_NoShare) (by exact rfl)))) (qss_nil rfl)))) h (fun ds k kx h => by rw [lnoq_check_share ds k kx h]; decide) (fun ds k kx h => ?_)
  obtain ⟨a, b, rfl, hb, hg, hk⟩ := h
  repeat tb_rel
  refine ⟨a, b, rfl, hb, hg, ?_⟩
  repeat tb_rel
  try exact hk
def S_liftof : QSpec := fun ds k _ => ∃ a b t p : Int, ds = [tupI [a, b], .int t, .int p] ∧ -(2 ^ 64) < t ∧ t < 2 ^ 64 ∧ -(2 ^ 64) < p ∧ p < 2 ^ 64 ∧ k (.val (.int (b * p - a * t)))
theorem lnoq_lift_of : ∀ ds k kx, (S_liftof : QSpec) ds k kx → ds.length = 3 := by
  intro ds k kx h
  obtain ⟨a, b, t, p, rfl, t0, t1, p0, p1, hk⟩ := h
  rfl
theorem oq_lift_of (T : Txt K mg A) : FnOk P w K mg base (L2.CX P w) 1 A.f_lift_of A.d_lift_of ["share", "tries", "points"] (spP K (S_liftof)) := by
  refine T.F_lift_of.okX sc_lift_of (spP_len lnoq_lift_of) (fun cdv A1 outer s H vs Q E hr h => ?_)
  refine def_run (N := ["share", "tries", "points"]) (p := _) (fun kx => (qss_one (qs_ret (q_sub (q_mul (q_ix (q_var rfl (pv 0)) (q_int rfl) (fun _ _ => rfl)) (q_var rfl (pv 2))) (q_mul (q_ix (q_var rfl (pv 0)) (q_int rfl) (fun _ _ => rfl)) (q_var rfl (pv 1))))))) h (fun ds k kx h => by rw [lnoq_lift_of ds k kx h]; decide) (fun ds k kx h => ?_)
  obtain ⟨a, b, t, p, rfl, t0, t1, p0, p1, hk⟩ := h
  repeat tb_rel
  try exact hk
theorem o_ix2 {e : List Int} {k : RV → Prop} (f : Four e) (h : k (.val (.int (evT e)))) : opIx (tupI e) (.int 2) k := by
  obtain ⟨b, a, t, p, rfl⟩ := f
  exact ⟨_, rfl, h⟩
theorem o_ix3 {e : List Int} {k : RV → Prop} (f : Four e) (h : k (.val (.int (evP e)))) : opIx (tupI e) (.int 3) k := by
  obtain ⟨b, a, t, p, rfl⟩ := f
  exact ⟨_, rfl, h⟩
theorem fm_int {f : Int → Int} (l : List Int) : (l.filterMap fun k => some (D.int (f k))) = (l.map f).map D.int := by
  induction l with
  | nil => rfl
  | cons b l ih => rw [List.filterMap_cons, ih]; rfl
def S_total (C : Addr) : QSpec := fun ds k _ => ∃ n evs row, ds = [machD C n evs, tupI row] ∧ (∀ e ∈ evs, Four e) ∧ (∀ k ∈ row, 0 ≤ k ∧ k < (evs.length : Int)) ∧ row.length ≤ 1000 ∧ k (.val (tupI [sumT evs row, sumP evs row]))
theorem lnoq_total : ∀ ds k kx, (S_total A.C_Machine : QSpec) ds k kx → ds.length = 2 := by
  intro ds k kx h
  obtain ⟨n, evs, row, rfl, f4, hin, hl, hk⟩ := h
  rfl
theorem oq_total (T : Txt K mg A) : FnOk P w K mg base (L2.CX P w) 1 A.f_total A.d_total ["machine", "row"] (spP K (S_total A.C_Machine)) := by
  refine T.F_total.okX sc_total (spP_len (lnoq_total (A := A))) (fun cdv A1 outer s H vs Q E hr h => ?_)
  refine def_run (N := ["machine", "row", "number", "tries", "points"]) (p := _) (fun kx => (qss_cons (qs_set (i := 3) sc_total.nd rfl (Or.inl rfl) (q_callB (f_sum rfl rfl) sim_sum (by rfl) T.z_sum (by decide +kernel) (qa_cons (q_lc (own := [("number", 2)]) rfl sc_total.nd (qi_seq (q_var rfl (pv 1))) (blkOk_by (N := ["machine", "row", "number", "tries", "points"]) (sc := defScope s_total) (by decide +kernel)) (fun _ _ _ _ _ => by exact (qg_name (i := 2) rfl sc_total.nd rfl (Or.inl rfl))) (fun _ _ _ _ _ => by exact (qts_nil rfl)) (fun _ _ _ _ _ => by exact (q_ix (q_ix (q_fld T.cl_Machine T.n_events (q_var rfl (pv 0)) (by rfl)) (q_var rfl (pv 2)) (fun _ _ => rfl)) (q_int rfl) (fun _ _ => rfl))) (by decide)) (qa_nil rfl))))
      (qss_cons (qs_set (i := 4) sc_total.nd rfl (Or.inl rfl) (q_callB (f_sum rfl rfl) sim_sum (by rfl) T.z_sum (by decide +kernel) (qa_cons (q_lc (own := [("number", 2)]) rfl sc_total.nd (qi_seq (q_var rfl (pv 1))) (blkOk_by (N := ["machine", "row", "number", "tries", "points"]) (sc := defScope s_total) (by decide +kernel)) (fun _ _ _ _ _ => by exact (qg_name (i := 2) rfl sc_total.nd rfl (Or.inl rfl))) (fun _ _ _ _ _ => by exact (qts_nil rfl)) (fun _ _ _ _ _ => by exact (q_ix (q_ix (q_fld T.cl_Machine T.n_events (q_var rfl (pv 0)) (by rfl)) (q_var rfl (pv 2)) (fun _ _ => rfl)) (q_int rfl) (fun _ _ => rfl))) (by decide)) (qa_nil rfl))))
      (qss_one (qs_ret (q_tup (qa_cons (q_var rfl (pv 3)) (qa_cons (q_var rfl (pv 4)) (qa_nil rfl))))))))) h (fun ds k kx h => by rw [lnoq_total ds k kx h]; decide) (fun ds k kx h => ?_)
  obtain ⟨n, evs, row, rfl, f4, hin, hl, hk⟩ := h
  repeat tb_rel
  refine lc_norm (by nest_cls) ?_
  refine lc_g (c := .int) (fun g => some (.int (evT (evs.getD g.toNat [])))) (by omega) (fun j g acc hg la nx h1 h2 => ?_) ?_
  · obtain ⟨g0, g1⟩ := hin g (List.mem_of_getElem? hg)
    repeat tb_rel
    refine o_ix2 (four_getD f4 g0 g1) ?_
    repeat tb_rel
    exact h2 _ rfl
  rw [fm_int]
  repeat tb_rel
  refine ⟨_, rfl, ?_⟩
  repeat tb_rel
  refine lc_norm (by nest_cls) ?_
  refine lc_g (c := .int) (fun g => some (.int (evP (evs.getD g.toNat [])))) (by omega) (fun j g acc hg la nx h1 h2 => ?_) ?_
  · obtain ⟨g0, g1⟩ := hin g (List.mem_of_getElem? hg)
    repeat tb_rel
    refine o_ix3 (four_getD f4 g0 g1) ?_
    repeat tb_rel
    exact h2 _ rfl
  rw [fm_int]
  repeat tb_rel
  refine ⟨_, rfl, ?_⟩
  repeat tb_rel
  try exact hk
end
end Myk33

namespace Myk33
open PySem L2 My EnT Pl
section
-- Same from behind
local macro_rules | `(tactic| nest_cls) => `(tactic| first
  | exact Same.refl _
  | assumption
  | (refine Same.back (Same.new (by assumption)) ?_; nest_cls)
  | (refine Same.back (by assumption) ?_; nest_cls)
  | (refine Same.chg ?_ (by first | assumption | exact Free.flip (by assumption) (by nest_cls)); nest_cls))
-- Keep from behind
local macro_rules | `(tactic| mem_news) => `(tactic| first
  | exact Keep.refl _
  | assumption
  | (refine Keep.back (Keep.new (by assumption)) ?_; mem_news)
  | (refine Keep.back (Keep.lst (by assumption)) ?_; mem_news)
  | (refine Keep.back (Keep.lst (by kd_adr)) ?_; mem_news)
  | (refine Keep.back (Keep.of (by assumption)) ?_; mem_news)
  | (refine Keep.back (Keep.ofBut (by assumption) (by kba_ints)) ?_; mem_news)
  | (refine Keep.back (by assumption) ?_; mem_news))
-- the pot
local macro_rules | `(tactic| kba_ints) => `(tactic| first
  | assumption
  | (refine Pt.At.back (Same.new (by assumption)) ?_; kba_ints)
  | (refine Pt.At.back (by assumption) ?_; kba_ints)
  | exact Pt.At.flip (by assumption) (by nest_cls))
-- a fact of a heap, from behind
local macro_rules | `(tactic| kd_adr) => `(tactic| first
  | ((with_reducible show IT _ _ _ _); first
    | assumption
    | exact IT.new2
    | exact IT.new1
    | exact IT.new3
    | exact IT.new4
    | exact IT.flip (by assumption) (by mem_news)
    | exact IT.flip IT.new2 (by mem_news)
    | exact IT.flip IT.new3 (by mem_news)
    | exact IT.flip IT.new1 (by mem_news)
    | exact IT.flip IT.new4 (by mem_news))
  | ((with_reducible show ITs _ _ _ _); first
    | assumption
    | exact ITs.flip (by assumption) (by mem_news))
  | ((with_reducible show SqT _ _ _ _); first
    | assumption
    | exact SqT.lt upd_same
    | exact SqT.lt (by assumption)
    | exact IT.sq (by assumption)
    | exact SqT.flip (by assumption) (by mem_news)
    | exact SqT.flip (SqT.lt (by assumption)) (by mem_news)
    | exact SqT.flip (IT.sq (by assumption)) (by mem_news)
    | exact SqT.flip (SqT.lt upd_same) (by mem_news))
  | ((with_reducible show SqL _ _ _ _); first
    | assumption
    | exact SqL.lt upd_same
    | exact SqL.lt (by assumption)
    | exact SqL.flip (by assumption) (by nest_cls)
    | exact SqL.flip (SqL.lt (by assumption)) (by nest_cls)
    | exact SqL.flip (SqL.lt upd_same) (by nest_cls))
  | ((with_reducible show Parts _ _ _ _ _); first | assumption | exact Parts.flip (by assumption) (by mem_news))
  | ((with_reducible show MachAt _ _ _ _ _ _); first | assumption | exact MachAt.flip (by assumption) (by mem_news))
  | ((with_reducible show ShIs _ _ _ _ _); first | assumption | exact ShIs.flip (by assumption) (by mem_news))
  | ((with_reducible show RunIs _ _ _ _ _); first | assumption | exact RunIs.flip (by assumption) (by mem_news))
  | ((with_reducible show LTs _ _ _ _); first | assumption | exact LTs.flip (by assumption) (by nest_cls))
  | ((with_reducible show Pt.At _ _); kba_ints)
  | ((with_reducible show Same _ _); nest_cls)
  | ((with_reducible show Keep _ _); mem_news)
  | ((with_reducible show (_ : Hp) _ = some _); first
    | assumption
    | exact upd_same
    | exact At.flip (by assumption) (by nest_cls)
    | exact At.flip upd_same (by nest_cls)))
-- a side condition
local macro_rules | `(tactic| leaf_len) => `(tactic| first
  | (with_reducible rfl)
  | (with_reducible assumption)
  | kd_adr
  | omega
  | ((with_reducible show (_ : Nat) ≤ sizeLine); first | (show 1 ≤ sizeLine; decide) | (show 2 ≤ sizeLine; decide) | (show 3 ≤ sizeLine; decide) | (show 4 ≤ sizeLine; decide) | (show 5 ≤ sizeLine; decide) | (show 6 ≤ sizeLine; decide) | (show 7 ≤ sizeLine; decide) | (show 8 ≤ sizeLine; decide) | (show 0 ≤ sizeLine; decide))
  | exact rfl
  | ((with_reducible show _ ∨ _); first | exact Or.inl (by leaf_len) | exact Or.inr (by leaf_len))
  | exact List.cons_ne_nil _ _
  | exact mf_ev _ _
  | exact mf_st _ _
  | exact flat_ints _
  | ((with_reducible show tyV _ _ _ _); exact Or.inl ⟨rfl, _, by kd_adr⟩)
  | ((with_reducible show ClsV _ _); exact ClsV.ty _)
  | ((with_reducible show CDivW _ _); exact CDivW.of (by omega) (by omega))
  | (apply Exists.intro (α := List V); kd_adr)
  | assumption
  | ((with_reducible show small _); unfold small; omega)
  | ((with_reducible show CPow _ _); exact ⟨by decide, by decide, by decide⟩)
  | ((with_reducible show CMul _ _); first | exact CMul.l (by omega) (by omega) | exact CMul.r (by omega) (by omega))
  | ((with_reducible show CMulW _ _); exact CMulW.of (by omega) (by omega))
  | ((with_reducible show TyX _ _ _ _); first | exact TyX.base (.int _) | exact TyX.base (.str _) | exact TyX.base (.bl _) | exact tyT (by kd_adr) | exact TyX.base (.lst (by kd_adr)))
  | ((with_reducible show PySem.W.kitOne _ _ _ = some _); first | exact kit_ty (r := true) (by decide +kernel) | exact kit_ty (r := false) (by decide +kernel))
  | decide)
-- a step
local macro_rules | `(tactic| l_ints) => `(tactic| first
  | (intro (p : Addr) (hp : (_ : Hp) p = none))
  | (intro (H' : Hp) (s : Same _ H'))
  | (intro (p : Addr) (H' : Hp) (s : Same _ H'))
  | (intro (h : IT _ _ _ _))
  | (intro (h : SqT _ _ _ _))
  | (intro (h : (_ : Hp) _ = none))
  | (intro (h : (_ : Hp) _ = some _))
  | ((with_reducible show rCatA _ _ _ _ _); refine catJ (by kd_adr) (by kd_adr) (by leaf_len) ?_)
  | ((with_reducible show rSlA _ _ none (some _) _ _); refine slTake (by kd_adr) (by omega) ?_)
  | with_reducible refine tC_i ?_
  | with_reducible refine tNil_i ?_
  | with_reducible refine tCons_i ?_
  | with_reducible refine tCall_i ?_
  | with_reducible refine tOp_i ?_
  | ((with_reducible refine tVar_i ?_ ?_); · exact rfl)
  | with_reducible refine iteT ?_
  | with_reducible refine iteF ?_
  | (with_reducible refine iteNEq ?_ ?_; · assumption)
  | (with_reducible refine iteNb ?_ ?_; · assumption)
  | (with_reducible refine iteTb ?_ ?_; · assumption)
  | (with_reducible refine iteFb ?_ ?_; · assumption)
  | ((with_reducible refine iteFb ?_ ?_); · exact rfl)
  | ((with_reducible refine iteTb ?_ ?_); · exact rfl)
  | with_reducible refine iteST rfl ?_
  | with_reducible refine iteSF (by decide +kernel) ?_
  | (refine And.intro ?_ ?_; · leaf_len)
  | apply Exists.intro (α := V)
  | apply Exists.intro (α := Int)
  | apply Exists.intro (α := Addr)
  | apply Exists.intro (α := List V)
  | apply Exists.intro (α := Str)
  | apply Exists.intro (α := Nat)
  | apply Exists.intro (α := Bool)
  | apply Exists.intro (α := Value)
  | apply Exists.intro (α := List Int)
  | apply Exists.intro (α := List (List Int))
  | apply Exists.intro (α := List Bool)
  | apply Exists.intro (α := List (Str × V))
  | apply Exists.intro (α := Option (List (Option Int)))
  | apply Exists.intro (α := Option Int)
  | apply Exists.intro (α := Pt)
  | refine Or.inr ⟨_, rfl, ?_⟩
  | apply Or.inl)

variable {P : Program} {w : World} {K : PySem.W.Frag} {mg : Str → Option Value} {base : Heap} {A : Ad}
theorem gcdI_pos {p t : Int} (h : 0 < t) : 0 < gcdI p t := by
  unfold gcdI
  have : 0 < Nat.gcd p.natAbs t.natAbs := Nat.gcd_pos_of_pos_right _ (by omega)
  omega
theorem gcdI_le {p t : Int} (h : 0 < t) : gcdI p t ≤ t := by
  unfold gcdI
  have := Nat.gcd_le_right p.natAbs (show 0 < t.natAbs by omega)
  omega
def spGcd : Sp := fun vs H Q _ => ∃ x y : Int, vs = [.int x, .int y] ∧ small y ∧ Q (.int (gcdI x y)) H
theorem abs_is (i : Int) : (if i < 0 then -i else i) = (i.natAbs : Int) := by split <;> omega
/-- a turn of Euclid's -/
theorem euclid {a b : Nat} (h : b < a) (hb : 0 < b) : a % b < b ∧ 2 * (b * (a % b)) ≤ a * b := by
  have h1 := Nat.mod_lt a hb
  have h2 : a % b + b ≤ a := by
    have e := Nat.div_add_mod a b
    have q : 1 ≤ a / b := (Nat.one_le_div_iff hb).mpr (Nat.le_of_lt h)
    have q2 : b * 1 ≤ b * (a / b) := Nat.mul_le_mul_left b q
    omega
  refine ⟨h1, ?_⟩
  have h3 : 2 * (a % b) ≤ a := by omega
  calc 2 * (b * (a % b)) = b * (2 * (a % b)) := by rw [Nat.mul_left_comm]
    _ ≤ b * a := Nat.mul_le_mul_left b h3
    _ = a * b := Nat.mul_comm b a
/-- what holds behind i turns -/
structure Eu (X Y i a b : Nat) : Prop where
  g : Nat.gcd a b = Nat.gcd X Y
  z : i = 0 → a = X ∧ b = Y
  s : 0 < i → b < a ∧ a * b * 2 ^ (i - 1) ≤ Y * Y
theorem Eu.step {X Y i a b : Nat} (h : Eu X Y i a b) (hb : b ≠ 0) : Eu X Y (i + 1) b (a % b) := by
  have hb' : 0 < b := Nat.pos_of_ne_zero hb
  refine ⟨?_, fun z => absurd z (Nat.succ_ne_zero i), fun _ => ?_⟩
  · rw [← h.g, Nat.gcd_comm a b, Nat.gcd_rec b a, Nat.gcd_comm]
  · refine ⟨Nat.mod_lt a hb', ?_⟩
    rw [Nat.add_sub_cancel]
    by_cases hi : i = 0
    · obtain ⟨rfl, rfl⟩ := h.z hi
      subst hi
      rw [Nat.pow_zero, Nat.mul_one]
      exact Nat.mul_le_mul_left b (Nat.le_of_lt (Nat.mod_lt a hb'))
    · obtain ⟨hlt, hs⟩ := h.s (Nat.pos_of_ne_zero hi)
      obtain ⟨_, h2⟩ := euclid hlt hb'
      obtain ⟨j, rfl⟩ : ∃ j, i = j + 1 := ⟨i - 1, by omega⟩
      rw [Nat.add_sub_cancel] at hs
      calc b * (a % b) * 2 ^ (j + 1) = 2 * (b * (a % b)) * 2 ^ j := by rw [Nat.pow_succ, Nat.mul_comm (2 ^ j) 2, ← Nat.mul_assoc, Nat.mul_comm (b * (a % b)) 2]
        _ ≤ a * b * 2 ^ j := Nat.mul_le_mul_right _ h2
        _ ≤ Y * Y := hs
theorem Eu.last {X Y a b : Nat} (h : Eu X Y 400 a b) (hy : Y < 2 ^ 200) : b = 0 := by
  obtain ⟨hlt, hs⟩ := h.s (by decide)
  by_cases hb : b = 0
  · exact hb
  · exfalso
    have h1 : 2 ≤ a * b := by
      have : 1 * 2 ≤ b * a := Nat.mul_le_mul (by omega) (by omega)
      rw [Nat.mul_comm]; omega
    have h2 : 2 * 2 ^ 399 ≤ Y * Y := Nat.le_trans (Nat.mul_le_mul_right _ h1) hs
    have h3 : Y * Y < 2 ^ 200 * 2 ^ 200 := Nat.mul_lt_mul'' hy hy
    rw [← Nat.pow_add] at h3
    have h4 : (2 : Nat) ^ (399 + 1) = 2 ^ 399 * 2 := Nat.pow_succ 2 399
    rw [Nat.mul_comm 2, ← h4] at h2
    exact absurd h3 (Nat.not_lt.mpr h2)
theorem ok_law_gcd (T : Txt K mg A) : FnOk P w K mg base CX0 1 A.f_law_gcd A.d_law_gcd ["one", "other"] (spGcd) := by
  refine T.F_law_gcd.ok sc_law_gcd (fun vs H Q E h => ?_) (fun cdv A1 outer s H vs Q E hr h => ?_)
  · obtain ⟨x, y, rfl, _⟩ := h
    rfl
  · obtain ⟨x, y, rfl, hy, q⟩ := h
    refine ⟨_, (pss_cons (ps_par (i := 0) (j := 1) rfl sc_law_gcd.nd rfl rfl (by decide) rfl rfl (pa_cons (pe_callB call_abs (by rfl) T.z_abs (by decide +kernel) (pa_cons (pv 0) pa_nil)) (pa_cons (pe_callB call_abs (by rfl) T.z_abs (by decide +kernel) (pa_cons (pv 1) pa_nil)) pa_nil)) (by rfl))
      (pss_cons (ps_for PassesOwn.never rfl (pi_range1 rfl T.z_range (pa_cons pe_int pa_nil)) (pg_name (i := 2) sc_law_gcd.nd rfl (Or.inl rfl))
        (pss_cons (ps_if (pt_cmpR op_eq (pv 1) pe_int (nomark _)) (pss_one ps_break) pss_nil)
      (pss_one (ps_par (i := 0) (j := 1) rfl sc_law_gcd.nd rfl rfl (by decide) rfl rfl (pa_cons (pv 1) (pa_cons (pe_op op_mod (pv 0) (pv 1)) pa_nil)) (by rfl)))))
      (pss_one (ps_ret (pv 0))))), ?_⟩
    refine ⟨_, rfl, _, rfl, _, rfl, _, rfl, _, _, rfl, ?_⟩
    dsimp only
    rw [abs_is, abs_is]
    refine ⟨400, rfl, by decide, by decide, for_range (n := 400) (fun i σ H' => H' = H ∧ ∃ a b u, σ = [some (.int (a : Nat)), some (.int (b : Nat)), u] ∧ Eu x.natAbs y.natAbs i a b) ⟨rfl, _, _, _, rfl, rfl, fun _ => ⟨rfl, rfl⟩, fun z => absurd z (by decide)⟩ ?_ ?_⟩
    · rintro i σ H' hi ⟨rfl, a, b, u, rfl, eu⟩
      refine ⟨_, rfl, rfl, _, rfl, ?_⟩
      by_cases c : b = 0
      · subst c
        have e : decide (V.int ((0 : Nat) : Int) = V.int 0) = true := decide_eq_true rfl
        rw [e]
        refine iteT ⟨_, rfl, ?_⟩
        have eg : gcdI x y = (a : Int) := by
          unfold gcdI
          rw [← eu.g, Nat.gcd_zero_right]
        rw [eg] at q
        exact q
      · have e : decide (V.int ((b : Nat) : Int) = V.int 0) = false := decide_eq_false fun z => c (by injection z with z; omega)
        rw [e]
        refine iteF ⟨_, rfl, _, rfl, _, rfl, _, _, rfl, rfl, (by show (0 : Int) < (b : Int); omega), _, _, rfl, ?_⟩
        exact ⟨rfl, b, a % b, _, by rw [Int.natCast_emod]; rfl, eu.step c⟩
    · rintro σ H' ⟨rfl, a, b, u, rfl, eu⟩
      have hb := eu.last hy
      subst hb
      have eg : gcdI x y = (a : Int) := by
        unfold gcdI
        rw [← eu.g, Nat.gcd_zero_right]
      rw [eg] at q
      exact ⟨_, rfl, q⟩
theorem low_one {p t : Int} (h : 0 < t) : gcdI (p / gcdI p t) (t / gcdI p t) = 1 ∧ 1 ≤ t / gcdI p t ∧ t / gcdI p t ≤ t := by
  have g0 := gcdI_pos (p := p) h
  have gn : 0 < Nat.gcd p.natAbs t.natAbs := by unfold gcdI at g0; omega
  have d1 : gcdI p t ∣ p := Int.ofNat_dvd_left.mpr (Nat.gcd_dvd_left _ _)
  have d2 : gcdI p t ∣ t := Int.ofNat_dvd_left.mpr (Nat.gcd_dvd_right _ _)
  have n1 : (p / gcdI p t).natAbs = p.natAbs / Nat.gcd p.natAbs t.natAbs := by rw [Int.natAbs_ediv_of_dvd d1]; rfl
  have n2 : (t / gcdI p t).natAbs = t.natAbs / Nat.gcd p.natAbs t.natAbs := by rw [Int.natAbs_ediv_of_dvd d2]; rfl
  refine ⟨?_, ?_, ?_⟩
  · have e : gcdI (p / gcdI p t) (t / gcdI p t) = ((Nat.gcd (p / gcdI p t).natAbs (t / gcdI p t).natAbs : Nat) : Int) := rfl
    rw [e, n1, n2, Nat.gcd_div (Nat.gcd_dvd_left _ _) (Nat.gcd_dvd_right _ _), Nat.div_self gn]
    rfl
  · have := gcdI_le (p := p) h
    exact (Int.le_ediv_iff_mul_le g0).mpr (by omega)
  · exact Int.ediv_le_self _ (Int.le_of_lt h)
theorem low_bd {P T : Int} (hT : 0 < T) : (P / gcdI P T).natAbs ≤ P.natAbs ∧ 1 ≤ T / gcdI P T ∧ T / gcdI P T ≤ T := by
  obtain ⟨_, l2, l3⟩ := low_one (p := P) hT
  refine ⟨?_, l2, l3⟩
  have d1 : gcdI P T ∣ P := Int.ofNat_dvd_left.mpr (Nat.gcd_dvd_left _ _)
  rw [Int.natAbs_ediv_of_dvd d1]
  exact Nat.div_le_self _ _
end
end Myk33

namespace Myk33
open PySem L2 My EnT Pl
section
-- an environment written out
local macro_rules | `(tactic| nest_cls) => `(tactic| with_unfolding_all (repeat (first | exact Nf.nil | apply Nf.cons)))
-- side conditions over values
local macro_rules | `(tactic| leaf_len) => `(tactic| first
  | (with_reducible rfl)
  | (with_reducible assumption)
  | rfl
  | omega
  | ((with_reducible show _ ≤ sizeLine); first | exact szL (by first | decide | (simp; done) | (simp; omega)) | exact szL (by omega) | decide)
  | ((with_reducible show _ < sizeLine); first | exact szK (by first | decide | (simp; done) | (simp; omega)) | exact szK (by omega) | decide)
  | ((with_reducible show CMul _ _ ∨ _); first | exact .inl (CMul.l (by omega) (by omega)) | exact .inl (CMul.r (by omega) (by omega)) | exact .inr (CMulW.of (by omega) (by omega)))
  | ((with_reducible show CMul _ _); first | exact CMul.l (by omega) (by omega) | exact CMul.r (by omega) (by omega))
  | ((with_reducible show CDivW _ _); exact CDivW.of (by omega) (by omega))
  | ((with_reducible show CPow _ _); exact ⟨by decide, by decide, by decide⟩)
  | ((with_reducible show small _); unfold small; omega)
  | ((with_reducible show ∀ K, PySem.W.kitOne K _ _ = some _); first | exact fun _ => kit_ty (r := true) (by decide +kernel) | exact fun _ => kit_ty (r := false) (by decide +kernel))
  | decide)
-- a step over values
local macro_rules | `(tactic| tb_rel) => `(tactic| first
  | (with_reducible refine i_sqN (by nest_cls) ?_)
  | (with_reducible first
    | refine i_sq ?_ | refine i_set ?_ | refine i_stV ?_ | refine i_stO ?_ | refine i_nx ?_
    | refine i_c ?_ | refine i_bin ?_ | refine i_wV ?_ | refine i_wT ?_ | refine i_test ?_ | refine i_tb ?_ | refine i_tru ?_ | refine i_truB ?_
    | refine iteT ?_ | refine iteF ?_
    | refine o_addI ?_ | refine o_I0 ?_ | refine o_B0 ?_ | refine o_eqI ?_ | refine o_neI ?_ | refine o_iaddI ?_
    | refine i_aCons ?_ | refine i_aNil ?_ | refine i_call ?_
    | refine i_if ?_ | refine i_ret ?_ | refine i_rt ?_ | refine i_retN ?_ | refine i_next ?_ | refine i_drop ?_ | refine i_break ?_ | refine i_cont ?_ | refine i_bk ?_ | refine i_ct ?_
    | refine i_andT ?_ | refine i_orT ?_ | refine i_notT ?_ | refine i_andV ?_ | refine i_orV ?_ | refine i_notV ?_ | refine i_ifE ?_
    | refine i_tup ?_ | refine i_lst ?_ | refine i_un ?_ | refine i_ei ?_ | refine i_eb ?_
    | refine i_cB ?_ | refine i_make ?_ | refine i_makeO ?_ | refine i_fld ?_ | refine i_chain ?_ | refine i_for ?_ | refine i_iseq ?_ | refine i_irg1 ?_ | refine i_irg2 ?_ | refine i_ien ?_ | refine i_lc ?_ | refine i_yes ?_ | refine i_lrg ?_ | refine i_index ?_
    | refine i_asg ?_ | refine i_par ?_ | refine i_gname ?_ | refine i_gnil ?_ | refine i_gconsM ?_ | refine i_gnilM ?_ | refine i_gcons ?_
    | refine i_sl ?_ | refine i_noP ?_ | refine i_part ?_ | refine i_slL ?_ | refine i_slT ?_
    | refine i_raise0 ?_ | refine i_raise1 ?_ | refine i_dict0 ?_ | refine i_disp1 ?_ | refine i_dget2 ?_ | refine i_keyI ?_ | refine i_keyS ?_ | refine i_isDK ?_ | refine i_isDT ?_ | refine o_din' ?_ | refine o_dix' ?_ | refine i_dgZ ?_ | refine i_dgI ?_ | refine i_dc ?_ | refine i_dgS ?_ | refine i_try ?_
    | refine f_lenE ?_ | refine f_lenI ?_ | refine f_lenM ?_ | refine f_lenL ?_ | refine f_lenT ?_ | refine f_intI ?_ | refine f_intB ?_ | refine f_absI ?_ | refine f_tupL ?_ | refine f_tupT ?_ | refine f_lstL ?_ | refine f_lstT ?_ | refine f_gcdI ?_ | refine i_isC ?_ | refine i_isCM ?_ | refine o_neE ?_
    | refine o_ixP0 ?_ | refine o_ixS0 ?_ | refine o_ixS1 ?_ | refine f_lenTI' ?_ | refine o_ixP1 ?_ | refine o_inT ?_ | refine o_ninT ?_
    | refine o_isN ?_ | refine o_isnN ?_ | refine o_isB ?_ | refine o_isnB ?_
    | refine loop_nil ?_
    | refine i_truL ?_ | refine i_truT ?_ | refine i_truI ?_)
  | (with_reducible refine i_var (by with_unfolding_all rfl) ?_)
  | (with_reducible refine i_callU (by with_unfolding_all rfl) (by with_unfolding_all rfl) ?_)
  | ((with_reducible refine o_IC ?_ ?_); · leaf_len)
  | ((with_reducible refine o_mulI ?_ ?_); · leaf_len)
  | (with_reducible refine i_varO (by with_unfolding_all rfl) ?_)
  | (with_reducible refine i_wN (by with_unfolding_all rfl) ?_)
  | (with_reducible refine i_gtup (by with_unfolding_all rfl) (by with_unfolding_all rfl) ?_)
  | (with_reducible refine i_aug (by with_unfolding_all rfl) ?_)
  | (with_reducible refine i_mb rfl (by with_unfolding_all rfl) ?_)
  | (with_reducible refine i_mb0 rfl (by with_unfolding_all rfl) ?_)
  | ((with_reducible refine m_appI ?_ ?_); · leaf_len)
  | ((with_reducible refine m_app ?_ ?_); · leaf_len)
  | (with_reducible refine i_dcZ (by with_unfolding_all rfl) (fun _ _ => ?_))
  | (with_reducible refine i_setDcZ (by with_unfolding_all rfl) (fun _ _ => ?_))
  | (with_reducible refine i_setD (by with_unfolding_all rfl) ?_)
  | (with_reducible refine i_dgT (by with_unfolding_all rfl) ?_)
  | ((with_reducible refine i_dpI ?_ ?_); · leaf_len)
  | ((with_reducible show ∃ d, _ = some (Sl.own d) ∧ _); refine ⟨_, rfl, ?_⟩)
  | (with_reducible refine i_setL (by with_unfolding_all rfl) ?_)
  | (with_reducible refine i_augL (by with_unfolding_all rfl) ?_)
  | (with_reducible refine i_setF (by with_unfolding_all rfl) ?_)
  | (with_reducible refine i_stN (by with_unfolding_all rfl) ?_)
  | ((with_reducible refine o_ix0 ?_ ?_); · first | assumption | exact four_getD (by assumption) (by assumption) (by assumption))
  | ((with_reducible refine o_ix1 ?_ ?_); · first | assumption | exact four_getD (by assumption) (by assumption) (by assumption))
  | ((with_reducible refine o_ixEv ?_ ?_ ?_ ?_); (· assumption); (· first | assumption | omega); (· first | assumption | omega))
  | ((with_reducible refine o_mulL ?_ ?_ ?_); (· omega); (· omega))
  | ((with_reducible refine o_addTI ?_ ?_); · omega)
  | ((with_reducible refine o_addT ?_ ?_); · leaf_len)
  | ((with_reducible refine o_addL ?_ ?_); · leaf_len)
  | ((with_reducible refine isi_int ?_ ?_); · first | assumption | exact ⟨_, rfl⟩)
  | ((with_reducible refine isi_bool ?_ ?_); · first | assumption | exact ⟨_, rfl⟩)
  | ((with_reducible refine isi_tup ?_ ?_); · first | assumption | exact ⟨_, rfl⟩)
  | ((with_reducible refine isi_lst ?_ ?_); · first | assumption | exact ⟨_, rfl⟩)
  | ((with_reducible refine isi_str ?_ ?_); · first | assumption | exact ⟨_, rfl⟩)
  | ((with_reducible refine iteTb ?_ ?_); · exact rfl)
  | ((with_reducible refine iteFb ?_ ?_); · exact rfl)
  | ((with_reducible refine iteTb ?_ ?_); · assumption)
  | ((with_reducible refine iteFb ?_ ?_); · assumption)
  | (with_reducible refine i_aft (by with_unfolding_all rfl) ?_)
  | ((with_reducible refine iteDT ?_ ?_); · first | assumption | omega)
  | ((with_reducible refine iteDF ?_ ?_); · first | assumption | omega)
  | ((with_reducible refine iteNT ?_ ?_); · first | assumption | omega)
  | ((with_reducible refine iteNF ?_ ?_); · first | assumption | omega)
  | ((with_reducible show ∃ ds, dsO _ _ = some ds ∧ _); refine ⟨_, rfl, ?_⟩)
  | ((with_reducible show ∃ s, RV.out _ _ = some s ∧ _); refine ⟨_, rfl, ?_⟩)
  | ((with_reducible show ∃ ds d, dsO _ _ = some ds ∧ _); refine ⟨_, _, rfl, rfl, ?_⟩)
  | ((with_reducible show ∃ d, dsO _ _ = some [d] ∧ _); refine ⟨_, rfl, ?_⟩)
  | ((with_reducible show ∃ y, RV.d _ _ = some y ∧ _); refine ⟨_, rfl, ?_⟩)
  | ((with_reducible show ∃ (y : D) (fs : List (Str × D)), RV.d _ _ = some y ∧ _); refine ⟨_, _, rfl, rfl, by first | exact putD_lt (by decide) | decide, ?_⟩)
  | ((with_reducible show ∃ ds, seqD _ = some ds ∧ _); refine ⟨_, rfl, ?_⟩)
  | ((with_reducible show ∃ d e, dsO _ _ = some [d, e] ∧ _); refine ⟨_, _, rfl, ?_⟩)
  | ((with_reducible show ∃ (fs : List (Str × D)) (y : D), D.ins _ _ = .ins _ fs ∧ _); refine ⟨_, _, rfl, rfl, ?_⟩)
  | ((with_reducible show ∃ (fs : List (Str × D)) (y : D), machD _ _ _ = .ins _ fs ∧ _); refine ⟨_, _, rfl, rfl, ?_⟩)
  | ((with_reducible show _ ≤ sizeLine ∧ _); refine ⟨?_, ?_⟩; · leaf_len)
  | ((with_reducible show _ < sizeLine ∧ _); refine ⟨?_, ?_⟩; · leaf_len))

variable {P : Program} {w : World} {K : PySem.W.Frag} {mg : Str → Option Value} {base : Heap} {A : Ad}
/-- from the heap's promises -/
def S_inner (C : Addr) : QSpec := fun ds k _ => ∃ n evs kn, ds = [machD C n evs, tupI kn] ∧ (∀ e ∈ evs, Four e) ∧ evs.length ≤ 1000 ∧ k (.tmp (lstI (inL evs kn)))
theorem oq_inner_events (T : Txt K mg A) : FnOk P w K mg base (L2.CX P w) 1 A.f_inner_events A.d_inner_events ["machine", "knot"] (spP K (S_inner A.C_Machine)) := by
  refine (FnOk.cx (ok_inner_events T)).imp fun vs H Q E ⟨po, G, F, ds, k, kx, a, r, ⟨n, evs, kn, ed, f4, hl, hk⟩, q, _⟩ => ?_
  subst ed
  cases r with
  | cons r1 r =>
    cases r with
    | cons r2 r =>
      cases r
      cases r2 with
      | tup e2 rs =>
        cases rs.ofInts
        refine ⟨_, _, n, evs, kn, rfl, Rdb.mach a.fh (.inl r1), ⟨_, rfl, SqT.lt (a.fh _ _ e2)⟩, f4, hl, fun b H' s hb hb' => ?_⟩
        have nf : newF H H' F b = none := by unfold newF; rw [hb, hb']
        exact q (newF H H' F) H' (.tmp _) _ (newF_same a) (newF_sta a s) ⟨b, _, rfl, hb', nf, a.gh.free hb, a.npot hb, .lst (Reps.ints _)⟩ hk
def S_lgcd : QSpec := fun ds k _ => ∃ x y : Int, ds = [.int x, .int y] ∧ small y ∧ k (.val (.int (gcdI x y)))
theorem oq_law_gcd (T : Txt K mg A) : FnOk P w K mg base (L2.CX P w) 1 A.f_law_gcd A.d_law_gcd ["one", "other"] (spP K S_lgcd) := by
  refine (FnOk.cx (ok_law_gcd T)).imp fun vs H Q E ⟨po, G, F, ds, k, kx, a, r, ⟨x, y, ed, hy, hk⟩, q, _⟩ => ?_
  subst ed
  cases r with
  | cons r1 r =>
    cases r with
    | cons r2 r =>
      cases r
      cases r1
      cases r2
      exact ⟨x, y, rfl, hy, q F H (.val _) _ (Same.refl F) a (Rep.int _) hk⟩
def S_llow : QSpec := fun ds k _ => ∃ t b : Int, ds = [.int t, .int b] ∧ 0 < b ∧ small b ∧ k (.val (tupI [t / gcdI t b, b / gcdI t b]))
theorem gcdI_small {t b : Int} (h : 0 < b) (s : small b) : 0 < gcdI t b ∧ small (gcdI t b) := by
  have g0 := gcdI_pos (p := t) h
  have := gcdI_le (p := t) h
  refine ⟨g0, ?_⟩
  unfold small at s ⊢
  omega
theorem lnoq_law_low : ∀ ds k kx, (S_llow : QSpec) ds k kx → ds.length = 2 := by
  intro ds k kx h
  obtain ⟨t, b, rfl, hb, hs, hk⟩ := h
  rfl
theorem oq_law_low (T : Txt K mg A) : FnOk P w K mg base (L2.CX P w) 2 A.f_law_low A.d_law_low ["top", "bottom"] (spP K (S_llow)) := by
  refine T.F_law_low.okX sc_law_low (spP_len lnoq_law_low) (fun cdv A1 outer s H vs Q E hr h => ?_)
  refine def_run (N := ["top", "bottom", "part"]) (p := _) (fun kx => (qss_cons (qs_set (i := 2) sc_law_low.nd rfl (Or.inl rfl) (q_call (oq_law_gcd T) (hr.mono (by decide)) (by rfl) T.m_law_gcd T.F_law_gcd.kp T.B_law_gcd (takes_of rfl rfl rfl rfl) (qa_cons (q_var rfl (pv 0)) (qa_cons (q_var rfl (pv 1)) (qa_nil rfl)))))
      (qss_one (qs_ret (q_tup (qa_cons (q_div (q_var rfl (pv 0)) (q_var rfl (pv 2))) (qa_cons (q_div (q_var rfl (pv 1)) (q_var rfl (pv 2))) (qa_nil rfl)))))))) h (fun ds k kx h => by rw [lnoq_law_low ds k kx h]; decide) (fun ds k kx h => ?_)
  obtain ⟨t, b, rfl, hb, hs, hk⟩ := h
  obtain ⟨g0, gs⟩ := gcdI_small (t := t) hb hs
  repeat tb_rel
  refine ⟨t, b, rfl, hs, ?_⟩
  repeat tb_rel
  refine o_IC (div_small g0 gs) ?_
  repeat tb_rel
  refine o_IC (div_small g0 gs) ?_
  repeat tb_rel
  try exact hk
/-- a share in lowest terms -/
def ShI (a b : Int) : Prop := 1 ≤ b ∧ gcdI a b = 1
def S_lshare : QSpec := fun ds k _ => ∃ m : Int, ds = [.pot, .int m] ∧ 1 ≤ m ∧ m ≤ 100 ∧ ∀ a b, ShI a b → a.natAbs ≤ 300 → b ≤ 100 → k (.val (tupI [a, b]))
theorem lnoq_law_share : ∀ ds k kx, (S_lshare : QSpec) ds k kx → ds.length = 2 := by
  intro ds k kx h
  obtain ⟨m, rfl, m0, m1, hk⟩ := h
  rfl
theorem oq_law_share (T : Txt K mg A) : FnOk P w K mg base (L2.CX P w) 3 A.f_law_share A.d_law_share ["pot", "most"] (spP K (S_lshare)) := by
  refine T.F_law_share.okX sc_law_share (spP_len lnoq_law_share) (fun cdv A1 outer s H vs Q E hr h => ?_)
  refine def_run (N := ["pot", "most", "bottom"]) (p := _) (fun kx => (qss_cons (qs_set (i := 2) sc_law_share.nd rfl (Or.inl rfl) (q_add (q_int rfl) (q_call (draw_ok (ok_law_draw T)) (hr.mono (by decide)) (by rfl) T.m_law_draw T.F_law_draw.kp T.B_law_draw (takes_of rfl rfl rfl rfl) (qa_cons (q_var rfl (pv 0)) (qa_cons (q_var rfl (pv 1)) (qa_nil rfl))))))
      (qss_one (qs_ret (q_call (oq_law_low T) (hr.mono (by decide)) (by rfl) T.m_law_low T.F_law_low.kp T.B_law_low (takes_of rfl rfl rfl rfl) (qa_cons (q_sub (q_call (draw_ok (ok_law_draw T)) (hr.mono (by decide)) (by rfl) T.m_law_draw T.F_law_draw.kp T.B_law_draw (takes_of rfl rfl rfl rfl) (qa_cons (q_var rfl (pv 0)) (qa_cons (q_add (q_mul (q_int rfl) (q_var rfl (pv 2))) (q_int rfl)) (qa_nil rfl)))) (q_var rfl (pv 2))) (qa_cons (q_var rfl (pv 2)) (qa_nil rfl)))))))) h (fun ds k kx h => by rw [lnoq_law_share ds k kx h]; decide) (fun ds k kx h => ?_)
  obtain ⟨m, rfl, m0, m1, hk⟩ := h
  repeat tb_rel
  refine ⟨_, rfl, by omega, small_of (by omega), fun r r0 r1 => ?_⟩
  repeat tb_rel
  refine ⟨_, rfl, by omega, small_of (by omega), fun t t0 t1 => ?_⟩
  repeat tb_rel
  refine ⟨_, _, rfl, by omega, small_of (by omega), ?_⟩
  have hb : (0 : Int) < 1 + r := by omega
  obtain ⟨h1, h2, h3⟩ := low_one (p := t - (1 + r)) hb
  obtain ⟨h4, _, _⟩ := low_bd (P := t - (1 + r)) hb
  repeat tb_rel
  exact hk _ _ ⟨h2, h1⟩ (by omega) (by omega)
end
end Myk33

namespace Myk33
open PySem L2 My EnT Pl
section
-- an environment written out
local macro_rules | `(tactic| nest_cls) => `(tactic| with_unfolding_all (repeat (first | exact Nf.nil | apply Nf.cons)))
-- side conditions over values
local macro_rules | `(tactic| leaf_len) => `(tactic| first
  | (with_reducible rfl)
  | (with_reducible assumption)
  | rfl
  | omega
  | ((with_reducible show _ ≤ sizeLine); first | exact szL (by first | decide | (simp; done) | (simp; omega)) | exact szL (by omega) | decide)
  | ((with_reducible show _ < sizeLine); first | exact szK (by first | decide | (simp; done) | (simp; omega)) | exact szK (by omega) | decide)
  | ((with_reducible show CMul _ _ ∨ _); first | exact .inl (CMul.l (by omega) (by omega)) | exact .inl (CMul.r (by omega) (by omega)) | exact .inr (CMulW.of (by omega) (by omega)))
  | ((with_reducible show CMul _ _); first | exact CMul.l (by omega) (by omega) | exact CMul.r (by omega) (by omega))
  | ((with_reducible show CDivW _ _); exact CDivW.of (by omega) (by omega))
  | ((with_reducible show CPow _ _); exact ⟨by decide, by decide, by decide⟩)
  | ((with_reducible show small _); unfold small; omega)
  | ((with_reducible show ∀ K, PySem.W.kitOne K _ _ = some _); first | exact fun _ => kit_ty (r := true) (by decide +kernel) | exact fun _ => kit_ty (r := false) (by decide +kernel))
  | decide)
-- a step over values
local macro_rules | `(tactic| tb_rel) => `(tactic| first
  | (with_reducible refine i_sqN (by nest_cls) ?_)
  | (with_reducible first
    | refine i_sq ?_ | refine i_set ?_ | refine i_stV ?_ | refine i_stO ?_ | refine i_nx ?_
    | refine i_c ?_ | refine i_bin ?_ | refine i_wV ?_ | refine i_wT ?_ | refine i_test ?_ | refine i_tb ?_ | refine i_tru ?_ | refine i_truB ?_
    | refine iteT ?_ | refine iteF ?_
    | refine o_addI ?_ | refine o_I0 ?_ | refine o_B0 ?_ | refine o_eqI ?_ | refine o_neI ?_ | refine o_iaddI ?_
    | refine i_aCons ?_ | refine i_aNil ?_ | refine i_call ?_
    | refine i_if ?_ | refine i_ret ?_ | refine i_rt ?_ | refine i_retN ?_ | refine i_next ?_ | refine i_drop ?_ | refine i_break ?_ | refine i_cont ?_ | refine i_bk ?_ | refine i_ct ?_
    | refine i_andT ?_ | refine i_orT ?_ | refine i_notT ?_ | refine i_andV ?_ | refine i_orV ?_ | refine i_notV ?_ | refine i_ifE ?_
    | refine i_tup ?_ | refine i_lst ?_ | refine i_un ?_ | refine i_ei ?_ | refine i_eb ?_
    | refine i_cB ?_ | refine i_make ?_ | refine i_makeO ?_ | refine i_fld ?_ | refine i_chain ?_ | refine i_for ?_ | refine i_iseq ?_ | refine i_irg1 ?_ | refine i_irg2 ?_ | refine i_ien ?_ | refine i_lc ?_ | refine i_yes ?_ | refine i_lrg ?_ | refine i_index ?_
    | refine i_asg ?_ | refine i_par ?_ | refine i_gname ?_ | refine i_gnil ?_ | refine i_gconsM ?_ | refine i_gnilM ?_ | refine i_gcons ?_
    | refine i_sl ?_ | refine i_noP ?_ | refine i_part ?_ | refine i_slL ?_ | refine i_slT ?_
    | refine i_raise0 ?_ | refine i_raise1 ?_ | refine i_dict0 ?_ | refine i_disp1 ?_ | refine i_dget2 ?_ | refine i_keyI ?_ | refine i_keyS ?_ | refine i_isDK ?_ | refine i_isDT ?_ | refine o_din' ?_ | refine o_dix' ?_ | refine i_dgZ ?_ | refine i_dgI ?_ | refine i_dc ?_ | refine i_dgS ?_ | refine i_try ?_
    | refine f_lenE ?_ | refine f_lenI ?_ | refine f_lenM ?_ | refine f_lenL ?_ | refine f_lenT ?_ | refine f_intI ?_ | refine f_intB ?_ | refine f_absI ?_ | refine f_tupL ?_ | refine f_tupT ?_ | refine f_lstL ?_ | refine f_lstT ?_ | refine f_gcdI ?_ | refine i_isC ?_ | refine i_isCM ?_ | refine o_neE ?_
    | refine o_ixP0 ?_ | refine o_ixS0 ?_ | refine o_ixS1 ?_ | refine f_lenTI' ?_ | refine o_ixP1 ?_ | refine o_inT ?_ | refine o_ninT ?_
    | refine o_isN ?_ | refine o_isnN ?_ | refine o_isB ?_ | refine o_isnB ?_
    | refine loop_nil ?_
    | refine i_truL ?_ | refine i_truT ?_ | refine i_truI ?_)
  | (with_reducible refine i_var (by with_unfolding_all rfl) ?_)
  | (with_reducible refine i_callU (by with_unfolding_all rfl) (by with_unfolding_all rfl) ?_)
  | ((with_reducible refine o_IC ?_ ?_); · leaf_len)
  | ((with_reducible refine o_mulI ?_ ?_); · leaf_len)
  | (with_reducible refine i_varO (by with_unfolding_all rfl) ?_)
  | (with_reducible refine i_wN (by with_unfolding_all rfl) ?_)
  | (with_reducible refine i_gtup (by with_unfolding_all rfl) (by with_unfolding_all rfl) ?_)
  | (with_reducible refine i_aug (by with_unfolding_all rfl) ?_)
  | (with_reducible refine i_mb rfl (by with_unfolding_all rfl) ?_)
  | (with_reducible refine i_mb0 rfl (by with_unfolding_all rfl) ?_)
  | ((with_reducible refine m_appI ?_ ?_); · leaf_len)
  | ((with_reducible refine m_app ?_ ?_); · leaf_len)
  | (with_reducible refine i_dcZ (by with_unfolding_all rfl) (fun _ _ => ?_))
  | (with_reducible refine i_setDcZ (by with_unfolding_all rfl) (fun _ _ => ?_))
  | (with_reducible refine i_setD (by with_unfolding_all rfl) ?_)
  | (with_reducible refine i_dgT (by with_unfolding_all rfl) ?_)
  | ((with_reducible refine i_dpI ?_ ?_); · leaf_len)
  | ((with_reducible show ∃ d, _ = some (Sl.own d) ∧ _); refine ⟨_, rfl, ?_⟩)
  | (with_reducible refine i_setL (by with_unfolding_all rfl) ?_)
  | (with_reducible refine i_augL (by with_unfolding_all rfl) ?_)
  | (with_reducible refine i_setF (by with_unfolding_all rfl) ?_)
  | (with_reducible refine i_stN (by with_unfolding_all rfl) ?_)
  | ((with_reducible refine o_ix0 ?_ ?_); · first | assumption | exact four_getD (by assumption) (by assumption) (by assumption))
  | ((with_reducible refine o_ix1 ?_ ?_); · first | assumption | exact four_getD (by assumption) (by assumption) (by assumption))
  | ((with_reducible refine o_ixEv ?_ ?_ ?_ ?_); (· assumption); (· first | assumption | omega); (· first | assumption | omega))
  | ((with_reducible refine o_mulL ?_ ?_ ?_); (· omega); (· omega))
  | ((with_reducible refine o_addTI ?_ ?_); · omega)
  | ((with_reducible refine o_addT ?_ ?_); · leaf_len)
  | ((with_reducible refine o_addL ?_ ?_); · leaf_len)
  | ((with_reducible refine isi_int ?_ ?_); · first | assumption | exact ⟨_, rfl⟩)
  | ((with_reducible refine isi_bool ?_ ?_); · first | assumption | exact ⟨_, rfl⟩)
  | ((with_reducible refine isi_tup ?_ ?_); · first | assumption | exact ⟨_, rfl⟩)
  | ((with_reducible refine isi_lst ?_ ?_); · first | assumption | exact ⟨_, rfl⟩)
  | ((with_reducible refine isi_str ?_ ?_); · first | assumption | exact ⟨_, rfl⟩)
  | ((with_reducible refine iteTb ?_ ?_); · exact rfl)
  | ((with_reducible refine iteFb ?_ ?_); · exact rfl)
  | ((with_reducible refine iteTb ?_ ?_); · assumption)
  | ((with_reducible refine iteFb ?_ ?_); · assumption)
  | (with_reducible refine i_aft (by with_unfolding_all rfl) ?_)
  | ((with_reducible refine iteDT ?_ ?_); · first | assumption | omega)
  | ((with_reducible refine iteDF ?_ ?_); · first | assumption | omega)
  | ((with_reducible refine iteNT ?_ ?_); · first | assumption | omega)
  | ((with_reducible refine iteNF ?_ ?_); · first | assumption | omega)
  | ((with_reducible show ∃ ds, dsO _ _ = some ds ∧ _); refine ⟨_, rfl, ?_⟩)
  | ((with_reducible show ∃ s, RV.out _ _ = some s ∧ _); refine ⟨_, rfl, ?_⟩)
  | ((with_reducible show ∃ ds d, dsO _ _ = some ds ∧ _); refine ⟨_, _, rfl, rfl, ?_⟩)
  | ((with_reducible show ∃ d, dsO _ _ = some [d] ∧ _); refine ⟨_, rfl, ?_⟩)
  | ((with_reducible show ∃ y, RV.d _ _ = some y ∧ _); refine ⟨_, rfl, ?_⟩)
  | ((with_reducible show ∃ (y : D) (fs : List (Str × D)), RV.d _ _ = some y ∧ _); refine ⟨_, _, rfl, rfl, by first | exact putD_lt (by decide) | decide, ?_⟩)
  | ((with_reducible show ∃ ds, seqD _ = some ds ∧ _); refine ⟨_, rfl, ?_⟩)
  | ((with_reducible show ∃ d e, dsO _ _ = some [d, e] ∧ _); refine ⟨_, _, rfl, ?_⟩)
  | ((with_reducible show ∃ (fs : List (Str × D)) (y : D), D.ins _ _ = .ins _ fs ∧ _); refine ⟨_, _, rfl, rfl, ?_⟩)
  | ((with_reducible show ∃ (fs : List (Str × D)) (y : D), machD _ _ _ = .ins _ fs ∧ _); refine ⟨_, _, rfl, rfl, ?_⟩)
  | ((with_reducible show _ ≤ sizeLine ∧ _); refine ⟨?_, ?_⟩; · leaf_len)
  | ((with_reducible show _ < sizeLine ∧ _); refine ⟨?_, ?_⟩; · leaf_len))

variable {P : Program} {w : World} {K : PySem.W.Frag} {mg : Str → Option Value} {base : Heap} {A : Ad}
theorem getD_at {l : List (List Int)} {i : Nat} (h : i < l.length) : l[i]? = some (l.getD i []) := by
  rw [List.getD_eq_getElem?_getD, List.getElem?_eq_getElem h]
  rfl
theorem okAB {n : Int} {evs : List (List Int)} (ok : ∀ e ∈ evs, okEv n e) {k : Int} (k0 : 0 ≤ k) (k1 : k < (evs.length : Int)) : 0 ≤ evB (evs.getD k.toNat []) ∧ evB (evs.getD k.toNat []) < n ∧ 0 ≤ evA (evs.getD k.toNat []) ∧ evA (evs.getD k.toNat []) < n := by
  have m := List.mem_of_getElem? (getD_at (l := evs) (i := k.toNat) (by omega))
  obtain ⟨b, a, t, p, e, h1, h2, h3, h4, _⟩ := ok _ m
  rw [e]
  exact ⟨h1, h2, h3, h4⟩
/-- events that go out of a standing are the ways of it -/
theorem outs_way {n : Int} {evs : List (List Int)} (ok : ∀ e ∈ evs, okEv n e) {s k : Int} (h : k ∈ outsI evs s) : evA (evs.getD k.toNat []) ∈ (stepsAll evs 0 1 n.toNat).getD s.toNat [] := by
  obtain ⟨k0, k1, k2⟩ := outsI_mem.mp h
  have m := List.mem_of_getElem? (getD_at (l := evs) (i := k.toNat) (by omega))
  have z := of_F ok m
  obtain ⟨b, a, t, p, e, _⟩ := ok _ m
  rw [e] at z k2 ⊢
  have k2 : b = s := k2
  subst k2
  exact z
theorem way_outs {n : Int} {evs : List (List Int)} {s x : Int} (s0 : 0 ≤ s) (ok : ∀ e ∈ evs, okEv n e) (h : x ∈ (stepsAll evs 0 1 n.toNat).getD s.toNat []) : ∃ k ∈ outsI evs s, evA (evs.getD k.toNat []) = x := by
  obtain ⟨e, he, h1, h2⟩ := mem_F s0 h
  obtain ⟨i, hi⟩ := List.getElem?_of_mem he
  have il := (List.getElem?_eq_some_iff.mp hi).1
  obtain ⟨b, a, t, p, ee, _⟩ := ok _ he
  have eg : evs.getD i [] = e := by rw [List.getD_eq_getElem?_getD, hi]; rfl
  refine ⟨(i : Int), outsI_mem.mpr ⟨by omega, by omega, ?_⟩, ?_⟩
  · rw [Int.toNat_natCast, eg, ee]
    rw [ee] at h1
    exact h1
  · rw [Int.toNat_natCast, eg, ee]
    rw [ee] at h2
    exact h2
theorem Spr.ins {nss : List (List Int)} {st : Int} {ks : List Int} {k x : Int} (h : Spr nss st ks []) (hk : k ∈ ks) (hx : x ∈ nss.getD k.toNat []) (nx : x ∉ ks) (x0 : 0 ≤ x) (x1 : x < (nss.length : Int)) : Spr nss st (ks ++ [x]) [] := by
  refine ⟨?_, fun q hq => ?_, fun q hq => ?_, by simp [h.st_], fun q hq => by cases hq⟩
  · rw [List.nodup_append]
    refine ⟨h.nd, by simp, fun q hq z hz e => ?_⟩
    have ez : z = x := by simpa using hz
    rw [e, ez] at hq
    exact nx hq
  · rcases List.mem_append.mp hq with hq | hq
    · exact h.in_ q hq
    · rw [List.mem_singleton.mp hq]; exact ⟨x0, x1⟩
  · rcases List.mem_append.mp hq with hq | hq
    · exact h.rc q hq
    · rw [List.mem_singleton.mp hq]; exact .step (h.rc k hk) hx
/-- what is closed as far as looked at -/
def Cl (nss : List (List Int)) (ks : List Int) (i : Nat) : Prop := ∀ k ∈ ks.take i, ∀ x ∈ nss.getD k.toNat [], x ∈ ks
theorem Cl.app {nss : List (List Int)} {ks r : List Int} {i : Nat} (h : Cl nss ks i) (l : i ≤ ks.length) : Cl nss (ks ++ r) i := fun k hk x hx => by
  rw [List.take_append_of_le_length l] at hk
  exact List.mem_append.mpr (.inl (h k hk x hx))
theorem cl_done {nss : List (List Int)} {st : Int} {ks : List Int} {i : Nat} (h : Spr nss st ks []) (c : Cl nss ks i) (l : nss.length ≤ i) : ∀ k, k ∈ ks ↔ Rch nss st k := by
  have ll := h.len
  rw [show Cl nss ks i ↔ ∀ k ∈ ks, ∀ x ∈ nss.getD k.toNat [], x ∈ ks by unfold Cl; rw [List.take_of_length_le (by omega)]] at c
  exact fun k => ⟨h.rc k, fun r => r.all h.st_ c⟩
def S_lreached : QSpec := fun ds k _ => ∃ n evs, ds = [partsD n evs] ∧ 1 ≤ n ∧ n ≤ 60 ∧ evs.length ≤ 1000 ∧ (∀ e ∈ evs, okEv n e) ∧ k (.tmp (lstI (rchL evs n.toNat 0)))
theorem lnoq_law_reached : ∀ ds k kx, (S_lreached : QSpec) ds k kx → ds.length = 1 := by
  intro ds k kx h
  obtain ⟨n, evs, rfl, n1, n6, hl, ok, hk⟩ := h
  rfl
theorem oq_law_reached (T : Txt K mg A) : FnOk P w K mg base (L2.CX P w) 2 A.f_law_reached A.d_law_reached ["parts"] (spP K (S_lreached)) := by
  refine T.F_law_reached.okX sc_law_reached (spP_len lnoq_law_reached) (fun cdv A1 outer s H vs Q E hr h => ?_)
  refine def_run (N := ["parts", "found", "at", "number"]) (p := _) (fun kx => (qss_cons (qs_set (i := 1) sc_law_reached.nd rfl (Or.inl rfl) (q_lst (qa_cons (q_int rfl) (qa_nil rfl))))
      (qss_cons (qs_for (passes_of rfl) rfl (qi_range1 rfl T.z_range (qa_cons (q_ix (q_var rfl (pv 0)) (q_int rfl) (fun _ _ => rfl)) (qa_nil rfl))) (qg_name (i := 2) rfl sc_law_reached.nd rfl (Or.inl rfl))
        (qss_one (qs_if (qt_cmp1 c_lt (q_var rfl (pv 2)) (q_callB (f_len rfl) sim_len (by rfl) T.z_len (by decide +kernel) (qa_cons (q_var rfl (pv 1)) (qa_nil rfl))) (nomark _)) (qss_one (qs_for (passes_of rfl) rfl (qi_seq (q_call (oq_law_out T) (hr.mono (by decide)) (by rfl) T.m_law_out T.F_law_out.kp T.B_law_out (takes_of rfl rfl rfl rfl) (qa_cons (q_var rfl (pv 0)) (qa_cons (q_ix (q_var rfl (pv 1)) (q_var rfl (pv 2)) (fun _ _ => rfl)) (qa_nil rfl))))) (qg_name (i := 3) rfl sc_law_reached.nd rfl (Or.inl rfl))
        (qss_one (qs_if (qt_cmp1 (c_notin rfl (hu65 hr)) (q_ix (q_ix (q_ix (q_var rfl (pv 0)) (q_int rfl) (fun _ _ => rfl)) (q_var rfl (pv 3)) (fun _ _ => rfl)) (q_int rfl) (fun _ _ => rfl)) (q_var rfl (pv 1)) (by with_unfolding_all rfl)) (qss_one (qs_expr (q_mb (qa_cons (q_ix (q_ix (q_ix (q_var rfl (pv 0)) (q_int rfl) (fun _ _ => rfl)) (q_var rfl (pv 3)) (fun _ _ => rfl)) (q_int rfl) (fun _ _ => rfl)) (qa_nil rfl)) (fun h => pe_bm PySem.F.plainAttrs_list PySem.F.slot_list_append PySem.F.type_list_append mt_append (pv 1) h) sim_append))) (qss_nil rfl))))) (qss_nil rfl))))
      (qss_one (qs_ret (q_callB (f_sorted rfl) sim_sorted (by rfl) T.z_sorted (by decide +kernel) (qa_cons (q_var rfl (pv 1)) (qa_nil rfl)))))))) h (fun ds k kx h => by rw [lnoq_law_reached ds k kx h]; decide) (fun ds k kx h => ?_)
  obtain ⟨n, evs, rfl, n1, n6, hl, ok, hk⟩ := h
  have f4 := four_all ok
  have lF : (stepsAll evs 0 1 n.toNat).length = n.toNat := stepsAll_len
  repeat tb_rel
  refine ⟨_, rfl, by omega, by omega, ?_⟩
  refine loop_rg (fun i e => ∃ ks u2 u3, e = [.val (partsD n evs), .own (lstI ks), u2, u3] ∧ Spr (stepsAll evs 0 1 n.toNat) 0 ks [] ∧ Cl (stepsAll evs 0 1 n.toNat) ks i) ⟨[0], _, _, rfl, ⟨by simp, fun k hk => by rw [List.mem_singleton.mp hk]; omega, fun k hk => by rw [List.mem_singleton.mp hk]; exact .refl, by simp, fun k hk => by cases hk⟩, fun k hk => by simp at hk⟩ ?_ ?_
  · rintro i e hi ⟨ks, u2, u3, rfl, sp, cl⟩ nx hn hx
    (repeat tb_rel)
    have lk := sp.len
    rw [lF] at lk
    by_cases c : 0 + (i : Int) < (ks.length : Int)
    · obtain ⟨kk, hkk⟩ : ∃ kk, ks[i]? = some kk := ⟨ks[i]'(by omega), List.getElem?_eq_getElem _⟩
      have kin := sp.in_ kk (List.mem_of_getElem? hkk)
      (repeat tb_rel)
      refine o_ixL (d := .int kk) (at_ge (by omega) (by rw [show ((0 : Int) + (i : Int)).toNat = i by omega, List.getElem?_map, hkk]; rfl)) ?_
      (repeat tb_rel)
      refine ⟨n, evs, kk, rfl, f4, hl, ?_⟩
      (repeat tb_rel)
      refine loop_inv (fun j e => ∃ ks1 r u2 u3, e = [.val (partsD n evs), .own (lstI ks1), u2, u3] ∧ ks1 = ks ++ r ∧ Spr (stepsAll evs 0 1 n.toNat) 0 ks1 [] ∧ ∀ g ∈ (outsI evs kk).take j, evA (evs.getD g.toNat []) ∈ ks1) ⟨ks, [], _, _, rfl, (List.append_nil ks).symm, sp, fun g hg => by simp at hg⟩ ?_ ?_
      · rintro j d e hd ⟨ks1, r, u2, u3, rfl, ek, sp1, cl1⟩ nx2 hn2 hx2
        obtain ⟨g, hg, rfl⟩ := mapD_get hd
        have gm := List.mem_of_getElem? hg
        obtain ⟨g0, g1, g2⟩ := outsI_mem.mp gm
        obtain ⟨_, _, a0, a1⟩ := okAB ok g0 g1
        have lk1 := sp1.len
        rw [lF] at lk1
        (repeat tb_rel)
        refine o_ninL ?_
        (repeat tb_rel)
        refine iteN (fun c2 => ?_) (fun c2 => ?_)
        · have rl : ks1.length ≤ 1000 := by omega
          (repeat tb_rel)
          have kin1 : kk ∈ ks1 := by rw [ek]; exact List.mem_append.mpr (.inl (List.mem_of_getElem? hkk))
          have q := fun u2 u3 => hn2 _ ⟨ks1 ++ [evA (evs.getD g.toNat [])], r ++ [evA (evs.getD g.toNat [])], u2, u3, rfl, by rw [ek, List.append_assoc], sp1.ins kin1 (outs_way ok gm) c2 a0 (by rw [lF]; omega), fun x hx => by
            rw [take_succ hg] at hx
            rcases List.mem_append.mp hx with hx | hx
            · exact List.mem_append.mpr (.inl (cl1 x hx))
            · rw [List.mem_singleton.mp hx]; simp⟩
          exact q _ _
        · (repeat tb_rel)
          refine hn2 _ ⟨ks1, r, _, _, rfl, ek, sp1, fun x hx => ?_⟩
          rw [take_succ hg] at hx
          rcases List.mem_append.mp hx with hx | hx
          · exact cl1 x hx
          · rw [List.mem_singleton.mp hx]; exact c2
      · rintro e ⟨ks1, r, u2, u3, rfl, ek, sp1, cl1⟩
        rw [List.length_map, List.take_length] at cl1
        (repeat tb_rel)
        refine hn _ ⟨ks1, _, _, rfl, sp1, fun k hk x hx => ?_⟩
        subst ek
        rw [List.take_append_of_le_length (by omega), take_succ hkk] at hk
        rcases List.mem_append.mp hk with hk | hk
        · exact List.mem_append.mpr (.inl (cl k hk x hx))
        · rw [List.mem_singleton.mp hk] at hx
          obtain ⟨g, hg, rfl⟩ := way_outs kin.1 ok hx
          exact cl1 g hg
    · (repeat tb_rel)
      refine hn _ ⟨ks, _, _, rfl, sp, fun k hk => cl k ?_⟩
      rw [List.take_of_length_le (by omega)] at hk ⊢
      exact hk
  · rintro e ⟨ks, u2, u3, rfl, sp, cl⟩
    have dn := cl_done sp cl (by omega)
    have lk := sp.len
    rw [lF] at lk
    (repeat tb_rel)
    refine ⟨ks, rfl, fun ys pm pw => ?_⟩
    have e : ys = rchL evs n.toNat 0 := pick_eq (srt_of pm pw sp.nd) fun x => by
      rw [pm.mem_iff, dn x]
      refine ⟨fun r => ⟨?_, r⟩, fun h => h.2⟩
      have z := sp.in_ x ((dn x).mpr r)
      rw [lF] at z
      exact z
    rw [e]
    (repeat tb_rel)
    try exact hk
/-- standings with ways to them -/
def wyD (ps : List (Int × List Int)) : List (Key × D) := ps.map fun p => (Sum.inl p.1, tupI p.2)
theorem wyD_has (x : Int) : ∀ ps : List (Int × List Int), (vD (wyD ps) (Sum.inl x)).isSome = decide (x ∈ ps.map Prod.fst)
  | [] => by simp [wyD, vD]
  | p :: ps => by
    have ih := wyD_has x ps
    rw [← vD_any] at ih ⊢
    unfold wyD at ih ⊢
    rw [List.map_cons, List.any_cons, ih, List.map_cons]
    by_cases c : x = p.1
    · subst c; simp
    · have c1 : ¬ (Sum.inl p.1 : Key) = Sum.inl x := fun z => c (Sum.inl.inj z).symm
      simp [c, c1]
theorem wyD_get {x : Int} : ∀ {ps : List (Int × List Int)}, x ∈ ps.map Prod.fst → ∃ r, (x, r) ∈ ps ∧ vD (wyD ps) (Sum.inl x) = some (tupI r)
  | [], h => by cases h
  | p :: ps, h => by
    by_cases c : x = p.1
    · refine ⟨p.2, by rw [c]; simp, ?_⟩
      exact vD_pos (p := ((Sum.inl p.1 : Key), tupI p.2)) (congrArg Sum.inl c.symm)
    · have h' : x ∈ ps.map Prod.fst := by
        rw [List.map_cons] at h
        rcases List.mem_cons.mp h with h | h
        · exact absurd h c
        · exact h
      obtain ⟨r, h1, h2⟩ := wyD_get h'
      refine ⟨r, by simp [h1], ?_⟩
      rw [← h2]
      exact vD_neg (p := ((Sum.inl p.1 : Key), tupI p.2)) (fun z => c (Sum.inl.inj z).symm)
theorem wyD_new {x : Int} {r : List Int} {ps : List (Int × List Int)} (h : x ∉ ps.map Prod.fst) : pD (wyD ps) (Sum.inl x) (tupI r) = wyD (ps ++ [(x, r)]) := by
  have z := wyD_has x ps
  rw [decide_eq_false h] at z
  rw [pD_new (by cases e : vD (wyD ps) (Sum.inl x) with
    | none => rfl
    | some d => rw [e] at z; cases z)]
  unfold wyD
  rw [List.map_append]
  rfl
end
end Myk33

namespace Myk33
open PySem L2 My EnT Pl
section
-- an environment written out
local macro_rules | `(tactic| nest_cls) => `(tactic| with_unfolding_all (repeat (first | exact Nf.nil | apply Nf.cons)))
-- side conditions over values
local macro_rules | `(tactic| leaf_len) => `(tactic| first
  | (with_reducible rfl)
  | (with_reducible assumption)
  | rfl
  | omega
  | ((with_reducible show _ ≤ sizeLine); first | exact szL (by first | decide | (simp; done) | (simp; omega)) | exact szL (by omega) | decide)
  | ((with_reducible show _ < sizeLine); first | exact szK (by first | decide | (simp; done) | (simp; omega)) | exact szK (by omega) | decide)
  | ((with_reducible show CMul _ _ ∨ _); first | exact .inl (CMul.l (by omega) (by omega)) | exact .inl (CMul.r (by omega) (by omega)) | exact .inr (CMulW.of (by omega) (by omega)))
  | ((with_reducible show CMul _ _); first | exact CMul.l (by omega) (by omega) | exact CMul.r (by omega) (by omega))
  | ((with_reducible show CDivW _ _); exact CDivW.of (by omega) (by omega))
  | ((with_reducible show CPow _ _); exact ⟨by decide, by decide, by decide⟩)
  | ((with_reducible show small _); unfold small; omega)
  | ((with_reducible show ∀ K, PySem.W.kitOne K _ _ = some _); first | exact fun _ => kit_ty (r := true) (by decide +kernel) | exact fun _ => kit_ty (r := false) (by decide +kernel))
  | decide)
-- a step over values
local macro_rules | `(tactic| tb_rel) => `(tactic| first
  | (with_reducible refine i_sqN (by nest_cls) ?_)
  | (with_reducible first
    | refine i_sq ?_ | refine i_set ?_ | refine i_stV ?_ | refine i_stO ?_ | refine i_nx ?_
    | refine i_c ?_ | refine i_bin ?_ | refine i_wV ?_ | refine i_wT ?_ | refine i_test ?_ | refine i_tb ?_ | refine i_tru ?_ | refine i_truB ?_
    | refine iteT ?_ | refine iteF ?_
    | refine o_addI ?_ | refine o_I0 ?_ | refine o_B0 ?_ | refine o_eqI ?_ | refine o_neI ?_ | refine o_iaddI ?_
    | refine i_aCons ?_ | refine i_aNil ?_ | refine i_call ?_
    | refine i_if ?_ | refine i_ret ?_ | refine i_rt ?_ | refine i_retN ?_ | refine i_next ?_ | refine i_drop ?_ | refine i_break ?_ | refine i_cont ?_ | refine i_bk ?_ | refine i_ct ?_
    | refine i_andT ?_ | refine i_orT ?_ | refine i_notT ?_ | refine i_andV ?_ | refine i_orV ?_ | refine i_notV ?_ | refine i_ifE ?_
    | refine i_tup ?_ | refine i_lst ?_ | refine i_un ?_ | refine i_ei ?_ | refine i_eb ?_
    | refine i_cB ?_ | refine i_make ?_ | refine i_makeO ?_ | refine i_fld ?_ | refine i_chain ?_ | refine i_for ?_ | refine i_iseq ?_ | refine i_irg1 ?_ | refine i_irg2 ?_ | refine i_ien ?_ | refine i_lc ?_ | refine i_yes ?_ | refine i_lrg ?_ | refine i_index ?_
    | refine i_asg ?_ | refine i_par ?_ | refine i_gname ?_ | refine i_gnil ?_ | refine i_gconsM ?_ | refine i_gnilM ?_ | refine i_gcons ?_
    | refine i_sl ?_ | refine i_noP ?_ | refine i_part ?_ | refine i_slL ?_ | refine i_slT ?_
    | refine i_raise0 ?_ | refine i_raise1 ?_ | refine i_dict0 ?_ | refine i_disp1 ?_ | refine i_dget2 ?_ | refine i_keyI ?_ | refine i_keyS ?_ | refine i_isDK ?_ | refine i_isDT ?_ | refine o_din' ?_ | refine o_dix' ?_ | refine i_dgZ ?_ | refine i_dgI ?_ | refine i_dc ?_ | refine i_dgS ?_ | refine i_try ?_
    | refine f_lenE ?_ | refine f_lenI ?_ | refine f_lenM ?_ | refine f_lenL ?_ | refine f_lenT ?_ | refine f_intI ?_ | refine f_intB ?_ | refine f_absI ?_ | refine f_tupL ?_ | refine f_tupT ?_ | refine f_lstL ?_ | refine f_lstT ?_ | refine f_gcdI ?_ | refine i_isC ?_ | refine i_isCM ?_ | refine o_neE ?_
    | refine o_ixP0 ?_ | refine o_ixS0 ?_ | refine o_ixS1 ?_ | refine f_lenTI' ?_ | refine o_ixP1 ?_ | refine o_inT ?_ | refine o_ninT ?_
    | refine o_isN ?_ | refine o_isnN ?_ | refine o_isB ?_ | refine o_isnB ?_
    | refine loop_nil ?_
    | refine i_truL ?_ | refine i_truT ?_ | refine i_truI ?_)
  | (with_reducible refine i_var (by with_unfolding_all rfl) ?_)
  | (with_reducible refine i_callU (by with_unfolding_all rfl) (by with_unfolding_all rfl) ?_)
  | ((with_reducible refine o_IC ?_ ?_); · leaf_len)
  | ((with_reducible refine o_mulI ?_ ?_); · leaf_len)
  | (with_reducible refine i_varO (by with_unfolding_all rfl) ?_)
  | (with_reducible refine i_wN (by with_unfolding_all rfl) ?_)
  | (with_reducible refine i_gtup (by with_unfolding_all rfl) (by with_unfolding_all rfl) ?_)
  | (with_reducible refine i_aug (by with_unfolding_all rfl) ?_)
  | (with_reducible refine i_mb rfl (by with_unfolding_all rfl) ?_)
  | (with_reducible refine i_mb0 rfl (by with_unfolding_all rfl) ?_)
  | ((with_reducible refine m_appI ?_ ?_); · leaf_len)
  | ((with_reducible refine m_app ?_ ?_); · leaf_len)
  | (with_reducible refine i_dcZ (by with_unfolding_all rfl) (fun _ _ => ?_))
  | (with_reducible refine i_setDcZ (by with_unfolding_all rfl) (fun _ _ => ?_))
  | (with_reducible refine i_setD (by with_unfolding_all rfl) ?_)
  | (with_reducible refine i_dgT (by with_unfolding_all rfl) ?_)
  | ((with_reducible refine i_dpI ?_ ?_); · leaf_len)
  | ((with_reducible show ∃ d, _ = some (Sl.own d) ∧ _); refine ⟨_, rfl, ?_⟩)
  | (with_reducible refine i_setL (by with_unfolding_all rfl) ?_)
  | (with_reducible refine i_augL (by with_unfolding_all rfl) ?_)
  | (with_reducible refine i_setF (by with_unfolding_all rfl) ?_)
  | (with_reducible refine i_stN (by with_unfolding_all rfl) ?_)
  | ((with_reducible refine o_ix0 ?_ ?_); · first | assumption | exact four_getD (by assumption) (by assumption) (by assumption))
  | ((with_reducible refine o_ix1 ?_ ?_); · first | assumption | exact four_getD (by assumption) (by assumption) (by assumption))
  | ((with_reducible refine o_ixEv ?_ ?_ ?_ ?_); (· assumption); (· first | assumption | omega); (· first | assumption | omega))
  | ((with_reducible refine o_mulL ?_ ?_ ?_); (· omega); (· omega))
  | ((with_reducible refine o_addTI ?_ ?_); · omega)
  | ((with_reducible refine o_addT ?_ ?_); · leaf_len)
  | ((with_reducible refine o_addL ?_ ?_); · leaf_len)
  | ((with_reducible refine isi_int ?_ ?_); · first | assumption | exact ⟨_, rfl⟩)
  | ((with_reducible refine isi_bool ?_ ?_); · first | assumption | exact ⟨_, rfl⟩)
  | ((with_reducible refine isi_tup ?_ ?_); · first | assumption | exact ⟨_, rfl⟩)
  | ((with_reducible refine isi_lst ?_ ?_); · first | assumption | exact ⟨_, rfl⟩)
  | ((with_reducible refine isi_str ?_ ?_); · first | assumption | exact ⟨_, rfl⟩)
  | ((with_reducible refine iteTb ?_ ?_); · exact rfl)
  | ((with_reducible refine iteFb ?_ ?_); · exact rfl)
  | ((with_reducible refine iteTb ?_ ?_); · assumption)
  | ((with_reducible refine iteFb ?_ ?_); · assumption)
  | (with_reducible refine i_aft (by with_unfolding_all rfl) ?_)
  | ((with_reducible refine iteDT ?_ ?_); · first | assumption | omega)
  | ((with_reducible refine iteDF ?_ ?_); · first | assumption | omega)
  | ((with_reducible refine iteNT ?_ ?_); · first | assumption | omega)
  | ((with_reducible refine iteNF ?_ ?_); · first | assumption | omega)
  | ((with_reducible show ∃ ds, dsO _ _ = some ds ∧ _); refine ⟨_, rfl, ?_⟩)
  | ((with_reducible show ∃ s, RV.out _ _ = some s ∧ _); refine ⟨_, rfl, ?_⟩)
  | ((with_reducible show ∃ ds d, dsO _ _ = some ds ∧ _); refine ⟨_, _, rfl, rfl, ?_⟩)
  | ((with_reducible show ∃ d, dsO _ _ = some [d] ∧ _); refine ⟨_, rfl, ?_⟩)
  | ((with_reducible show ∃ y, RV.d _ _ = some y ∧ _); refine ⟨_, rfl, ?_⟩)
  | ((with_reducible show ∃ (y : D) (fs : List (Str × D)), RV.d _ _ = some y ∧ _); refine ⟨_, _, rfl, rfl, by first | exact putD_lt (by decide) | decide, ?_⟩)
  | ((with_reducible show ∃ ds, seqD _ = some ds ∧ _); refine ⟨_, rfl, ?_⟩)
  | ((with_reducible show ∃ d e, dsO _ _ = some [d, e] ∧ _); refine ⟨_, _, rfl, ?_⟩)
  | ((with_reducible show ∃ (fs : List (Str × D)) (y : D), D.ins _ _ = .ins _ fs ∧ _); refine ⟨_, _, rfl, rfl, ?_⟩)
  | ((with_reducible show ∃ (fs : List (Str × D)) (y : D), machD _ _ _ = .ins _ fs ∧ _); refine ⟨_, _, rfl, rfl, ?_⟩)
  | ((with_reducible show _ ≤ sizeLine ∧ _); refine ⟨?_, ?_⟩; · leaf_len)
  | ((with_reducible show _ < sizeLine ∧ _); refine ⟨?_, ?_⟩; · leaf_len))

variable {P : Program} {w : World} {K : PySem.W.Frag} {mg : Str → Option Value} {base : Heap} {A : Ad}
theorem kd_mem {f : Int → List Int} : ∀ (l : List Int) (acc : List (List Int)), (∀ x ∈ l.foldl (kdF f) acc, x ∈ acc ∨ ∃ t ∈ l, x = f t) ∧ (∀ x ∈ acc, x ∈ l.foldl (kdF f) acc) ∧ ∀ s ∈ l, f s ∈ l.foldl (kdF f) acc
  | [], acc => ⟨fun x h => .inl h, fun x h => h, fun s h => by cases h⟩
  | s :: l, acc => by
    rw [List.foldl_cons]
    obtain ⟨h1, h2, h3⟩ := kd_mem (f := f) l (kdF f acc s)
    have e : ∀ x, x ∈ kdF f acc s ↔ x ∈ acc ∨ x = f s := fun x => by
      unfold kdF
      split
      · next c => exact ⟨.inl, fun h => h.elim id fun z => by rw [z]; exact c⟩
      · simp
    refine ⟨fun x hx => ?_, fun x hx => h2 x ((e x).mpr (.inl hx)), fun x hx => ?_⟩
    · rcases h1 x hx with h | ⟨t, ht, q⟩
      · rcases (e x).mp h with h | h
        · exact .inl h
        · exact .inr ⟨s, by simp, h⟩
      · exact .inr ⟨t, by simp [ht], q⟩
    · rcases List.mem_cons.mp hx with h | h
      · rw [h]; exact h2 _ ((e _).mpr (.inr rfl))
      · exact h3 x h
def S_knotof (C : Addr) : QSpec := fun ds k _ => ∃ n evs s, ds = [machD C n evs, .int s] ∧ 1 ≤ n ∧ n ≤ 60 ∧ evs.length ≤ 1000 ∧ (∀ e ∈ evs, okEv n e) ∧ s ∈ rchL evs n.toNat 0 ∧ k (.val (tupI (mutL evs n.toNat s)))
theorem lnoq_knot_of : ∀ ds k kx, (S_knotof A.C_Machine : QSpec) ds k kx → ds.length = 2 := by
  intro ds k kx h
  obtain ⟨n, evs, s, rfl, n1, n6, hl, ok, hs, hk⟩ := h
  rfl
theorem oq_knot_of (T : Txt K mg A) : FnOk P w K mg base (L2.CX P w) 4 A.f_knot_of A.d_knot_of ["machine", "thing"] (spP K (S_knotof A.C_Machine)) := by
  refine T.F_knot_of.okX sc_knot_of (spP_len (lnoq_knot_of (A := A))) (fun cdv A1 outer s H vs Q E hr h => ?_)
  refine def_run (N := ["machine", "thing", "knot"]) (p := _) (fun kx => (qss_cons (qs_if (qt_not (qt_tru (q_call (oq_is_whole T) (hr.mono (by decide)) (by rfl) T.m_is_whole T.F_is_whole.kp T.B_is_whole (takes_of rfl rfl rfl rfl) (qa_cons (q_var rfl (pv 1)) (qa_nil rfl))))) (qss_one (qs_ret (q_non rfl))) (qss_nil rfl))
      (qss_cons (qs_for (passes_of rfl) rfl (qi_seq (q_call (oq_knots T) (hr.mono (by decide)) (by rfl) T.m_knots T.F_knots.kp T.B_knots (takes_of rfl rfl rfl rfl) (qa_cons (q_var rfl (pv 0)) (qa_nil rfl)))) (qg_name (i := 2) rfl sc_knot_of.nd rfl (Or.inl rfl))
        (qss_one (qs_if (qt_cmp1 (c_in rfl (hu65 hr)) (q_var rfl (pv 1)) (q_var rfl (pv 2)) (by with_unfolding_all rfl)) (qss_one (qs_ret (q_var rfl (pv 2)))) (qss_nil rfl))))
      (qss_one (qs_ret (q_non rfl)))))) h (fun ds k kx h => by rw [lnoq_knot_of ds k kx h]; decide) (fun ds k kx h => ?_)
  obtain ⟨n, evs, s, rfl, n1, n6, hl, ok, hs, hk⟩ := h
  obtain ⟨_, e, _, _⟩ := knots_facts ok (by omega) hl
  obtain ⟨h1, h2⟩ := mutL_facts ok (by omega) hl
  obtain ⟨m1, _, m3⟩ := kd_mem (f := mutL evs n.toNat) (rchL evs n.toNat 0) []
  rw [← e] at m1 m3
  repeat tb_rel
  refine ⟨_, rfl, ⟨_, rfl⟩, ?_⟩
  repeat tb_rel
  refine ⟨n, evs, rfl, n1, n6, hl, ok, ?_⟩
  repeat tb_rel
  refine loop_inv (fun j e => ∃ u2, e = [.val (machD A.C_Machine n evs), .val (.int s), u2] ∧ ∀ x ∈ (kn (mutL evs n.toNat) (rchL evs n.toNat 0)).1.take j, s ∉ x) ⟨_, rfl, fun x hx => by simp at hx⟩ ?_ ?_
  · rintro j d e hd ⟨u2, rfl, hno⟩ nx hn hx
    obtain ⟨x, hx', rfl⟩ := mapD_get hd
    repeat tb_rel
    refine iteD (fun c => ?_) (fun c => ?_)
    · obtain ⟨t, ht, rfl⟩ := (m1 x (List.mem_of_getElem? hx')).resolve_left (by simp)
      have z := (h2 t ht s c).2
      rw [← z]
      repeat tb_rel
      try exact hk
    · repeat tb_rel
      refine hn _ ⟨_, rfl, fun y hy => ?_⟩
      rw [take_succ hx'] at hy
      rcases List.mem_append.mp hy with hy | hy
      · exact hno y hy
      · rw [List.mem_singleton.mp hy]; exact c
  · rintro e ⟨u2, rfl, hno⟩
    rw [List.length_map, List.take_length] at hno
    exact absurd (h1 s hs) (hno _ (m3 s hs))
theorem lnoq_knot : ∀ ds k kx, (S_knotof A.C_Machine : QSpec) ds k kx → ds.length = 2 := by
  intro ds k kx h
  obtain ⟨n, evs, s, rfl, n1, n6, hl, ok, hs, hk⟩ := h
  rfl
theorem oq_knot (T : Txt K mg A) : FnOk P w K mg base (L2.CX P w) 5 A.f_knot A.d_knot ["machine", "standing"] (spP K (S_knotof A.C_Machine)) := by
  refine T.F_knot.okX sc_knot (spP_len (lnoq_knot (A := A))) (fun cdv A1 outer s H vs Q E hr h => ?_)
  refine def_run (N := ["machine", "standing", "knot"]) (p := _) (fun kx => (qss_cons (qs_set (i := 2) sc_knot.nd rfl (Or.inl rfl) (q_call (oq_knot_of T) (hr.mono (by decide)) (by rfl) T.m_knot_of T.F_knot_of.kp T.B_knot_of (takes_of rfl rfl rfl rfl) (qa_cons (q_var rfl (pv 0)) (qa_cons (q_var rfl (pv 1)) (qa_nil rfl)))))
      (qss_cons (qs_if (qt_cmp1 c_is (q_var rfl (pv 2)) (q_non rfl) (nomark _)) (qss_one (qs_raise0 rfl rfl (takes_of rfl rfl rfl rfl) (pmk_own0 PySem.F.excBase_ValueError T.x_NoStanding T.m_NoStanding T.kp_NoStanding (raises_own T.b_NoStanding T.t_NoStanding) (by exact rfl)))) (qss_nil rfl))
      (qss_one (qs_ret (q_var rfl (pv 2))))))) h (fun ds k kx h => by rw [lnoq_knot ds k kx h]; decide) (fun ds k kx h => ?_)
  obtain ⟨n, evs, s, rfl, n1, n6, hl, ok, hs, hk⟩ := h
  repeat tb_rel
  refine ⟨n, evs, s, rfl, n1, n6, hl, ok, hs, ?_⟩
  repeat tb_rel
  try exact hk
def S_rowlift (C : Addr) : QSpec := fun ds k _ => ∃ n evs row a b, ds = [machD C n evs, tupI [a, b], tupI row] ∧ (∀ e ∈ evs, okEv n e) ∧ (∀ k ∈ row, 0 ≤ k ∧ k < (evs.length : Int)) ∧ row.length ≤ 1000 ∧ k (.val (.int (b * sumP evs row - a * sumT evs row)))
theorem okTP {n : Int} {evs : List (List Int)} (ok : ∀ e ∈ evs, okEv n e) {k : Int} (k0 : 0 ≤ k) (k1 : k < (evs.length : Int)) : 1 ≤ evT (evs.getD k.toNat []) ∧ evT (evs.getD k.toNat []) ≤ 40 ∧ -400 ≤ evP (evs.getD k.toNat []) ∧ evP (evs.getD k.toNat []) ≤ 400 := by
  have il : k.toNat < evs.length := by omega
  have e1 : evs.getD k.toNat [] = evs[k.toNat] := by rw [List.getD_eq_getElem?_getD, List.getElem?_eq_getElem il]; rfl
  obtain ⟨b, a, t, p, e, _, _, _, _, h1, h2, h3, h4⟩ := ok _ (List.getElem_mem il)
  rw [e1, e]
  exact ⟨h1, h2, h3, h4⟩
theorem sum_bd {n : Int} {evs : List (List Int)} (ok : ∀ e ∈ evs, okEv n e) : ∀ run : List Int, (∀ k ∈ run, 0 ≤ k ∧ k < (evs.length : Int)) → (run.length : Int) ≤ sumT evs run ∧ sumT evs run ≤ 40 * run.length ∧ -(400 * (run.length : Int)) ≤ sumP evs run ∧ sumP evs run ≤ 400 * run.length
  | [], _ => ⟨Int.le_refl _, Int.le_refl _, Int.le_refl _, Int.le_refl _⟩
  | k :: r, h => by
    obtain ⟨a1, a2, a3, a4⟩ := sum_bd ok r fun x hx => h x (by simp [hx])
    obtain ⟨k0, k1⟩ := h k (by simp)
    obtain ⟨b1, b2, b3, b4⟩ := okTP ok k0 k1
    unfold sumT sumP at *
    rw [List.map_cons, List.sum_cons, List.map_cons, List.sum_cons, List.length_cons]
    omega
theorem lnoq_row_lift : ∀ ds k kx, (S_rowlift A.C_Machine : QSpec) ds k kx → ds.length = 3 := by
  intro ds k kx h
  obtain ⟨n, evs, row, a, b, rfl, ok, hin, hl, hk⟩ := h
  rfl
theorem oq_row_lift (T : Txt K mg A) : FnOk P w K mg base (L2.CX P w) 2 A.f_row_lift A.d_row_lift ["machine", "share", "row"] (spP K (S_rowlift A.C_Machine)) := by
  refine T.F_row_lift.okX sc_row_lift (spP_len (lnoq_row_lift (A := A))) (fun cdv A1 outer s H vs Q E hr h => ?_)
  refine def_run (N := ["machine", "share", "row", "tries", "points"]) (p := _) (fun kx => (qss_cons (qs_asg (q_call (oq_total T) (hr.mono (by decide)) (by rfl) T.m_total T.F_total.kp T.B_total (takes_of rfl rfl rfl rfl) (qa_cons (q_var rfl (pv 0)) (qa_cons (q_var rfl (pv 2)) (qa_nil rfl)))) (qg_tup 2 rfl (qgs_cons (qg_name (i := 3) rfl sc_row_lift.nd rfl (Or.inl rfl)) (qgs_cons (qg_name (i := 4) rfl sc_row_lift.nd rfl (Or.inl rfl)) (qgs_nil rfl))) rfl rfl))
      (qss_one (qs_ret (q_call (oq_lift_of T) (hr.mono (by decide)) (by rfl) T.m_lift_of T.F_lift_of.kp T.B_lift_of (takes_of rfl rfl rfl rfl) (qa_cons (q_var rfl (pv 1)) (qa_cons (q_var rfl (pv 3)) (qa_cons (q_var rfl (pv 4)) (qa_nil rfl))))))))) h (fun ds k kx h => by rw [lnoq_row_lift ds k kx h]; decide) (fun ds k kx h => ?_)
  obtain ⟨n, evs, row, a, b, rfl, ok, hin, hl, hk⟩ := h
  obtain ⟨b1, b2, b3, b4⟩ := sum_bd ok row hin
  repeat tb_rel
  refine ⟨n, evs, row, rfl, four_all ok, hin, hl, ?_⟩
  repeat tb_rel
  refine ⟨a, b, _, _, rfl, by omega, by omega, by omega, by omega, ?_⟩
  repeat tb_rel
  try exact hk
def S_lleads : QSpec := fun ds k _ => ∃ n evs s, ds = [partsD n evs, .int s] ∧ 1 ≤ n ∧ n ≤ 60 ∧ evs.length ≤ 1000 ∧ (∀ e ∈ evs, okEv n e) ∧ 0 ≤ s ∧ s < n ∧ ∀ ks, ks.Nodup → (∀ k, k ∈ ks ↔ Rch (stepsAll evs 0 1 n.toNat) s k) → k (.tmp (lstI ks))
theorem lnoq_law_leads : ∀ ds k kx, (S_lleads : QSpec) ds k kx → ds.length = 2 := by
  intro ds k kx h
  obtain ⟨n, evs, s, rfl, n1, n6, hl, ok, s0, s1, hk⟩ := h
  rfl
theorem oq_law_leads (T : Txt K mg A) : FnOk P w K mg base (L2.CX P w) 2 A.f_law_leads A.d_law_leads ["parts", "start"] (spP K (S_lleads)) := by
  refine T.F_law_leads.okX sc_law_leads (spP_len lnoq_law_leads) (fun cdv A1 outer s H vs Q E hr h => ?_)
  refine def_run (N := ["parts", "start", "found", "at", "number"]) (p := _) (fun kx => (qss_cons (qs_set (i := 2) sc_law_leads.nd rfl (Or.inl rfl) (q_lst (qa_cons (q_var rfl (pv 1)) (qa_nil rfl))))
      (qss_cons (qs_set (i := 3) sc_law_leads.nd rfl (Or.inl rfl) (q_int rfl))
      (qss_cons (qs_while (passes_of rfl) (qt_cmp1 c_lt (q_var rfl (pv 3)) (q_callB (f_len rfl) sim_len (by rfl) T.z_len (by decide +kernel) (qa_cons (q_var rfl (pv 2)) (qa_nil rfl))) (nomark _)) (qss_cons (qs_for (passes_of rfl) rfl (qi_seq (q_call (oq_law_out T) (hr.mono (by decide)) (by rfl) T.m_law_out T.F_law_out.kp T.B_law_out (takes_of rfl rfl rfl rfl) (qa_cons (q_var rfl (pv 0)) (qa_cons (q_ix (q_var rfl (pv 2)) (q_var rfl (pv 3)) (fun _ _ => rfl)) (qa_nil rfl))))) (qg_name (i := 4) rfl sc_law_leads.nd rfl (Or.inl rfl))
        (qss_one (qs_if (qt_cmp1 (c_notin rfl (hu65 hr)) (q_ix (q_ix (q_ix (q_var rfl (pv 0)) (q_int rfl) (fun _ _ => rfl)) (q_var rfl (pv 4)) (fun _ _ => rfl)) (q_int rfl) (fun _ _ => rfl)) (q_var rfl (pv 2)) (by with_unfolding_all rfl)) (qss_one (qs_expr (q_mb (qa_cons (q_ix (q_ix (q_ix (q_var rfl (pv 0)) (q_int rfl) (fun _ _ => rfl)) (q_var rfl (pv 4)) (fun _ _ => rfl)) (q_int rfl) (fun _ _ => rfl)) (qa_nil rfl)) (fun h => pe_bm PySem.F.plainAttrs_list PySem.F.slot_list_append PySem.F.type_list_append mt_append (pv 2) h) sim_append))) (qss_nil rfl))))
      (qss_one (qs_set (i := 3) sc_law_leads.nd rfl (Or.inl rfl) (q_add (q_var rfl (pv 3)) (q_int rfl))))))
      (qss_one (qs_ret (q_var rfl (pv 2)))))))) h (fun ds k kx h => by rw [lnoq_law_leads ds k kx h]; decide) (fun ds k kx h => ?_)
  obtain ⟨n, evs, s, rfl, n1, n6, hl, ok, s0, s1, hk⟩ := h
  have f4 := four_all ok
  have lF : (stepsAll evs 0 1 n.toNat).length = n.toNat := stepsAll_len
  repeat tb_rel
  refine while_m (fun m e => ∃ (i : Nat) (ks : List Int) (u4 : Sl), e = [.val (partsD n evs), .val (.int s), .own (lstI ks), .val (.int (i : Int)), u4] ∧ m = n.toNat - i ∧ Spr (stepsAll evs 0 1 n.toNat) s ks [] ∧ Cl (stepsAll evs 0 1 n.toNat) ks i ∧ i ≤ ks.length) (m := n.toNat) ⟨0, [s], _, rfl, rfl, ⟨by simp, fun k hk => by rw [List.mem_singleton.mp hk]; omega, fun k hk => by rw [List.mem_singleton.mp hk]; exact .refl, by simp, fun k hk => by cases hk⟩, (fun k hk => by simp at hk), Nat.zero_le _⟩ ?_
  rintro m e ⟨i, ks, u4, rfl, rfl, sp, cl, il⟩ nx hn
  have lk := sp.len
  rw [lF] at lk
  repeat tb_rel
  by_cases c : (i : Int) < (ks.length : Int)
  · obtain ⟨kk, hkk⟩ : ∃ kk, ks[i]? = some kk := ⟨ks[i]'(by omega), List.getElem?_eq_getElem _⟩
    have kin := sp.in_ kk (List.mem_of_getElem? hkk)
    (repeat tb_rel)
    refine o_ixL (d := .int kk) (at_ge (by omega) (by rw [show ((i : Int)).toNat = i by omega, List.getElem?_map, hkk]; rfl)) ?_
    (repeat tb_rel)
    refine ⟨n, evs, kk, rfl, f4, hl, ?_⟩
    (repeat tb_rel)
    refine loop_inv (fun j e => ∃ ks1 r u4, e = [.val (partsD n evs), .val (.int s), .own (lstI ks1), .val (.int (i : Int)), u4] ∧ ks1 = ks ++ r ∧ Spr (stepsAll evs 0 1 n.toNat) s ks1 [] ∧ ∀ g ∈ (outsI evs kk).take j, evA (evs.getD g.toNat []) ∈ ks1) ⟨ks, [], _, rfl, (List.append_nil ks).symm, sp, fun g hg => by simp at hg⟩ ?_ ?_
    · rintro j d e hd ⟨ks1, r, u4, rfl, ek, sp1, cl1⟩ nx2 hn2 hx2
      obtain ⟨g, hg, rfl⟩ := mapD_get hd
      have gm := List.mem_of_getElem? hg
      obtain ⟨g0, g1, g2⟩ := outsI_mem.mp gm
      obtain ⟨_, _, a0, a1⟩ := okAB ok g0 g1
      have lk1 := sp1.len
      rw [lF] at lk1
      (repeat tb_rel)
      refine o_ninL ?_
      (repeat tb_rel)
      refine iteN (fun c2 => ?_) (fun c2 => ?_)
      · have rl : ks1.length ≤ 1000 := by omega
        (repeat tb_rel)
        have kin1 : kk ∈ ks1 := by rw [ek]; exact List.mem_append.mpr (.inl (List.mem_of_getElem? hkk))
        have q := fun u4 => hn2 _ ⟨ks1 ++ [evA (evs.getD g.toNat [])], r ++ [evA (evs.getD g.toNat [])], u4, rfl, by rw [ek, List.append_assoc], sp1.ins kin1 (outs_way ok gm) c2 a0 (by rw [lF]; omega), fun x hx => by
          rw [take_succ hg] at hx
          rcases List.mem_append.mp hx with hx | hx
          · exact List.mem_append.mpr (.inl (cl1 x hx))
          · rw [List.mem_singleton.mp hx]; simp⟩
        exact q _
      · (repeat tb_rel)
        refine hn2 _ ⟨ks1, r, _, rfl, ek, sp1, fun x hx => ?_⟩
        rw [take_succ hg] at hx
        rcases List.mem_append.mp hx with hx | hx
        · exact cl1 x hx
        · rw [List.mem_singleton.mp hx]; exact c2
    · rintro e ⟨ks1, r, u4, rfl, ek, sp1, cl1⟩
      rw [List.length_map, List.take_length] at cl1
      have lk1 := sp1.len
      rw [lF] at lk1
      have le1 : ks1.length = ks.length + r.length := by rw [ek, List.length_append]
      (repeat tb_rel)
      refine hn (n.toNat - (i + 1)) _ (by omega) ⟨i + 1, ks1, _, rfl, rfl, sp1, fun k hk x hx => ?_, by omega⟩
      subst ek
      rw [List.take_append_of_le_length (by omega), take_succ hkk] at hk
      rcases List.mem_append.mp hk with hk | hk
      · exact List.mem_append.mpr (.inl (cl k hk x hx))
      · rw [List.mem_singleton.mp hk] at hx
        obtain ⟨g, hg, rfl⟩ := way_outs kin.1 ok hx
        exact cl1 g hg
  · have dn : ∀ k, k ∈ ks ↔ Rch (stepsAll evs 0 1 n.toNat) s k := by
      have c' : Cl (stepsAll evs 0 1 n.toNat) ks n.toNat := fun k hk => cl k (by rw [List.take_of_length_le (by omega)] at hk ⊢; exact hk)
      exact cl_done sp c' (by omega)
    repeat tb_rel
    exact hk ks sp.nd dn
end
end Myk33

namespace Myk33
open PySem L2 My EnT Pl
section
-- an environment written out
local macro_rules | `(tactic| nest_cls) => `(tactic| with_unfolding_all (repeat (first | exact Nf.nil | apply Nf.cons)))
-- side conditions over values
local macro_rules | `(tactic| leaf_len) => `(tactic| first
  | (with_reducible rfl)
  | (with_reducible assumption)
  | rfl
  | omega
  | ((with_reducible show _ ≤ sizeLine); first | exact szL (by first | decide | (simp; done) | (simp; omega)) | exact szL (by omega) | decide)
  | ((with_reducible show _ < sizeLine); first | exact szK (by first | decide | (simp; done) | (simp; omega)) | exact szK (by omega) | decide)
  | ((with_reducible show CMul _ _ ∨ _); first | exact .inl (CMul.l (by omega) (by omega)) | exact .inl (CMul.r (by omega) (by omega)) | exact .inr (CMulW.of (by omega) (by omega)))
  | ((with_reducible show CMul _ _); first | exact CMul.l (by omega) (by omega) | exact CMul.r (by omega) (by omega))
  | ((with_reducible show CDivW _ _); exact CDivW.of (by omega) (by omega))
  | ((with_reducible show CPow _ _); exact ⟨by decide, by decide, by decide⟩)
  | ((with_reducible show small _); unfold small; omega)
  | ((with_reducible show ∀ K, PySem.W.kitOne K _ _ = some _); first | exact fun _ => kit_ty (r := true) (by decide +kernel) | exact fun _ => kit_ty (r := false) (by decide +kernel))
  | decide)
-- a step over values
local macro_rules | `(tactic| tb_rel) => `(tactic| first
  | (with_reducible refine i_sqN (by nest_cls) ?_)
  | (with_reducible first
    | refine i_sq ?_ | refine i_set ?_ | refine i_stV ?_ | refine i_stO ?_ | refine i_nx ?_
    | refine i_c ?_ | refine i_bin ?_ | refine i_wV ?_ | refine i_wT ?_ | refine i_test ?_ | refine i_tb ?_ | refine i_tru ?_ | refine i_truB ?_
    | refine iteT ?_ | refine iteF ?_
    | refine o_addI ?_ | refine o_I0 ?_ | refine o_B0 ?_ | refine o_eqI ?_ | refine o_neI ?_ | refine o_iaddI ?_
    | refine i_aCons ?_ | refine i_aNil ?_ | refine i_call ?_
    | refine i_if ?_ | refine i_ret ?_ | refine i_rt ?_ | refine i_retN ?_ | refine i_next ?_ | refine i_drop ?_ | refine i_break ?_ | refine i_cont ?_ | refine i_bk ?_ | refine i_ct ?_
    | refine i_andT ?_ | refine i_orT ?_ | refine i_notT ?_ | refine i_andV ?_ | refine i_orV ?_ | refine i_notV ?_ | refine i_ifE ?_
    | refine i_tup ?_ | refine i_lst ?_ | refine i_un ?_ | refine i_ei ?_ | refine i_eb ?_
    | refine i_cB ?_ | refine i_make ?_ | refine i_makeO ?_ | refine i_fld ?_ | refine i_chain ?_ | refine i_for ?_ | refine i_iseq ?_ | refine i_irg1 ?_ | refine i_irg2 ?_ | refine i_ien ?_ | refine i_lc ?_ | refine i_yes ?_ | refine i_lrg ?_ | refine i_index ?_
    | refine i_asg ?_ | refine i_par ?_ | refine i_gname ?_ | refine i_gnil ?_ | refine i_gconsM ?_ | refine i_gnilM ?_ | refine i_gcons ?_
    | refine i_sl ?_ | refine i_noP ?_ | refine i_part ?_ | refine i_slL ?_ | refine i_slT ?_
    | refine i_raise0 ?_ | refine i_raise1 ?_ | refine i_dict0 ?_ | refine i_disp1 ?_ | refine i_dget2 ?_ | refine i_keyI ?_ | refine i_keyS ?_ | refine i_isDK ?_ | refine i_isDT ?_ | refine o_din' ?_ | refine o_dix' ?_ | refine i_dgZ ?_ | refine i_dgI ?_ | refine i_dc ?_ | refine i_dgS ?_ | refine i_try ?_
    | refine f_lenE ?_ | refine f_lenI ?_ | refine f_lenM ?_ | refine f_lenL ?_ | refine f_lenT ?_ | refine f_intI ?_ | refine f_intB ?_ | refine f_absI ?_ | refine f_tupL ?_ | refine f_tupT ?_ | refine f_lstL ?_ | refine f_lstT ?_ | refine f_gcdI ?_ | refine i_isC ?_ | refine i_isCM ?_ | refine o_neE ?_
    | refine o_ixP0 ?_ | refine o_ixS0 ?_ | refine o_ixS1 ?_ | refine f_lenTI' ?_ | refine o_ixP1 ?_ | refine o_inT ?_ | refine o_ninT ?_
    | refine o_isN ?_ | refine o_isnN ?_ | refine o_isB ?_ | refine o_isnB ?_
    | refine loop_nil ?_
    | refine i_truL ?_ | refine i_truT ?_ | refine i_truI ?_)
  | (with_reducible refine i_var (by with_unfolding_all rfl) ?_)
  | (with_reducible refine i_callU (by with_unfolding_all rfl) (by with_unfolding_all rfl) ?_)
  | ((with_reducible refine o_IC ?_ ?_); · leaf_len)
  | ((with_reducible refine o_mulI ?_ ?_); · leaf_len)
  | (with_reducible refine i_varO (by with_unfolding_all rfl) ?_)
  | (with_reducible refine i_wN (by with_unfolding_all rfl) ?_)
  | (with_reducible refine i_gtup (by with_unfolding_all rfl) (by with_unfolding_all rfl) ?_)
  | (with_reducible refine i_aug (by with_unfolding_all rfl) ?_)
  | (with_reducible refine i_mb rfl (by with_unfolding_all rfl) ?_)
  | (with_reducible refine i_mb0 rfl (by with_unfolding_all rfl) ?_)
  | ((with_reducible refine m_appI ?_ ?_); · leaf_len)
  | ((with_reducible refine m_app ?_ ?_); · leaf_len)
  | (with_reducible refine i_dcZ (by with_unfolding_all rfl) (fun _ _ => ?_))
  | (with_reducible refine i_setDcZ (by with_unfolding_all rfl) (fun _ _ => ?_))
  | (with_reducible refine i_setD (by with_unfolding_all rfl) ?_)
  | (with_reducible refine i_dgT (by with_unfolding_all rfl) ?_)
  | ((with_reducible refine i_dpI ?_ ?_); · leaf_len)
  | ((with_reducible show ∃ d, _ = some (Sl.own d) ∧ _); refine ⟨_, rfl, ?_⟩)
  | (with_reducible refine i_setL (by with_unfolding_all rfl) ?_)
  | (with_reducible refine i_augL (by with_unfolding_all rfl) ?_)
  | (with_reducible refine i_setF (by with_unfolding_all rfl) ?_)
  | (with_reducible refine i_stN (by with_unfolding_all rfl) ?_)
  | ((with_reducible refine o_ix0 ?_ ?_); · first | assumption | exact four_getD (by assumption) (by assumption) (by assumption))
  | ((with_reducible refine o_ix1 ?_ ?_); · first | assumption | exact four_getD (by assumption) (by assumption) (by assumption))
  | ((with_reducible refine o_ixEv ?_ ?_ ?_ ?_); (· assumption); (· first | assumption | omega); (· first | assumption | omega))
  | ((with_reducible refine o_mulL ?_ ?_ ?_); (· omega); (· omega))
  | ((with_reducible refine o_addTI ?_ ?_); · omega)
  | ((with_reducible refine o_addT ?_ ?_); · leaf_len)
  | ((with_reducible refine o_addL ?_ ?_); · leaf_len)
  | ((with_reducible refine isi_int ?_ ?_); · first | assumption | exact ⟨_, rfl⟩)
  | ((with_reducible refine isi_bool ?_ ?_); · first | assumption | exact ⟨_, rfl⟩)
  | ((with_reducible refine isi_tup ?_ ?_); · first | assumption | exact ⟨_, rfl⟩)
  | ((with_reducible refine isi_lst ?_ ?_); · first | assumption | exact ⟨_, rfl⟩)
  | ((with_reducible refine isi_str ?_ ?_); · first | assumption | exact ⟨_, rfl⟩)
  | ((with_reducible refine iteTb ?_ ?_); · exact rfl)
  | ((with_reducible refine iteFb ?_ ?_); · exact rfl)
  | ((with_reducible refine iteTb ?_ ?_); · assumption)
  | ((with_reducible refine iteFb ?_ ?_); · assumption)
  | (with_reducible refine i_aft (by with_unfolding_all rfl) ?_)
  | ((with_reducible refine iteDT ?_ ?_); · first | assumption | omega)
  | ((with_reducible refine iteDF ?_ ?_); · first | assumption | omega)
  | ((with_reducible refine iteNT ?_ ?_); · first | assumption | omega)
  | ((with_reducible refine iteNF ?_ ?_); · first | assumption | omega)
  | ((with_reducible show ∃ ds, dsO _ _ = some ds ∧ _); refine ⟨_, rfl, ?_⟩)
  | ((with_reducible show ∃ s, RV.out _ _ = some s ∧ _); refine ⟨_, rfl, ?_⟩)
  | ((with_reducible show ∃ ds d, dsO _ _ = some ds ∧ _); refine ⟨_, _, rfl, rfl, ?_⟩)
  | ((with_reducible show ∃ d, dsO _ _ = some [d] ∧ _); refine ⟨_, rfl, ?_⟩)
  | ((with_reducible show ∃ y, RV.d _ _ = some y ∧ _); refine ⟨_, rfl, ?_⟩)
  | ((with_reducible show ∃ (y : D) (fs : List (Str × D)), RV.d _ _ = some y ∧ _); refine ⟨_, _, rfl, rfl, by first | exact putD_lt (by decide) | decide, ?_⟩)
  | ((with_reducible show ∃ ds, seqD _ = some ds ∧ _); refine ⟨_, rfl, ?_⟩)
  | ((with_reducible show ∃ d e, dsO _ _ = some [d, e] ∧ _); refine ⟨_, _, rfl, ?_⟩)
  | ((with_reducible show ∃ (fs : List (Str × D)) (y : D), D.ins _ _ = .ins _ fs ∧ _); refine ⟨_, _, rfl, rfl, ?_⟩)
  | ((with_reducible show ∃ (fs : List (Str × D)) (y : D), machD _ _ _ = .ins _ fs ∧ _); refine ⟨_, _, rfl, rfl, ?_⟩)
  | ((with_reducible show _ ≤ sizeLine ∧ _); refine ⟨?_, ?_⟩; · leaf_len)
  | ((with_reducible show _ < sizeLine ∧ _); refine ⟨?_, ?_⟩; · leaf_len))

variable {P : Program} {w : World} {K : PySem.W.Frag} {mg : Str → Option Value} {base : Heap} {A : Ad}
theorem wyD_nil_len (ps : List (Int × List Int)) : (wyD ps).length = ps.length := by unfold wyD; rw [List.length_map]
/-- ways to standings over some events -/
structure Way (evs : List (List Int)) (n : Int) (nums : List Int) (s : Int) (ps : List (Int × List Int)) : Prop where
  nd : (ps.map Prod.fst).Nodup
  in_ : ∀ p ∈ ps, 0 ≤ p.1 ∧ p.1 < n
  st : s ∈ ps.map Prod.fst
  way : ∀ p ∈ ps, walkTo evs s p.2 = some p.1 ∧ ∀ g ∈ p.2, g ∈ nums
  len : ∀ (i : Nat) p, ps[i]? = some p → p.2.length ≤ i
theorem Way.cnt {evs : List (List Int)} {n : Int} {nums : List Int} {s : Int} {ps : List (Int × List Int)} (h : Way evs n nums s ps) (n0 : 0 ≤ n) : ps.length ≤ n.toNat := by
  have := nodup_le n.toNat (ps.map Prod.fst) h.nd fun x hx => by
    obtain ⟨p, hp, rfl⟩ := List.mem_map.mp hx
    have := h.in_ p hp
    omega
  rwa [List.length_map] at this
theorem Way.short {evs : List (List Int)} {n : Int} {nums : List Int} {s : Int} {ps : List (Int × List Int)} (h : Way evs n nums s ps) (n0 : 0 ≤ n) {p : Int × List Int} (hp : p ∈ ps) : p.2.length ≤ n.toNat := by
  obtain ⟨i, hi⟩ := List.getElem?_of_mem hp
  have il := (List.getElem?_eq_some_iff.mp hi).1
  have := h.len i p hi
  have := h.cnt n0
  omega
theorem Way.ins {evs : List (List Int)} {n : Int} {nums : List Int} {s : Int} {ps : List (Int × List Int)} (h : Way evs n nums s ps) {k g x : Int} {w : List Int} (hk : (k, w) ∈ ps) (hg : g ∈ outsI evs k) (gn : g ∈ nums) (ex : evA (evs.getD g.toNat []) = x) (nx : x ∉ ps.map Prod.fst) (x0 : 0 ≤ x) (x1 : x < n) :
    Way evs n nums s (ps ++ [(x, w ++ [g])]) := by
  obtain ⟨w1, w2⟩ := h.way _ hk
  refine ⟨?_, fun p hp => ?_, by rw [List.map_append]; exact List.mem_append.mpr (.inl h.st), fun p hp => ?_, fun i p hp => ?_⟩
  · rw [List.map_append, List.nodup_append]
    refine ⟨h.nd, by simp, fun a ha b hb e => ?_⟩
    have eb : b = x := by simpa using hb
    rw [e, eb] at ha
    exact nx ha
  · rcases List.mem_append.mp hp with hp | hp
    · exact h.in_ p hp
    · rw [List.mem_singleton.mp hp]; exact ⟨x0, x1⟩
  · rcases List.mem_append.mp hp with hp | hp
    · exact h.way p hp
    · rw [List.mem_singleton.mp hp]
      refine ⟨?_, fun y hy => ?_⟩
      · rw [← ex]; exact walk_snoc w1 hg
      · rcases List.mem_append.mp hy with hy | hy
        · exact w2 y hy
        · rw [List.mem_singleton.mp hy]; exact gn
  · by_cases c : i < ps.length
    · rw [List.getElem?_append_left c] at hp
      exact h.len i p hp
    · have il := (List.getElem?_eq_some_iff.mp hp).1
      rw [List.length_append] at il
      have ei : i = ps.length := by
        have : i < ps.length + 1 := il
        omega
      subst ei
      rw [List.getElem?_append_right (Nat.le_refl _), Nat.sub_self] at hp
      cases hp
      show (w ++ [g]).length ≤ ps.length
      rw [List.length_append]
      obtain ⟨j, hj⟩ := List.getElem?_of_mem hk
      have jl := (List.getElem?_eq_some_iff.mp hj).1
      have := h.len j _ hj
      have : w.length ≤ j := this
      show w.length + 1 ≤ ps.length
      omega
def S_ways (C : Addr) : QSpec := fun ds k _ => ∃ n evs nums s, ds = [machD C n evs, lstI nums, .int s] ∧ 1 ≤ n ∧ n ≤ 60 ∧ evs.length ≤ 1000 ∧ (∀ e ∈ evs, okEv n e) ∧ (∀ g ∈ nums, 0 ≤ g ∧ g < (evs.length : Int)) ∧ nums.length ≤ 1000 ∧ 0 ≤ s ∧ s < n ∧
  ∀ ps, Way evs n nums s ps → (∀ k ∈ ps.map Prod.fst, ∀ g ∈ nums, evB (evs.getD g.toNat []) = k → evA (evs.getD g.toNat []) ∈ ps.map Prod.fst) → k (.tmp (.dK (wyD ps)))
theorem m_popI {ws : List Int} {x : Int} {k : D → D → Prop} (h : k (lstI ws) (.int x)) : fPop (.lst ((ws ++ [x]).map D.int)) [] k := by
  refine ⟨.int x, ?_, ?_⟩
  · rw [List.length_map, List.length_append]
    show ((ws ++ [x]).map D.int)[ws.length + 1 - 1]? = _
    rw [Nat.add_sub_cancel, List.getElem?_map, List.getElem?_append_right (Nat.le_refl _), Nat.sub_self]
    rfl
  · rw [List.map_append]
    show k (D.lst ((ws.map D.int ++ [D.int x]).dropLast)) (D.int x)
    rw [List.dropLast_concat]
    exact h
theorem lnoq_ways : ∀ ds k kx, (S_ways A.C_Machine : QSpec) ds k kx → ds.length = 3 := by
  intro ds k kx h
  obtain ⟨n, evs, nums, s, rfl, n1, n6, hl, ok, hin, hnl, s0, s1, hk⟩ := h
  rfl
theorem oq_ways (T : Txt K mg A) : FnOk P w K mg base (L2.CX P w) 1 A.f_ways A.d_ways ["machine", "numbers", "start"] (spP K (S_ways A.C_Machine)) := by
  refine T.F_ways.okX sc_ways (spP_len (lnoq_ways (A := A))) (fun cdv A1 outer s H vs Q E hr h => ?_)
  refine def_run (N := ["machine", "numbers", "start", "found", "waiting", "here", "number", "before", "after", "tries", "points"]) (p := _) (fun kx => (qss_cons (qs_set (i := 3) sc_ways.nd rfl (Or.inl rfl) (q_disp1 (q_var rfl (pv 2)) (q_tup (qa_nil rfl))))
      (qss_cons (qs_set (i := 4) sc_ways.nd rfl (Or.inl rfl) (q_lst (qa_cons (q_var rfl (pv 2)) (qa_nil rfl))))
      (qss_cons (qs_while (passes_of rfl) (qt_tru (q_var rfl (pv 4))) (qss_cons (qs_set (i := 5) sc_ways.nd rfl (Or.inl rfl) (q_mb0 rfl (pe_bm0 PySem.F.plainAttrs_list PySem.F.slot_list_pop PySem.F.type_list_pop mt_pop (pv 4)) sim_pop))
      (qss_one (qs_for (passes_of rfl) rfl (qi_seq (q_var rfl (pv 1))) (qg_name (i := 6) rfl sc_ways.nd rfl (Or.inl rfl))
        (qss_cons (qs_asg (q_ix (q_fld T.cl_Machine T.n_events (q_var rfl (pv 0)) (by rfl)) (q_var rfl (pv 6)) (fun _ _ => rfl)) (qg_tup 4 rfl (qgs_cons (qg_name (i := 7) rfl sc_ways.nd rfl (Or.inl rfl)) (qgs_cons (qg_name (i := 8) rfl sc_ways.nd rfl (Or.inl rfl)) (qgs_cons (qg_name (i := 9) rfl sc_ways.nd rfl (Or.inl rfl)) (qgs_cons (qg_name (i := 10) rfl sc_ways.nd rfl (Or.inl rfl)) (qgs_nil rfl))))) rfl rfl))
      (qss_one (qs_if (QW.qt (qw_and (qt_cmp1 (c_eq rfl (hu64 hr)) (q_var rfl (pv 7)) (q_var rfl (pv 5)) (nomark _)) (qw_and1 (qt_cmp1 (c_dnotin (hu1D hr)) (q_var rfl (pv 8)) (q_var rfl (pv 3)) (by with_unfolding_all rfl))))) (qss_cons (qs_setD (hu1D hr) (pv 3) (q_add (q_dix (hu1D hr) (q_var rfl (pv 3)) (q_var rfl (pv 5)) (fun _ _ => rfl)) (q_tup (qa_cons (q_var rfl (pv 6)) (qa_nil rfl)))) (q_var rfl (pv 8)))
      (qss_one (qs_expr (q_mb (qa_cons (q_var rfl (pv 8)) (qa_nil rfl)) (fun h => pe_bm PySem.F.plainAttrs_list PySem.F.slot_list_append PySem.F.type_list_append mt_append (pv 4) h) sim_append)))) (qss_nil rfl))))))))
      (qss_one (qs_ret (q_var rfl (pv 3)))))))) h (fun ds k kx h => by rw [lnoq_ways ds k kx h]; decide) (fun ds k kx h => ?_)
  obtain ⟨n, evs, nums, s, rfl, n1, n6, hl, ok, hin, hnl, s0, s1, hk⟩ := h
  have f4 := four_all ok
  repeat tb_rel
  refine while_m (fun m e => ∃ (ps : List (Int × List Int)) (ks ws : List Int) (u5 u6 u7 u8 u9 u10 : Sl), e = [.val (machD A.C_Machine n evs), .val (lstI nums), .val (.int s), .own (.dK (wyD ps)), .own (lstI ws), u5, u6, u7, u8, u9, u10] ∧ m = 2 * (n.toNat - ks.length) + ws.length ∧ ks = ps.map Prod.fst ∧ Way evs n nums s ps ∧ (∀ x ∈ ws, x ∈ ks) ∧
      (∀ k ∈ ks, k ∉ ws → ∀ g ∈ nums, evB (evs.getD g.toNat []) = k → evA (evs.getD g.toNat []) ∈ ks) ∧ ws.length ≤ ks.length) (m := 2 * (n.toNat - 1) + 1) ⟨[(s, [])], [s], [s], _, _, _, _, _, _, rfl, rfl, rfl, ⟨by simp, fun p hp => by rw [List.mem_singleton.mp hp]; exact ⟨s0, s1⟩, by simp, fun p hp => by rw [List.mem_singleton.mp hp]; exact ⟨rfl, fun g hg => by cases hg⟩, fun i p hp => by
        cases i with
        | zero => cases hp; exact Nat.le_refl _
        | succ i => cases hp⟩, fun x hx => hx, fun k hk nk => absurd hk nk, Nat.le_refl _⟩ ?_
  rintro m e ⟨ps, ks, ws, u5, u6, u7, u8, u9, u10, rfl, rfl, ek, wy, sub, cl, wl⟩ nx hn
  have lk := wy.cnt (by omega)
  have lks : ks.length = ps.length := by rw [ek, List.length_map]
  repeat tb_rel
  rcases List.eq_nil_or_concat ws with e | ⟨ws', hr, e⟩
  · subst e
    refine ⟨false, rfl, ?_⟩
    repeat tb_rel
    refine hk ps wy fun k hk g hg hb => ?_
    rw [← ek] at hk ⊢
    exact cl k hk (by simp) g hg hb
  · have e' : ws = ws' ++ [hr] := by simpa using e
    subst e'
    have hrk := sub hr (by simp)
    refine ⟨true, by show some (!((ws' ++ [hr]).map D.int).isEmpty) = some true; simp, ?_⟩
    repeat tb_rel
    refine m_popI ?_
    repeat tb_rel
    refine loop_inv (fun j e => ∃ (ps1 : List (Int × List Int)) (ks1 ws1 r : List Int) (u6 u7 u8 u9 u10 : Sl), e = [.val (machD A.C_Machine n evs), .val (lstI nums), .val (.int s), .own (.dK (wyD ps1)), .own (lstI ws1), .val (.int hr), u6, u7, u8, u9, u10] ∧ ks1 = ps1.map Prod.fst ∧ ks1 = ks ++ r ∧ ws1 = ws' ++ r ∧ Way evs n nums s ps1 ∧
        (∀ k ∈ ks1, k ∉ ws1 → k ≠ hr → ∀ g ∈ nums, evB (evs.getD g.toNat []) = k → evA (evs.getD g.toNat []) ∈ ks1) ∧ ∀ g ∈ nums.take j, evB (evs.getD g.toNat []) = hr → evA (evs.getD g.toNat []) ∈ ks1)
      ⟨ps, ks, ws', [], _, _, _, _, _, rfl, ek, (List.append_nil ks).symm, (List.append_nil ws').symm, wy, fun k hk nk ne => cl k hk (fun z => by
          rcases List.mem_append.mp z with z | z
          · exact nk z
          · exact ne (List.mem_singleton.mp z)), fun g hg => by simp at hg⟩ ?_ ?_
    · rintro j d e hd ⟨ps1, ks1, ws1, r, u6, u7, u8, u9, u10, rfl, ek1, er, ew, wy1, cl1, cg⟩ nx2 hn2 hx2
      obtain ⟨g, hg, rfl⟩ := mapD_get hd
      obtain ⟨g0, g1⟩ := hin g (List.mem_of_getElem? hg)
      obtain ⟨_, _, a0, a1⟩ := okAB ok g0 g1
      obtain ⟨b, a, t, p, _, ee⟩ := four_at f4 g0 g1
      have lk1 := wy1.cnt (by omega)
      have lk2 : ks1.length = ps1.length := by rw [ek1, List.length_map]
      have lk3 : ks1.length = ks.length + r.length := by rw [er, List.length_append]
      have lk4 : ws1.length = ws'.length + r.length := by rw [ew, List.length_append]
      have lw0 : (ws' ++ [hr]).length = ws'.length + 1 := List.length_append
      have hrk1 : hr ∈ ks1 := by rw [er]; exact List.mem_append.mpr (.inl hrk)
      have skip_ : (evB (evs.getD g.toNat []) = hr → evA (evs.getD g.toNat []) ∈ ks1) → ∀ x ∈ nums.take (j + 1), evB (evs.getD x.toNat []) = hr → evA (evs.getD x.toNat []) ∈ ks1 := fun h x hx => by
        rw [take_succ hg] at hx
        rcases List.mem_append.mp hx with hx | hx
        · exact cg x hx
        · rw [List.mem_singleton.mp hx]; exact h
      repeat tb_rel
      rw [ee] at a0 a1 skip_ ⊢
      repeat tb_rel
      refine iteD (fun c1 => ?_) (fun c1 => ?_)
      · subst c1
        repeat tb_rel
        rw [wyD_has, ← ek1]
        refine iteN (fun c2 => ?_) (fun c2 => ?_)
        · obtain ⟨w, hw1, hw2⟩ := wyD_get (ps := ps1) (x := b) (by rw [← ek1]; exact hrk1)
          have lw : w.length ≤ 1000 := by have := wy1.short (by omega) hw1; have : w.length ≤ n.toNat := this; omega
          have pl' : (wyD ps1).length ≤ 1000 := by rw [wyD_nil_len]; omega
          have wl1 : ws1.length ≤ 1000 := by omega
          repeat tb_rel
          refine ⟨_, hw2, ?_⟩
          repeat tb_rel
          have gm : g ∈ outsI evs b := outsI_mem.mpr ⟨g0, g1, by rw [ee]; rfl⟩
          have c2' : a ∉ ps1.map Prod.fst := by rw [← ek1]; exact c2
          have q := fun u6 u7 u8 u9 u10 => hn2 _ ⟨ps1 ++ [(a, w ++ [g])], ks1 ++ [a], ws1 ++ [a], r ++ [a], u6, u7, u8, u9, u10, rfl, by rw [List.map_append, ← ek1]; rfl, by rw [er, List.append_assoc], by rw [ew, List.append_assoc], wy1.ins hw1 gm (List.mem_of_getElem? hg) (by rw [ee]; rfl) c2' a0 a1,
            (fun k hk nk ne x hx hb => by
              rcases List.mem_append.mp hk with hk | hk
              · exact List.mem_append.mpr (.inl (cl1 k hk (fun z => nk (List.mem_append.mpr (.inl z))) ne x hx hb))
              · exact absurd (List.mem_append.mpr (.inr hk)) nk), fun x hx hb => by
              rw [take_succ hg] at hx
              rcases List.mem_append.mp hx with hx | hx
              · exact List.mem_append.mpr (.inl (cg x hx hb))
              · rw [List.mem_singleton.mp hx, ee]; simp [evA]⟩
          rw [← wyD_new c2'] at q
          exact q _ _ _ _ _
        · repeat tb_rel
          exact hn2 _ ⟨ps1, ks1, ws1, r, _, _, _, _, _, rfl, ek1, er, ew, wy1, cl1, skip_ fun _ => c2⟩
      · repeat tb_rel
        exact hn2 _ ⟨ps1, ks1, ws1, r, _, _, _, _, _, rfl, ek1, er, ew, wy1, cl1, skip_ fun h => absurd h c1⟩
    · rintro e ⟨ps1, ks1, ws1, r, u6, u7, u8, u9, u10, rfl, ek1, er, ew, wy1, cl1, cg⟩
      rw [List.length_map, List.take_length] at cg
      have lk1 := wy1.cnt (by omega)
      have lk2 : ks1.length = ps1.length := by rw [ek1, List.length_map]
      have lk3 : ks1.length = ks.length + r.length := by rw [er, List.length_append]
      have lk4 : ws1.length = ws'.length + r.length := by rw [ew, List.length_append]
      have lw0 : (ws' ++ [hr]).length = ws'.length + 1 := List.length_append
      repeat tb_rel
      refine hn (2 * (n.toNat - ks1.length) + ws1.length) _ (by omega) ⟨ps1, ks1, ws1, _, _, _, _, _, _, rfl, rfl, ek1, wy1, fun x hx => ?_, fun k hk nk g hg hb => ?_, by omega⟩
      · rw [ew] at hx
        rw [er]
        rcases List.mem_append.mp hx with hx | hx
        · exact List.mem_append.mpr (.inl (sub x (by simp [hx])))
        · exact List.mem_append.mpr (.inr hx)
      · by_cases c : k = hr
        · exact cg g hg (by rw [hb, c])
        · exact cl1 k hk nk c g hg hb
end
end Myk33

namespace Myk33
open PySem L2 My EnT Pl
section
-- an environment written out
local macro_rules | `(tactic| nest_cls) => `(tactic| with_unfolding_all (repeat (first | exact Nf.nil | apply Nf.cons)))
-- side conditions over values
local macro_rules | `(tactic| leaf_len) => `(tactic| first
  | (with_reducible rfl)
  | (with_reducible assumption)
  | rfl
  | omega
  | ((with_reducible show _ ≤ sizeLine); first | exact szL (by first | decide | (simp; done) | (simp; omega)) | exact szL (by omega) | decide)
  | ((with_reducible show _ < sizeLine); first | exact szK (by first | decide | (simp; done) | (simp; omega)) | exact szK (by omega) | decide)
  | ((with_reducible show CMul _ _ ∨ _); first | exact .inl (CMul.l (by omega) (by omega)) | exact .inl (CMul.r (by omega) (by omega)) | exact .inr (CMulW.of (by omega) (by omega)))
  | ((with_reducible show CMul _ _); first | exact CMul.l (by omega) (by omega) | exact CMul.r (by omega) (by omega))
  | ((with_reducible show CDivW _ _); exact CDivW.of (by omega) (by omega))
  | ((with_reducible show CPow _ _); exact ⟨by decide, by decide, by decide⟩)
  | ((with_reducible show small _); unfold small; omega)
  | ((with_reducible show ∀ K, PySem.W.kitOne K _ _ = some _); first | exact fun _ => kit_ty (r := true) (by decide +kernel) | exact fun _ => kit_ty (r := false) (by decide +kernel))
  | decide)
-- a step over values
local macro_rules | `(tactic| tb_rel) => `(tactic| first
  | (with_reducible refine i_sqN (by nest_cls) ?_)
  | (with_reducible first
    | refine i_sq ?_ | refine i_set ?_ | refine i_stV ?_ | refine i_stO ?_ | refine i_nx ?_
    | refine i_c ?_ | refine i_bin ?_ | refine i_wV ?_ | refine i_wT ?_ | refine i_test ?_ | refine i_tb ?_ | refine i_tru ?_ | refine i_truB ?_
    | refine iteT ?_ | refine iteF ?_
    | refine o_addI ?_ | refine o_I0 ?_ | refine o_B0 ?_ | refine o_eqI ?_ | refine o_neI ?_ | refine o_iaddI ?_
    | refine i_aCons ?_ | refine i_aNil ?_ | refine i_call ?_
    | refine i_if ?_ | refine i_ret ?_ | refine i_rt ?_ | refine i_retN ?_ | refine i_next ?_ | refine i_drop ?_ | refine i_break ?_ | refine i_cont ?_ | refine i_bk ?_ | refine i_ct ?_
    | refine i_andT ?_ | refine i_orT ?_ | refine i_notT ?_ | refine i_andV ?_ | refine i_orV ?_ | refine i_notV ?_ | refine i_ifE ?_
    | refine i_tup ?_ | refine i_lst ?_ | refine i_un ?_ | refine i_ei ?_ | refine i_eb ?_
    | refine i_cB ?_ | refine i_make ?_ | refine i_makeO ?_ | refine i_fld ?_ | refine i_chain ?_ | refine i_for ?_ | refine i_iseq ?_ | refine i_irg1 ?_ | refine i_irg2 ?_ | refine i_ien ?_ | refine i_lc ?_ | refine i_yes ?_ | refine i_lrg ?_ | refine i_index ?_
    | refine i_asg ?_ | refine i_par ?_ | refine i_gname ?_ | refine i_gnil ?_ | refine i_gconsM ?_ | refine i_gnilM ?_ | refine i_gcons ?_
    | refine i_sl ?_ | refine i_noP ?_ | refine i_part ?_ | refine i_slL ?_ | refine i_slT ?_
    | refine i_raise0 ?_ | refine i_raise1 ?_ | refine i_dict0 ?_ | refine i_disp1 ?_ | refine i_dget2 ?_ | refine i_keyI ?_ | refine i_keyS ?_ | refine i_isDK ?_ | refine i_isDT ?_ | refine o_din' ?_ | refine o_dix' ?_ | refine i_dgZ ?_ | refine i_dgI ?_ | refine i_dc ?_ | refine i_dgS ?_ | refine i_try ?_
    | refine f_lenE ?_ | refine f_lenI ?_ | refine f_lenM ?_ | refine f_lenL ?_ | refine f_lenT ?_ | refine f_intI ?_ | refine f_intB ?_ | refine f_absI ?_ | refine f_tupL ?_ | refine f_tupT ?_ | refine f_lstL ?_ | refine f_lstT ?_ | refine f_gcdI ?_ | refine i_isC ?_ | refine i_isCM ?_ | refine o_neE ?_
    | refine o_ixP0 ?_ | refine o_ixS0 ?_ | refine o_ixS1 ?_ | refine f_lenTI' ?_ | refine o_ixP1 ?_ | refine o_inT ?_ | refine o_ninT ?_
    | refine o_isN ?_ | refine o_isnN ?_ | refine o_isB ?_ | refine o_isnB ?_
    | refine loop_nil ?_
    | refine i_truL ?_ | refine i_truT ?_ | refine i_truI ?_)
  | (with_reducible refine i_var (by with_unfolding_all rfl) ?_)
  | (with_reducible refine i_callU (by with_unfolding_all rfl) (by with_unfolding_all rfl) ?_)
  | ((with_reducible refine o_IC ?_ ?_); · leaf_len)
  | ((with_reducible refine o_mulI ?_ ?_); · leaf_len)
  | (with_reducible refine i_varO (by with_unfolding_all rfl) ?_)
  | (with_reducible refine i_wN (by with_unfolding_all rfl) ?_)
  | (with_reducible refine i_gtup (by with_unfolding_all rfl) (by with_unfolding_all rfl) ?_)
  | (with_reducible refine i_aug (by with_unfolding_all rfl) ?_)
  | (with_reducible refine i_mb rfl (by with_unfolding_all rfl) ?_)
  | (with_reducible refine i_mb0 rfl (by with_unfolding_all rfl) ?_)
  | ((with_reducible refine m_appI ?_ ?_); · leaf_len)
  | ((with_reducible refine m_app ?_ ?_); · leaf_len)
  | (with_reducible refine i_dcZ (by with_unfolding_all rfl) (fun _ _ => ?_))
  | (with_reducible refine i_setDcZ (by with_unfolding_all rfl) (fun _ _ => ?_))
  | (with_reducible refine i_setD (by with_unfolding_all rfl) ?_)
  | (with_reducible refine i_dgT (by with_unfolding_all rfl) ?_)
  | ((with_reducible refine i_dpI ?_ ?_); · leaf_len)
  | ((with_reducible show ∃ d, _ = some (Sl.own d) ∧ _); refine ⟨_, rfl, ?_⟩)
  | (with_reducible refine i_setL (by with_unfolding_all rfl) ?_)
  | (with_reducible refine i_augL (by with_unfolding_all rfl) ?_)
  | (with_reducible refine i_setF (by with_unfolding_all rfl) ?_)
  | (with_reducible refine i_stN (by with_unfolding_all rfl) ?_)
  | ((with_reducible refine o_ix0 ?_ ?_); · first | assumption | exact four_getD (by assumption) (by assumption) (by assumption))
  | ((with_reducible refine o_ix1 ?_ ?_); · first | assumption | exact four_getD (by assumption) (by assumption) (by assumption))
  | ((with_reducible refine o_ixEv ?_ ?_ ?_ ?_); (· assumption); (· first | assumption | omega); (· first | assumption | omega))
  | ((with_reducible refine o_mulL ?_ ?_ ?_); (· omega); (· omega))
  | ((with_reducible refine o_addTI ?_ ?_); · omega)
  | ((with_reducible refine o_addT ?_ ?_); · leaf_len)
  | ((with_reducible refine o_addL ?_ ?_); · leaf_len)
  | ((with_reducible refine isi_int ?_ ?_); · first | assumption | exact ⟨_, rfl⟩)
  | ((with_reducible refine isi_bool ?_ ?_); · first | assumption | exact ⟨_, rfl⟩)
  | ((with_reducible refine isi_tup ?_ ?_); · first | assumption | exact ⟨_, rfl⟩)
  | ((with_reducible refine isi_lst ?_ ?_); · first | assumption | exact ⟨_, rfl⟩)
  | ((with_reducible refine isi_str ?_ ?_); · first | assumption | exact ⟨_, rfl⟩)
  | ((with_reducible refine iteTb ?_ ?_); · exact rfl)
  | ((with_reducible refine iteFb ?_ ?_); · exact rfl)
  | ((with_reducible refine iteTb ?_ ?_); · assumption)
  | ((with_reducible refine iteFb ?_ ?_); · assumption)
  | (with_reducible refine i_aft (by with_unfolding_all rfl) ?_)
  | ((with_reducible refine iteDT ?_ ?_); · first | assumption | omega)
  | ((with_reducible refine iteDF ?_ ?_); · first | assumption | omega)
  | ((with_reducible refine iteNT ?_ ?_); · first | assumption | omega)
  | ((with_reducible refine iteNF ?_ ?_); · first | assumption | omega)
  | ((with_reducible show ∃ ds, dsO _ _ = some ds ∧ _); refine ⟨_, rfl, ?_⟩)
  | ((with_reducible show ∃ s, RV.out _ _ = some s ∧ _); refine ⟨_, rfl, ?_⟩)
  | ((with_reducible show ∃ ds d, dsO _ _ = some ds ∧ _); refine ⟨_, _, rfl, rfl, ?_⟩)
  | ((with_reducible show ∃ d, dsO _ _ = some [d] ∧ _); refine ⟨_, rfl, ?_⟩)
  | ((with_reducible show ∃ y, RV.d _ _ = some y ∧ _); refine ⟨_, rfl, ?_⟩)
  | ((with_reducible show ∃ (y : D) (fs : List (Str × D)), RV.d _ _ = some y ∧ _); refine ⟨_, _, rfl, rfl, by first | exact putD_lt (by decide) | decide, ?_⟩)
  | ((with_reducible show ∃ ds, seqD _ = some ds ∧ _); refine ⟨_, rfl, ?_⟩)
  | ((with_reducible show ∃ d e, dsO _ _ = some [d, e] ∧ _); refine ⟨_, _, rfl, ?_⟩)
  | ((with_reducible show ∃ (fs : List (Str × D)) (y : D), D.ins _ _ = .ins _ fs ∧ _); refine ⟨_, _, rfl, rfl, ?_⟩)
  | ((with_reducible show ∃ (fs : List (Str × D)) (y : D), machD _ _ _ = .ins _ fs ∧ _); refine ⟨_, _, rfl, rfl, ?_⟩)
  | ((with_reducible show _ ≤ sizeLine ∧ _); refine ⟨?_, ?_⟩; · leaf_len)
  | ((with_reducible show _ < sizeLine ∧ _); refine ⟨?_, ?_⟩; · leaf_len))

variable {P : Program} {w : World} {K : PySem.W.Frag} {mg : Str → Option Value} {base : Heap} {A : Ad}
/-- what a pair is worth by a line -/
abbrev Lx (x y t p : Int) : Int := x * p - y * t
theorem fmod_lt {a b : Int} (h : b ≠ 0) : (a - a.fdiv b * b).natAbs < b.natAbs := by
  have e : a - a.fdiv b * b = a.fmod b := by
    have := Int.fmod_add_mul_fdiv a b
    rw [Int.mul_comm (a.fdiv b) b]
    omega
  rw [e]
  rcases Int.lt_or_gt_of_ne h with c | c
  · have h0 := Int.neg_fmod_neg a b
    have h1 := Int.fmod_nonneg_of_pos (-a) (b := -b) (by omega)
    have h2 := Int.fmod_lt_of_pos (-a) (b := -b) (by omega)
    omega
  · have h1 := Int.fmod_nonneg_of_pos a c
    have h2 := Int.fmod_lt_of_pos a c
    omega
theorem fdiv_le {a b : Int} (h : b ≠ 0) : (a.fdiv b).natAbs ≤ a.natAbs := by
  have h1 := fmod_lt (a := a) h
  have h2 : (a.fdiv b * b).natAbs ≤ a.natAbs + (b.natAbs - 1) := by omega
  rw [Int.natAbs_mul] at h2
  rcases Nat.lt_or_ge a.natAbs (a.fdiv b).natAbs with c | c
  · exfalso
    have hb : 0 < b.natAbs := by omega
    have h3 : (a.natAbs + 1) * b.natAbs ≤ (a.fdiv b).natAbs * b.natAbs := Nat.mul_le_mul_right _ c
    rw [Nat.succ_mul] at h3
    have h4 : a.natAbs * 1 ≤ a.natAbs * b.natAbs := Nat.mul_le_mul_left _ hb
    omega
  · exact c
theorem lx_step (x y a b pa pb m : Int) : Lx x y (a - m * b) (pa - m * pb) = Lx x y a pa - m * Lx x y b pb := by unfold Lx; grind
theorem det_step (a b pa pb m : Int) : b * (pa - m * pb) - (a - m * b) * pb = -(a * pb - b * pa) := by grind
/-- tries taken out of a pair -/
structure WT (t1 p1 t2 p2 t p q : Int) : Prop where
  lat : ∀ x y d : Int, (d ∣ Lx x y t p ∧ d ∣ x * q) ↔ (d ∣ Lx x y t1 p1 ∧ d ∣ Lx x y t2 p2)
  z : t2 = 0 → t = t1 ∧ p = p1 ∧ q = p2
  nz : t2 ≠ 0 → t ≠ 0 ∧ t.natAbs ≤ t2.natAbs ∧ p.natAbs ≤ p2.natAbs + t2.natAbs * (t1 * p2 - t2 * p1).natAbs ∧ t.natAbs * q.natAbs = (t1 * p2 - t2 * p1).natAbs
/-- on the way there -/
structure WTs (t1 p1 t2 p2 a pa b pb : Int) : Prop where
  lat : ∀ x y d : Int, (d ∣ Lx x y a pa ∧ d ∣ Lx x y b pb) ↔ (d ∣ Lx x y t1 p1 ∧ d ∣ Lx x y t2 p2)
  det : (a * pb - b * pa).natAbs = (t1 * p2 - t2 * p1).natAbs
  or : (a = t1 ∧ pa = p1 ∧ b = t2 ∧ pb = p2) ∨ (t2 ≠ 0 ∧ b.natAbs < a.natAbs ∧ a.natAbs ≤ t2.natAbs ∧ pa.natAbs + a.natAbs * (t1 * p2 - t2 * p1).natAbs ≤ p2.natAbs + t2.natAbs * (t1 * p2 - t2 * p1).natAbs)
theorem WTs.step {t1 p1 t2 p2 a pa b pb : Int} (h : WTs t1 p1 t2 p2 a pa b pb) (hb : b ≠ 0) : WTs t1 p1 t2 p2 b pb (a - a.fdiv b * b) (pa - a.fdiv b * pb) := by
  have hr := fmod_lt (a := a) hb
  have hd := h.det
  have ho := h.or
  generalize hD : (t1 * p2 - t2 * p1).natAbs = D at *
  refine ⟨fun x y d => ?_, ?_, .inr ?_⟩
  · rw [← h.lat x y d, lx_step]
    constructor
    · rintro ⟨h1, h2⟩
      refine ⟨?_, h1⟩
      have := Int.dvd_add h2 (Int.dvd_mul_of_dvd_right (b := a.fdiv b) h1)
      rwa [Int.sub_add_cancel] at this
    · rintro ⟨h1, h2⟩
      exact ⟨h2, Int.dvd_sub h1 (Int.dvd_mul_of_dvd_right (b := a.fdiv b) h2)⟩
  · rw [det_step, Int.natAbs_neg]
    exact hd.trans hD.symm
  · rw [hD]
    rcases ho with ⟨rfl, rfl, rfl, rfl⟩ | ⟨h1, h2, h3, h4⟩
    · exact ⟨hb, hr, Nat.le_refl _, Nat.le_refl _⟩
    · refine ⟨h1, hr, by omega, ?_⟩
      -- |pb| ≤ D + |pa|
      have ha : 0 < a.natAbs := by omega
      have e1 : (a * pb).natAbs ≤ D + (b * pa).natAbs := by omega
      rw [Int.natAbs_mul, Int.natAbs_mul] at e1
      have e2 : b.natAbs * pa.natAbs ≤ a.natAbs * pa.natAbs := Nat.mul_le_mul_right _ (Nat.le_of_lt h2)
      have e3 : pb.natAbs ≤ D + pa.natAbs := by
        rcases Nat.lt_or_ge (D + pa.natAbs) pb.natAbs with c | c
        · exfalso
          have e4 : a.natAbs * (D + pa.natAbs + 1) ≤ a.natAbs * pb.natAbs := Nat.mul_le_mul_left _ c
          rw [Nat.mul_add, Nat.mul_add] at e4
          have e5 : 1 * D ≤ a.natAbs * D := Nat.mul_le_mul_right _ ha
          omega
        · exact c
      have e6 : (b.natAbs + 1) * D ≤ a.natAbs * D := Nat.mul_le_mul_right _ h2
      rw [Nat.succ_mul] at e6
      omega
theorem WTs.done {t1 p1 t2 p2 a pa pb : Int} (h : WTs t1 p1 t2 p2 a pa 0 pb) : WT t1 p1 t2 p2 a pa pb := by
  refine ⟨fun x y d => ?_, fun hz => ?_, fun hz => ?_⟩
  · rw [← h.lat x y d]
    have e : Lx x y 0 pb = x * pb := by unfold Lx; rw [Int.mul_zero, Int.sub_zero]
    rw [e]
  · rcases h.or with ⟨h1, h2, _, h4⟩ | ⟨h1, _⟩
    · exact ⟨h1, h2, h4⟩
    · exact absurd hz h1
  · rcases h.or with ⟨_, _, h3, _⟩ | ⟨_, h2, h3, h4⟩
    · exact absurd h3.symm hz
    · have hd := h.det
      rw [Int.zero_mul, Int.sub_zero, Int.natAbs_mul] at hd
      exact ⟨by omega, h3, by omega, hd⟩
def S_wt : QSpec := fun ds k _ => ∃ t1 p1 t2 p2, ds = [tupI [t1, p1], tupI [t2, p2]] ∧ t1.natAbs ≤ 1000000 ∧ t2.natAbs ≤ 1000000 ∧ ∀ t p q, WT t1 p1 t2 p2 t p q → k (.val (.tup [tupI [t, p], .int q]))
theorem lnoq_without_tries : ∀ ds k kx, (S_wt : QSpec) ds k kx → ds.length = 2 := by
  intro ds k kx h
  obtain ⟨t1, p1, t2, p2, rfl, b1, b2, hk⟩ := h
  rfl
theorem oq_without_tries (T : Txt K mg A) : FnOk P w K mg base (L2.CX P w) 1 A.f_without_tries A.d_without_tries ["pair", "other"] (spP K (S_wt)) := by
  refine T.F_without_tries.okX sc_without_tries (spP_len lnoq_without_tries) (fun cdv A1 outer s H vs Q E hr h => ?_)
  refine def_run (N := ["pair", "other", "many"]) (p := _) (fun kx => (qss_cons (qs_while (passes_of rfl) (qt_cmp1 (c_ne rfl (hu64 hr)) (q_ix (q_var rfl (pv 1)) (q_int rfl) (fun _ _ => rfl)) (q_int rfl) (nomark _)) (qss_cons (qs_set (i := 2) sc_without_tries.nd rfl (Or.inl rfl) (q_divN (q_ix (q_var rfl (pv 0)) (q_int rfl) (fun _ _ => rfl)) (q_ix (q_var rfl (pv 1)) (q_int rfl) (fun _ _ => rfl))))
      (qss_one (qs_par (i := 0) (j := 1) rfl sc_without_tries.nd rfl rfl (by decide) rfl rfl (qa_cons (q_var rfl (pv 1)) (qa_cons (q_tup (qa_cons (q_sub (q_ix (q_var rfl (pv 0)) (q_int rfl) (fun _ _ => rfl)) (q_mul (q_var rfl (pv 2)) (q_ix (q_var rfl (pv 1)) (q_int rfl) (fun _ _ => rfl)))) (qa_cons (q_sub (q_ix (q_var rfl (pv 0)) (q_int rfl) (fun _ _ => rfl)) (q_mul (q_var rfl (pv 2)) (q_ix (q_var rfl (pv 1)) (q_int rfl) (fun _ _ => rfl)))) (qa_nil rfl)))) (qa_nil rfl))) (by rfl)))))
      (qss_one (qs_ret (q_tup (qa_cons (q_var rfl (pv 0)) (qa_cons (q_ix (q_var rfl (pv 1)) (q_int rfl) (fun _ _ => rfl)) (qa_nil rfl)))))))) h (fun ds k kx h => by rw [lnoq_without_tries ds k kx h]; decide) (fun ds k kx h => ?_)
  obtain ⟨t1, p1, t2, p2, rfl, b1, b2, hk⟩ := h
  repeat tb_rel
  refine while_m (fun m e => ∃ a pa b pb u2, e = [.val (tupI [a, pa]), .val (tupI [b, pb]), u2] ∧ m = b.natAbs ∧ WTs t1 p1 t2 p2 a pa b pb ∧ a.natAbs ≤ 1000000 ∧ b.natAbs ≤ 1000000) (m := t2.natAbs) ⟨t1, p1, t2, p2, _, rfl, rfl, ⟨fun x y d => Iff.rfl, rfl, .inl ⟨rfl, rfl, rfl, rfl⟩⟩, b1, b2⟩ ?_
  rintro m e ⟨a, pa, b, pb, u2, rfl, rfl, w, a0, b0⟩ nx hn
  repeat tb_rel
  by_cases c : b = 0
  · subst c
    repeat tb_rel
    exact hk _ _ _ w.done
  · have f1 := fmod_lt (a := a) c
    have f2 := fdiv_le (a := a) c
    repeat tb_rel
    refine o_IC ⟨c, by omega⟩ ?_
    generalize hq : a.fdiv b = q at *
    repeat tb_rel
    have ws := w.step c
    rw [hq] at ws
    exact hn _ _ f1 ⟨b, pb, a - q * b, pa - q * pb, _, rfl, rfl, ws, by omega, by omega⟩
end
end Myk33

namespace Myk33
open PySem L2 My EnT Pl
section
-- an environment written out
local macro_rules | `(tactic| nest_cls) => `(tactic| with_unfolding_all (repeat (first | exact Nf.nil | apply Nf.cons)))
-- side conditions over values
local macro_rules | `(tactic| leaf_len) => `(tactic| first
  | (with_reducible rfl)
  | (with_reducible assumption)
  | rfl
  | omega
  | ((with_reducible show _ ≤ sizeLine); first | exact szL (by first | decide | (simp; done) | (simp; omega)) | exact szL (by omega) | decide)
  | ((with_reducible show _ < sizeLine); first | exact szK (by first | decide | (simp; done) | (simp; omega)) | exact szK (by omega) | decide)
  | ((with_reducible show CMul _ _ ∨ _); first | exact .inl (CMul.l (by omega) (by omega)) | exact .inl (CMul.r (by omega) (by omega)) | exact .inr (CMulW.of (by omega) (by omega)))
  | ((with_reducible show CMul _ _); first | exact CMul.l (by omega) (by omega) | exact CMul.r (by omega) (by omega))
  | ((with_reducible show CDivW _ _); exact CDivW.of (by omega) (by omega))
  | ((with_reducible show CPow _ _); exact ⟨by decide, by decide, by decide⟩)
  | ((with_reducible show small _); unfold small; omega)
  | ((with_reducible show ∀ K, PySem.W.kitOne K _ _ = some _); first | exact fun _ => kit_ty (r := true) (by decide +kernel) | exact fun _ => kit_ty (r := false) (by decide +kernel))
  | decide)
-- a step over values
local macro_rules | `(tactic| tb_rel) => `(tactic| first
  | (with_reducible refine i_sqN (by nest_cls) ?_)
  | (with_reducible first
    | refine i_sq ?_ | refine i_set ?_ | refine i_stV ?_ | refine i_stO ?_ | refine i_nx ?_
    | refine i_c ?_ | refine i_bin ?_ | refine i_wV ?_ | refine i_wT ?_ | refine i_test ?_ | refine i_tb ?_ | refine i_tru ?_ | refine i_truB ?_
    | refine iteT ?_ | refine iteF ?_
    | refine o_addI ?_ | refine o_I0 ?_ | refine o_B0 ?_ | refine o_eqI ?_ | refine o_neI ?_ | refine o_iaddI ?_
    | refine i_aCons ?_ | refine i_aNil ?_ | refine i_call ?_
    | refine i_if ?_ | refine i_ret ?_ | refine i_rt ?_ | refine i_retN ?_ | refine i_next ?_ | refine i_drop ?_ | refine i_break ?_ | refine i_cont ?_ | refine i_bk ?_ | refine i_ct ?_
    | refine i_andT ?_ | refine i_orT ?_ | refine i_notT ?_ | refine i_andV ?_ | refine i_orV ?_ | refine i_notV ?_ | refine i_ifE ?_
    | refine i_tup ?_ | refine i_lst ?_ | refine i_un ?_ | refine i_ei ?_ | refine i_eb ?_
    | refine i_cB ?_ | refine i_make ?_ | refine i_makeO ?_ | refine i_fld ?_ | refine i_chain ?_ | refine i_for ?_ | refine i_iseq ?_ | refine i_irg1 ?_ | refine i_irg2 ?_ | refine i_ien ?_ | refine i_lc ?_ | refine i_yes ?_ | refine i_lrg ?_ | refine i_index ?_
    | refine i_asg ?_ | refine i_par ?_ | refine i_gname ?_ | refine i_gnil ?_ | refine i_gconsM ?_ | refine i_gnilM ?_ | refine i_gcons ?_
    | refine i_sl ?_ | refine i_noP ?_ | refine i_part ?_ | refine i_slL ?_ | refine i_slT ?_
    | refine i_raise0 ?_ | refine i_raise1 ?_ | refine i_dict0 ?_ | refine i_disp1 ?_ | refine i_dget2 ?_ | refine i_keyI ?_ | refine i_keyS ?_ | refine i_isDK ?_ | refine i_isDT ?_ | refine o_din' ?_ | refine o_dix' ?_ | refine i_dgZ ?_ | refine i_dgI ?_ | refine i_dc ?_ | refine i_dgS ?_ | refine i_try ?_
    | refine f_lenE ?_ | refine f_lenI ?_ | refine f_lenM ?_ | refine f_lenL ?_ | refine f_lenT ?_ | refine f_intI ?_ | refine f_intB ?_ | refine f_absI ?_ | refine f_tupL ?_ | refine f_tupT ?_ | refine f_lstL ?_ | refine f_lstT ?_ | refine f_gcdI ?_ | refine i_isC ?_ | refine i_isCM ?_ | refine o_neE ?_
    | refine o_ixP0 ?_ | refine o_ixS0 ?_ | refine o_ixS1 ?_ | refine f_lenTI' ?_ | refine o_ixP1 ?_ | refine o_inT ?_ | refine o_ninT ?_
    | refine o_isN ?_ | refine o_isnN ?_ | refine o_isB ?_ | refine o_isnB ?_
    | refine loop_nil ?_
    | refine i_truL ?_ | refine i_truT ?_ | refine i_truI ?_)
  | (with_reducible refine i_var (by with_unfolding_all rfl) ?_)
  | (with_reducible refine i_callU (by with_unfolding_all rfl) (by with_unfolding_all rfl) ?_)
  | ((with_reducible refine o_IC ?_ ?_); · leaf_len)
  | ((with_reducible refine o_mulI ?_ ?_); · leaf_len)
  | (with_reducible refine i_varO (by with_unfolding_all rfl) ?_)
  | (with_reducible refine i_wN (by with_unfolding_all rfl) ?_)
  | (with_reducible refine i_gtup (by with_unfolding_all rfl) (by with_unfolding_all rfl) ?_)
  | (with_reducible refine i_aug (by with_unfolding_all rfl) ?_)
  | (with_reducible refine i_mb rfl (by with_unfolding_all rfl) ?_)
  | (with_reducible refine i_mb0 rfl (by with_unfolding_all rfl) ?_)
  | ((with_reducible refine m_appI ?_ ?_); · leaf_len)
  | ((with_reducible refine m_app ?_ ?_); · leaf_len)
  | (with_reducible refine i_dcZ (by with_unfolding_all rfl) (fun _ _ => ?_))
  | (with_reducible refine i_setDcZ (by with_unfolding_all rfl) (fun _ _ => ?_))
  | (with_reducible refine i_setD (by with_unfolding_all rfl) ?_)
  | (with_reducible refine i_dgT (by with_unfolding_all rfl) ?_)
  | ((with_reducible refine i_dpI ?_ ?_); · leaf_len)
  | ((with_reducible show ∃ d, _ = some (Sl.own d) ∧ _); refine ⟨_, rfl, ?_⟩)
  | (with_reducible refine i_setL (by with_unfolding_all rfl) ?_)
  | (with_reducible refine i_augL (by with_unfolding_all rfl) ?_)
  | (with_reducible refine i_setF (by with_unfolding_all rfl) ?_)
  | (with_reducible refine i_stN (by with_unfolding_all rfl) ?_)
  | ((with_reducible refine o_ix0 ?_ ?_); · first | assumption | exact four_getD (by assumption) (by assumption) (by assumption))
  | ((with_reducible refine o_ix1 ?_ ?_); · first | assumption | exact four_getD (by assumption) (by assumption) (by assumption))
  | ((with_reducible refine o_ixEv ?_ ?_ ?_ ?_); (· assumption); (· first | assumption | omega); (· first | assumption | omega))
  | ((with_reducible refine o_mulL ?_ ?_ ?_); (· omega); (· omega))
  | ((with_reducible refine o_addTI ?_ ?_); · omega)
  | ((with_reducible refine o_addT ?_ ?_); · leaf_len)
  | ((with_reducible refine o_addL ?_ ?_); · leaf_len)
  | ((with_reducible refine isi_int ?_ ?_); · first | assumption | exact ⟨_, rfl⟩)
  | ((with_reducible refine isi_bool ?_ ?_); · first | assumption | exact ⟨_, rfl⟩)
  | ((with_reducible refine isi_tup ?_ ?_); · first | assumption | exact ⟨_, rfl⟩)
  | ((with_reducible refine isi_lst ?_ ?_); · first | assumption | exact ⟨_, rfl⟩)
  | ((with_reducible refine isi_str ?_ ?_); · first | assumption | exact ⟨_, rfl⟩)
  | ((with_reducible refine iteTb ?_ ?_); · exact rfl)
  | ((with_reducible refine iteFb ?_ ?_); · exact rfl)
  | ((with_reducible refine iteTb ?_ ?_); · assumption)
  | ((with_reducible refine iteFb ?_ ?_); · assumption)
  | (with_reducible refine i_aft (by with_unfolding_all rfl) ?_)
  | ((with_reducible refine iteDT ?_ ?_); · first | assumption | omega)
  | ((with_reducible refine iteDF ?_ ?_); · first | assumption | omega)
  | ((with_reducible refine iteNT ?_ ?_); · first | assumption | omega)
  | ((with_reducible refine iteNF ?_ ?_); · first | assumption | omega)
  | ((with_reducible show ∃ ds, dsO _ _ = some ds ∧ _); refine ⟨_, rfl, ?_⟩)
  | ((with_reducible show ∃ s, RV.out _ _ = some s ∧ _); refine ⟨_, rfl, ?_⟩)
  | ((with_reducible show ∃ ds d, dsO _ _ = some ds ∧ _); refine ⟨_, _, rfl, rfl, ?_⟩)
  | ((with_reducible show ∃ d, dsO _ _ = some [d] ∧ _); refine ⟨_, rfl, ?_⟩)
  | ((with_reducible show ∃ y, RV.d _ _ = some y ∧ _); refine ⟨_, rfl, ?_⟩)
  | ((with_reducible show ∃ (y : D) (fs : List (Str × D)), RV.d _ _ = some y ∧ _); refine ⟨_, _, rfl, rfl, by first | exact putD_lt (by decide) | decide, ?_⟩)
  | ((with_reducible show ∃ ds, seqD _ = some ds ∧ _); refine ⟨_, rfl, ?_⟩)
  | ((with_reducible show ∃ d e, dsO _ _ = some [d, e] ∧ _); refine ⟨_, _, rfl, ?_⟩)
  | ((with_reducible show ∃ (fs : List (Str × D)) (y : D), D.ins _ _ = .ins _ fs ∧ _); refine ⟨_, _, rfl, rfl, ?_⟩)
  | ((with_reducible show ∃ (fs : List (Str × D)) (y : D), machD _ _ _ = .ins _ fs ∧ _); refine ⟨_, _, rfl, rfl, ?_⟩)
  | ((with_reducible show _ ≤ sizeLine ∧ _); refine ⟨?_, ?_⟩; · leaf_len)
  | ((with_reducible show _ < sizeLine ∧ _); refine ⟨?_, ?_⟩; · leaf_len))

variable {P : Program} {w : World} {K : PySem.W.Frag} {mg : Str → Option Value} {base : Heap} {A : Ad}
/-- the way to a standing -/
def wayOf (ps : List (Int × List Int)) (v : Int) : List Int := ((ps.find? fun p => decide (p.1 = v)).map (·.2)).getD []
theorem wayOf_get {v : Int} : ∀ {ps : List (Int × List Int)}, v ∈ ps.map Prod.fst → (v, wayOf ps v) ∈ ps ∧ vD (wyD ps) (Sum.inl v) = some (tupI (wayOf ps v))
  | [], h => by cases h
  | p :: ps, h => by
    by_cases c : p.1 = v
    · have e : wayOf (p :: ps) v = p.2 := by unfold wayOf; rw [List.find?_cons, decide_eq_true c]; rfl
      rw [e]
      refine ⟨by rw [← c]; simp, ?_⟩
      exact vD_pos (p := ((Sum.inl p.1 : Key), tupI p.2)) (congrArg Sum.inl c)
    · have h' : v ∈ ps.map Prod.fst := by
        rw [List.map_cons] at h
        rcases List.mem_cons.mp h with h | h
        · exact absurd h.symm c
        · exact h
      obtain ⟨h1, h2⟩ := wayOf_get h'
      have e : wayOf (p :: ps) v = wayOf ps v := by unfold wayOf; rw [List.find?_cons, decide_eq_false c]
      rw [e]
      refine ⟨by simp [h1], ?_⟩
      rw [← h2]
      exact vD_neg (p := ((Sum.inl p.1 : Key), tupI p.2)) (fun z => c (Sum.inl.inj z))
/-- a dict told by its keys -/
def fnD (f : Int → D) (ks : List Int) : List (Key × D) := ks.map fun k => (Sum.inl k, f k)
theorem fnD_get {f : Int → D} {v : Int} : ∀ {ks : List Int}, v ∈ ks → vD (fnD f ks) (Sum.inl v) = some (f v)
  | [], h => by cases h
  | k :: ks, h => by
    by_cases c : k = v
    · subst c
      exact vD_pos (p := ((Sum.inl k : Key), f k)) rfl
    · have h' : v ∈ ks := by
        rcases List.mem_cons.mp h with h | h
        · exact absurd h.symm c
        · exact h
      rw [← fnD_get h']
      exact vD_neg (p := ((Sum.inl k : Key), f k)) (fun z => c (Sum.inl.inj z))
theorem fnD_none {f : Int → D} {v : Int} : ∀ {ks : List Int}, v ∉ ks → vD (fnD f ks) (Sum.inl v) = none
  | [], _ => rfl
  | k :: ks, h => by
    have c : ¬ k = v := fun z => h (by rw [z]; simp)
    show vD (((Sum.inl k : Key), f k) :: fnD f ks) _ = _
    rw [vD_neg (p := ((Sum.inl k : Key), f k)) (fun z => c (Sum.inl.inj z))]
    exact fnD_none fun z => h (by simp [z])
theorem fnD_new {f : Int → D} {v : Int} {ks : List Int} (h : v ∉ ks) : pD (fnD f ks) (Sum.inl v) (f v) = fnD f (ks ++ [v]) := by
  rw [pD_new (fnD_none h)]
  unfold fnD
  rw [List.map_append]
  rfl
/-- tries and points of the way to a standing -/
abbrev totD (evs : List (List Int)) (ps : List (Int × List Int)) (v : Int) : D := tupI [sumT evs (wayOf ps v), sumP evs (wayOf ps v)]
/-- what an event adds to a round -/
def rpT (evs : List (List Int)) (ps : List (Int × List Int)) (g : Int) : Int := sumT evs (wayOf ps (evB (evs.getD g.toNat []))) + evT (evs.getD g.toNat []) - sumT evs (wayOf ps (evA (evs.getD g.toNat [])))
def rpP (evs : List (List Int)) (ps : List (Int × List Int)) (g : Int) : Int := sumP evs (wayOf ps (evB (evs.getD g.toNat []))) + evP (evs.getD g.toNat []) - sumP evs (wayOf ps (evA (evs.getD g.toNat [])))
def Shut (evs : List (List Int)) (nums : List Int) (ps : List (Int × List Int)) : Prop := ∀ k ∈ ps.map Prod.fst, ∀ g ∈ nums, evB (evs.getD g.toNat []) = k → evA (evs.getD g.toNat []) ∈ ps.map Prod.fst
def S_round (C : Addr) : QSpec := fun ds k _ => ∃ n evs nums s, ds = [machD C n evs, lstI nums, .int s] ∧ 1 ≤ n ∧ n ≤ 60 ∧ evs.length ≤ 1000 ∧ (∀ e ∈ evs, okEv n e) ∧ (∀ g ∈ nums, 0 ≤ g ∧ g < (evs.length : Int)) ∧ nums.length ≤ 1000 ∧ 0 ≤ s ∧ s < n ∧
  (∀ ps, Way evs n nums s ps → Shut evs nums ps → ∀ g ∈ nums, evB (evs.getD g.toNat []) ∈ ps.map Prod.fst) ∧
  ∀ ps, Way evs n nums s ps → Shut evs nums ps → k (.tmp (.lst (nums.map fun g => tupI [rpT evs ps g, rpP evs ps g])))
theorem lnoq_round_pairs : ∀ ds k kx, (S_round A.C_Machine : QSpec) ds k kx → ds.length = 3 := by
  intro ds k kx h
  obtain ⟨n, evs, nums, s, rfl, n1, n6, hl, ok, hin, hnl, s0, s1, hcov, hk⟩ := h
  rfl
theorem oq_round_pairs (T : Txt K mg A) : FnOk P w K mg base (L2.CX P w) 2 A.f_round_pairs A.d_round_pairs ["machine", "numbers", "start"] (spP K (S_round A.C_Machine)) := by
  refine T.F_round_pairs.okX sc_round_pairs (spP_len (lnoq_round_pairs (A := A))) (fun cdv A1 outer s H vs Q E hr h => ?_)
  refine def_run (N := ["machine", "numbers", "start", "found", "standing", "sums", "pairs", "number", "before", "after", "tries", "points"]) (p := _) (fun kx => (qss_cons (qs_set (i := 3) sc_round_pairs.nd rfl (Or.inr rfl) (q_call (oq_ways T) (hr.mono (by decide)) (by rfl) T.m_ways T.F_ways.kp T.B_ways (takes_of rfl rfl rfl rfl) (qa_cons (q_var rfl (pv 0)) (qa_cons (q_var rfl (pv 1)) (qa_cons (q_var rfl (pv 2)) (qa_nil rfl))))))
      (qss_cons (qs_setDcZ (i := 5) (own := [("standing", 4)]) rfl rfl sc_round_pairs.nd rfl rfl (sw_trueD rfl rfl rfl (by decide +kernel)) (pv 3) (blkOk_by (N := ["machine", "numbers", "start", "found", "standing", "sums", "pairs", "number", "before", "after", "tries", "points"]) (sc := defScope s_round_pairs) (by decide +kernel)) (fun _ _ _ _ _ => by exact (qg_name (i := 4) rfl sc_round_pairs.nd rfl (Or.inl rfl))) (fun _ _ _ _ _ => by exact (qts_nil rfl)) (fun _ _ _ _ _ => by exact (q_var rfl (pv 4))) (fun _ _ _ _ _ => by exact (q_call (oq_total T) (hr.mono (by decide)) (by rfl) T.m_total T.F_total.kp T.B_total takes0 (qa_cons (q_var rfl (pv 0)) (qa_cons (q_dix (hu1D hr) (q_var rfl (pv 3)) (q_var rfl (pv 4)) (fun _ _ => rfl)) (qa_nil rfl))))) (by decide))
      (qss_cons (qs_set (i := 6) sc_round_pairs.nd rfl (Or.inl rfl) (q_lst (qa_nil rfl)))
      (qss_cons (qs_for (passes_of rfl) rfl (qi_seq (q_var rfl (pv 1))) (qg_name (i := 7) rfl sc_round_pairs.nd rfl (Or.inl rfl))
        (qss_cons (qs_asg (q_ix (q_fld T.cl_Machine T.n_events (q_var rfl (pv 0)) (by rfl)) (q_var rfl (pv 7)) (fun _ _ => rfl)) (qg_tup 4 rfl (qgs_cons (qg_name (i := 8) rfl sc_round_pairs.nd rfl (Or.inl rfl)) (qgs_cons (qg_name (i := 9) rfl sc_round_pairs.nd rfl (Or.inl rfl)) (qgs_cons (qg_name (i := 10) rfl sc_round_pairs.nd rfl (Or.inl rfl)) (qgs_cons (qg_name (i := 11) rfl sc_round_pairs.nd rfl (Or.inl rfl)) (qgs_nil rfl))))) rfl rfl))
      (qss_one (qs_expr (q_mb (qa_cons (q_tup (qa_cons (q_sub (q_add (q_ix (q_dix (hu1D hr) (q_var rfl (pv 5)) (q_var rfl (pv 8)) (fun _ _ => rfl)) (q_int rfl) (fun _ _ => rfl)) (q_var rfl (pv 10))) (q_ix (q_dix (hu1D hr) (q_var rfl (pv 5)) (q_var rfl (pv 9)) (fun _ _ => rfl)) (q_int rfl) (fun _ _ => rfl))) (qa_cons (q_sub (q_add (q_ix (q_dix (hu1D hr) (q_var rfl (pv 5)) (q_var rfl (pv 8)) (fun _ _ => rfl)) (q_int rfl) (fun _ _ => rfl)) (q_var rfl (pv 11))) (q_ix (q_dix (hu1D hr) (q_var rfl (pv 5)) (q_var rfl (pv 9)) (fun _ _ => rfl)) (q_int rfl) (fun _ _ => rfl))) (qa_nil rfl)))) (qa_nil rfl)) (fun h => pe_bm PySem.F.plainAttrs_list PySem.F.slot_list_append PySem.F.type_list_append mt_append (pv 6) h) sim_append)))))
      (qss_one (qs_ret (q_var rfl (pv 6))))))))) h (fun ds k kx h => by rw [lnoq_round_pairs ds k kx h]; decide) (fun ds k kx h => ?_)
  obtain ⟨n, evs, nums, s, rfl, n1, n6, hl, ok, hin, hnl, s0, s1, hcov, hk⟩ := h
  have f4 := four_all ok
  repeat tb_rel
  refine ⟨n, evs, nums, s, rfl, n1, n6, hl, ok, hin, hnl, s0, s1, fun ps wy sh => ?_⟩
  have cov := hcov ps wy sh
  have hk := hk ps wy sh
  have hps := wy.cnt (by omega)
  repeat tb_rel
  refine dcl_p (by nest_cls) rfl (fun j acc => acc = fnD (totD evs ps) ((ps.map Prod.fst).take j)) rfl ?_ ?_
  · rintro j d acc hj rfl nx2 hn2
    obtain ⟨p, hp, rfl⟩ : ∃ p, ps[j]? = some p ∧ d = .int p.1 := by
      rw [List.getElem?_map] at hj
      unfold wyD at hj
      rw [List.getElem?_map] at hj
      cases q : ps[j]? with
      | none => rw [q] at hj; cases hj
      | some p => rw [q] at hj; exact ⟨p, rfl, (Option.some.inj hj).symm⟩
    have hpm := List.mem_of_getElem? hp
    have hv : p.1 ∈ ps.map Prod.fst := List.mem_map.mpr ⟨p, hpm, rfl⟩
    obtain ⟨w1, w2⟩ := wayOf_get hv
    obtain ⟨y1, y2⟩ := wy.way _ w1
    have ys := wy.short (by omega) w1
    have ys : (wayOf ps p.1).length ≤ n.toNat := ys
    have jl := (List.getElem?_eq_some_iff.mp hp).1
    have fl : (fnD (totD evs ps) ((ps.map Prod.fst).take j)).length ≤ 1000 := by unfold fnD; rw [List.length_map, List.length_take, List.length_map]; omega
    repeat tb_rel
    refine ⟨_, _, rfl, rfl, ?_⟩
    repeat tb_rel
    refine ⟨_, w2, ?_⟩
    repeat tb_rel
    refine ⟨n, evs, _, rfl, f4, fun g hg => hin g (y2 g hg), by omega, ?_⟩
    repeat tb_rel
    have hj1 : (ps.map Prod.fst)[j]? = some p.1 := by rw [List.getElem?_map, hp]; rfl
    have nd : p.1 ∉ (ps.map Prod.fst).take j := fun z => by
      have h1 : ((ps.map Prod.fst).take (j + 1)).Nodup := wy.nd.sublist (List.take_sublist _ _)
      rw [take_succ hj1, List.nodup_append] at h1
      exact h1.2.2 _ z _ (List.mem_singleton.mpr rfl) rfl
    have q := hn2 _ rfl
    rw [take_succ hj1, ← fnD_new nd] at q
    exact q
  · intro acc hacc
    rw [List.length_map, wyD_nil_len, List.take_of_length_le (by rw [List.length_map]; exact Nat.le_refl _)] at hacc
    subst hacc
    repeat tb_rel
    refine loop_inv (fun j e => ∃ u4 u7 u8 u9 u10 u11, e = [.val (machD A.C_Machine n evs), .val (lstI nums), .val (.int s), .own (.dK (wyD ps)), u4, .own (.dK (fnD (totD evs ps) (ps.map Prod.fst))), .own (.lst ((nums.take j).map fun g => tupI [rpT evs ps g, rpP evs ps g])), u7, u8, u9, u10, u11]) ⟨_, _, _, _, _, _, rfl⟩ ?_ ?_
    · rintro j d e hd ⟨u4, u7, u8, u9, u10, u11, rfl⟩ nx hn hx
      obtain ⟨g, hg, rfl⟩ := mapD_get hd
      have gm := List.mem_of_getElem? hg
      obtain ⟨g0, g1⟩ := hin g gm
      obtain ⟨b, a, t, p, _, ee⟩ := four_at f4 g0 g1
      have cb := cov g gm
      have ca := sh _ cb g gm rfl
      rw [ee] at cb ca
      have cb : b ∈ ps.map Prod.fst := cb
      have ca : a ∈ ps.map Prod.fst := ca
      have eT : rpT evs ps g = sumT evs (wayOf ps b) + t - sumT evs (wayOf ps a) := by unfold rpT; rw [ee]; rfl
      have eP : rpP evs ps g = sumP evs (wayOf ps b) + p - sumP evs (wayOf ps a) := by unfold rpP; rw [ee]; rfl
      have jl := (List.getElem?_eq_some_iff.mp hg).1
      have rl : ((nums.take j).map fun g => tupI [rpT evs ps g, rpP evs ps g]).length ≤ 1000 := by rw [List.length_map, List.length_take]; omega
      repeat tb_rel
      rw [ee]
      repeat tb_rel
      refine ⟨_, fnD_get cb, ?_⟩
      repeat tb_rel
      refine ⟨_, fnD_get ca, ?_⟩
      repeat tb_rel
      refine ⟨_, fnD_get cb, ?_⟩
      repeat tb_rel
      refine ⟨_, fnD_get ca, ?_⟩
      repeat tb_rel
      have q := fun u4 u7 u8 u9 u10 u11 => hn _ ⟨u4, u7, u8, u9, u10, u11, rfl⟩
      rw [take_succ hg, List.map_append, List.map_cons, List.map_nil, eT, eP] at q
      exact q _ _ _ _ _ _
    · rintro e ⟨u4, u7, u8, u9, u10, u11, rfl⟩
      rw [List.length_map, List.take_length]
      repeat tb_rel
      try exact hk
end
end Myk33

namespace Myk33
open PySem L2 My EnT Pl
section
-- an environment written out
local macro_rules | `(tactic| nest_cls) => `(tactic| with_unfolding_all (repeat (first | exact Nf.nil | apply Nf.cons)))
-- side conditions over values
local macro_rules | `(tactic| leaf_len) => `(tactic| first
  | (with_reducible rfl)
  | (with_reducible assumption)
  | rfl
  | omega
  | ((with_reducible show _ ≤ sizeLine); first | exact szL (by first | decide | (simp; done) | (simp; omega)) | exact szL (by omega) | decide)
  | ((with_reducible show _ < sizeLine); first | exact szK (by first | decide | (simp; done) | (simp; omega)) | exact szK (by omega) | decide)
  | ((with_reducible show CMul _ _ ∨ _); first | exact .inl (CMul.l (by omega) (by omega)) | exact .inl (CMul.r (by omega) (by omega)) | exact .inr (CMulW.of (by omega) (by omega)))
  | ((with_reducible show CMul _ _); first | exact CMul.l (by omega) (by omega) | exact CMul.r (by omega) (by omega))
  | ((with_reducible show CDivW _ _); exact CDivW.of (by omega) (by omega))
  | ((with_reducible show CPow _ _); exact ⟨by decide, by decide, by decide⟩)
  | ((with_reducible show small _); unfold small; omega)
  | ((with_reducible show ∀ K, PySem.W.kitOne K _ _ = some _); first | exact fun _ => kit_ty (r := true) (by decide +kernel) | exact fun _ => kit_ty (r := false) (by decide +kernel))
  | decide)
-- a step over values
local macro_rules | `(tactic| tb_rel) => `(tactic| first
  | (with_reducible refine i_sqN (by nest_cls) ?_)
  | (with_reducible first
    | refine i_sq ?_ | refine i_set ?_ | refine i_stV ?_ | refine i_stO ?_ | refine i_nx ?_
    | refine i_c ?_ | refine i_bin ?_ | refine i_wV ?_ | refine i_wT ?_ | refine i_test ?_ | refine i_tb ?_ | refine i_tru ?_ | refine i_truB ?_
    | refine iteT ?_ | refine iteF ?_
    | refine o_addI ?_ | refine o_I0 ?_ | refine o_B0 ?_ | refine o_eqI ?_ | refine o_neI ?_ | refine o_iaddI ?_
    | refine i_aCons ?_ | refine i_aNil ?_ | refine i_call ?_
    | refine i_if ?_ | refine i_ret ?_ | refine i_rt ?_ | refine i_retN ?_ | refine i_next ?_ | refine i_drop ?_ | refine i_break ?_ | refine i_cont ?_ | refine i_bk ?_ | refine i_ct ?_
    | refine i_andT ?_ | refine i_orT ?_ | refine i_notT ?_ | refine i_andV ?_ | refine i_orV ?_ | refine i_notV ?_ | refine i_ifE ?_
    | refine i_tup ?_ | refine i_lst ?_ | refine i_un ?_ | refine i_ei ?_ | refine i_eb ?_
    | refine i_cB ?_ | refine i_make ?_ | refine i_makeO ?_ | refine i_fld ?_ | refine i_chain ?_ | refine i_for ?_ | refine i_iseq ?_ | refine i_irg1 ?_ | refine i_irg2 ?_ | refine i_ien ?_ | refine i_lc ?_ | refine i_yes ?_ | refine i_lrg ?_ | refine i_index ?_
    | refine i_asg ?_ | refine i_par ?_ | refine i_gname ?_ | refine i_gnil ?_ | refine i_gconsM ?_ | refine i_gnilM ?_ | refine i_gcons ?_
    | refine i_sl ?_ | refine i_noP ?_ | refine i_part ?_ | refine i_slL ?_ | refine i_slT ?_
    | refine i_raise0 ?_ | refine i_raise1 ?_ | refine i_dict0 ?_ | refine i_disp1 ?_ | refine i_dget2 ?_ | refine i_keyI ?_ | refine i_keyS ?_ | refine i_isDK ?_ | refine i_isDT ?_ | refine o_din' ?_ | refine o_dix' ?_ | refine i_dgZ ?_ | refine i_dgI ?_ | refine i_dc ?_ | refine i_dgS ?_ | refine i_try ?_
    | refine f_lenE ?_ | refine f_lenI ?_ | refine f_lenM ?_ | refine f_lenL ?_ | refine f_lenT ?_ | refine f_intI ?_ | refine f_intB ?_ | refine f_absI ?_ | refine f_tupL ?_ | refine f_tupT ?_ | refine f_lstL ?_ | refine f_lstT ?_ | refine f_gcdI ?_ | refine i_isC ?_ | refine i_isCM ?_ | refine o_neE ?_
    | refine o_ixP0 ?_ | refine o_ixS0 ?_ | refine o_ixS1 ?_ | refine f_lenTI' ?_ | refine o_ixP1 ?_ | refine o_inT ?_ | refine o_ninT ?_
    | refine o_isN ?_ | refine o_isnN ?_ | refine o_isB ?_ | refine o_isnB ?_
    | refine loop_nil ?_
    | refine i_truL ?_ | refine i_truT ?_ | refine i_truI ?_)
  | (with_reducible refine i_var (by with_unfolding_all rfl) ?_)
  | (with_reducible refine i_callU (by with_unfolding_all rfl) (by with_unfolding_all rfl) ?_)
  | ((with_reducible refine o_IC ?_ ?_); · leaf_len)
  | ((with_reducible refine o_mulI ?_ ?_); · leaf_len)
  | (with_reducible refine i_varO (by with_unfolding_all rfl) ?_)
  | (with_reducible refine i_wN (by with_unfolding_all rfl) ?_)
  | (with_reducible refine i_gtup (by with_unfolding_all rfl) (by with_unfolding_all rfl) ?_)
  | (with_reducible refine i_aug (by with_unfolding_all rfl) ?_)
  | (with_reducible refine i_mb rfl (by with_unfolding_all rfl) ?_)
  | (with_reducible refine i_mb0 rfl (by with_unfolding_all rfl) ?_)
  | ((with_reducible refine m_appI ?_ ?_); · leaf_len)
  | ((with_reducible refine m_app ?_ ?_); · leaf_len)
  | (with_reducible refine i_dcZ (by with_unfolding_all rfl) (fun _ _ => ?_))
  | (with_reducible refine i_setDcZ (by with_unfolding_all rfl) (fun _ _ => ?_))
  | (with_reducible refine i_setD (by with_unfolding_all rfl) ?_)
  | (with_reducible refine i_dgT (by with_unfolding_all rfl) ?_)
  | ((with_reducible refine i_dpI ?_ ?_); · leaf_len)
  | ((with_reducible show ∃ d, _ = some (Sl.own d) ∧ _); refine ⟨_, rfl, ?_⟩)
  | (with_reducible refine i_setL (by with_unfolding_all rfl) ?_)
  | (with_reducible refine i_augL (by with_unfolding_all rfl) ?_)
  | (with_reducible refine i_setF (by with_unfolding_all rfl) ?_)
  | (with_reducible refine i_stN (by with_unfolding_all rfl) ?_)
  | ((with_reducible refine o_ix0 ?_ ?_); · first | assumption | exact four_getD (by assumption) (by assumption) (by assumption))
  | ((with_reducible refine o_ix1 ?_ ?_); · first | assumption | exact four_getD (by assumption) (by assumption) (by assumption))
  | ((with_reducible refine o_ixEv ?_ ?_ ?_ ?_); (· assumption); (· first | assumption | omega); (· first | assumption | omega))
  | ((with_reducible refine o_mulL ?_ ?_ ?_); (· omega); (· omega))
  | ((with_reducible refine o_addTI ?_ ?_); · omega)
  | ((with_reducible refine o_addT ?_ ?_); · leaf_len)
  | ((with_reducible refine o_addL ?_ ?_); · leaf_len)
  | ((with_reducible refine isi_int ?_ ?_); · first | assumption | exact ⟨_, rfl⟩)
  | ((with_reducible refine isi_bool ?_ ?_); · first | assumption | exact ⟨_, rfl⟩)
  | ((with_reducible refine isi_tup ?_ ?_); · first | assumption | exact ⟨_, rfl⟩)
  | ((with_reducible refine isi_lst ?_ ?_); · first | assumption | exact ⟨_, rfl⟩)
  | ((with_reducible refine isi_str ?_ ?_); · first | assumption | exact ⟨_, rfl⟩)
  | ((with_reducible refine iteTb ?_ ?_); · exact rfl)
  | ((with_reducible refine iteFb ?_ ?_); · exact rfl)
  | ((with_reducible refine iteTb ?_ ?_); · assumption)
  | ((with_reducible refine iteFb ?_ ?_); · assumption)
  | (with_reducible refine i_aft (by with_unfolding_all rfl) ?_)
  | ((with_reducible refine iteDT ?_ ?_); · first | assumption | omega)
  | ((with_reducible refine iteDF ?_ ?_); · first | assumption | omega)
  | ((with_reducible refine iteNT ?_ ?_); · first | assumption | omega)
  | ((with_reducible refine iteNF ?_ ?_); · first | assumption | omega)
  | ((with_reducible show ∃ ds, dsO _ _ = some ds ∧ _); refine ⟨_, rfl, ?_⟩)
  | ((with_reducible show ∃ s, RV.out _ _ = some s ∧ _); refine ⟨_, rfl, ?_⟩)
  | ((with_reducible show ∃ ds d, dsO _ _ = some ds ∧ _); refine ⟨_, _, rfl, rfl, ?_⟩)
  | ((with_reducible show ∃ d, dsO _ _ = some [d] ∧ _); refine ⟨_, rfl, ?_⟩)
  | ((with_reducible show ∃ y, RV.d _ _ = some y ∧ _); refine ⟨_, rfl, ?_⟩)
  | ((with_reducible show ∃ (y : D) (fs : List (Str × D)), RV.d _ _ = some y ∧ _); refine ⟨_, _, rfl, rfl, by first | exact putD_lt (by decide) | decide, ?_⟩)
  | ((with_reducible show ∃ ds, seqD _ = some ds ∧ _); refine ⟨_, rfl, ?_⟩)
  | ((with_reducible show ∃ d e, dsO _ _ = some [d, e] ∧ _); refine ⟨_, _, rfl, ?_⟩)
  | ((with_reducible show ∃ (fs : List (Str × D)) (y : D), D.ins _ _ = .ins _ fs ∧ _); refine ⟨_, _, rfl, rfl, ?_⟩)
  | ((with_reducible show ∃ (fs : List (Str × D)) (y : D), machD _ _ _ = .ins _ fs ∧ _); refine ⟨_, _, rfl, rfl, ?_⟩)
  | ((with_reducible show _ ≤ sizeLine ∧ _); refine ⟨?_, ?_⟩; · leaf_len)
  | ((with_reducible show _ < sizeLine ∧ _); refine ⟨?_, ?_⟩; · leaf_len))

variable {P : Program} {w : World} {K : PySem.W.Frag} {mg : Str → Option Value} {base : Heap} {A : Ad}
theorem gcd_lat (x r q d : Int) : d ∣ x * ((Nat.gcd r.natAbs q.natAbs : Nat) : Int) ↔ d ∣ x * r ∧ d ∣ x * q := by
  rw [← Int.natAbs_dvd_natAbs, ← Int.natAbs_dvd_natAbs, ← Int.natAbs_dvd_natAbs, Int.natAbs_mul, Int.natAbs_mul, Int.natAbs_mul, Int.natAbs_natCast, ← Nat.gcd_mul_left, Nat.dvd_gcd_iff]
theorem gcd_zero {r q : Int} (h : Nat.gcd r.natAbs q.natAbs = 0) : r = 0 ∧ q = 0 := by
  obtain ⟨h1, h2⟩ := Nat.gcd_eq_zero_iff.mp h
  omega
/-- the net so far -/
structure NS (evs : List (List Int)) (ps : List (Int × List Int)) (gs : List Int) (t p r : Int) : Prop where
  lat : ∀ x y d : Int, (d ∣ Lx x y t p ∧ d ∣ x * r) ↔ ∀ g ∈ gs, d ∣ Lx x y (rpT evs ps g) (rpP evs ps g)
  r0 : 0 ≤ r
  tb : t.natAbs ≤ 5000
  tz : t = 0 → p = 0
  rz : r = 0 → p.natAbs ≤ 100000
  rb : r ≤ 2000000000
theorem NS.step {evs : List (List Int)} {ps : List (Int × List Int)} {gs : List Int} {t p r t' p' q g : Int} (h : NS evs ps gs t p r) (bT : (rpT evs ps g).natAbs ≤ 5000) (bP : (rpP evs ps g).natAbs ≤ 100000) (w : WT t p (rpT evs ps g) (rpP evs ps g) t' p' q) :
    NS evs ps (gs ++ [g]) t' p' ((Nat.gcd r.natAbs q.natAbs : Nat) : Int) := by
  have dl : r = 0 → (t * rpP evs ps g - rpT evs ps g * p).natAbs ≤ 1000000000 := fun z => by
    have hp := h.rz z
    have h1 : (t * rpP evs ps g).natAbs ≤ 5000 * 100000 := by rw [Int.natAbs_mul]; exact Nat.mul_le_mul h.tb bP
    have h2 : (rpT evs ps g * p).natAbs ≤ 5000 * 100000 := by rw [Int.natAbs_mul]; exact Nat.mul_le_mul bT hp
    omega
  refine ⟨fun x y d => ?_, by omega, ?_, fun z => ?_, fun z => ?_, ?_⟩
  · rw [gcd_lat]
    have hw := w.lat x y d
    have hl := h.lat x y d
    constructor
    · rintro ⟨h1, h2, h3⟩ k hk
      obtain ⟨a1, a2⟩ := hw.mp ⟨h1, h3⟩
      rcases List.mem_append.mp hk with hk | hk
      · exact hl.mp ⟨a1, h2⟩ k hk
      · rw [List.mem_singleton.mp hk]; exact a2
    · intro hk
      obtain ⟨a1, a2⟩ := hl.mpr fun k hk' => hk k (by simp [hk'])
      obtain ⟨b1, b2⟩ := hw.mpr ⟨a1, hk g (by simp)⟩
      exact ⟨b1, a2, b2⟩
  · by_cases c : rpT evs ps g = 0
    · rw [(w.z c).1]; exact h.tb
    · have := (w.nz c).2.1
      omega
  · by_cases c : rpT evs ps g = 0
    · obtain ⟨e1, e2, _⟩ := w.z c
      rw [e2]
      exact h.tz (by rw [← e1]; exact z)
    · exact absurd z (w.nz c).1
  · obtain ⟨z1, z2⟩ := gcd_zero (by omega : Nat.gcd r.natAbs q.natAbs = 0)
    by_cases c : rpT evs ps g = 0
    · rw [(w.z c).2.1]; exact h.rz z1
    · obtain ⟨n1, n2, n3, n4⟩ := w.nz c
      rw [z2] at n4
      have e0 : (t * rpP evs ps g - rpT evs ps g * p).natAbs = 0 := by rw [← n4]; rfl
      rw [e0, Nat.mul_zero] at n3
      omega
  · by_cases c0 : r = 0
    · rw [c0]
      show ((Nat.gcd 0 q.natAbs : Nat) : Int) ≤ _
      rw [Nat.gcd_zero_left]
      by_cases c : rpT evs ps g = 0
      · rw [(w.z c).2.2]; omega
      · obtain ⟨n1, n2, n3, n4⟩ := w.nz c
        have hd := dl c0
        have h1 : 1 * q.natAbs ≤ t'.natAbs * q.natAbs := Nat.mul_le_mul_right _ (by omega)
        omega
    · have h1 := Nat.gcd_le_left q.natAbs (show 0 < r.natAbs by omega)
      have := h.r0
      have := h.rb
      omega
/-- the form of a net -/
def NForm (nd : List (List Int)) : Prop := nd = [] ∨ (∃ r, 0 < r ∧ nd = [[0, r]]) ∨ (∃ t p, 0 < t ∧ nd = [[t, p]]) ∨ ∃ t p r, 0 < t ∧ 0 ≤ p ∧ p < r ∧ nd = [[t, p], [0, r]]
/-- what a net is -/
structure NetP (evs : List (List Int)) (ps : List (Int × List Int)) (nums : List Int) (nd : List (List Int)) : Prop where
  len : nd.length ≤ 2
  bd : ∀ e ∈ nd, ∃ t p : Int, e = [t, p] ∧ t.natAbs ≤ 5000 ∧ p.natAbs ≤ 2000000000
  lat : ∀ x y d : Int, (∀ e ∈ nd, d ∣ Lx x y (e.getD 0 0) (e.getD 1 0)) ↔ ∀ g ∈ nums, d ∣ Lx x y (rpT evs ps g) (rpP evs ps g)
  form : NForm nd
theorem NS.end0 {evs : List (List Int)} {ps : List (Int × List Int)} {nums : List Int} {r : Int} (h : NS evs ps nums 0 0 r) : NetP evs ps nums (if r = 0 then [] else [[0, r]]) := by
  have e : ∀ x y d : Int, (d ∣ Lx x y 0 0 ∧ d ∣ x * r) ↔ d ∣ x * r := fun x y d => ⟨fun z => z.2, fun z => ⟨by unfold Lx; simp, z⟩⟩
  split
  · next c =>
    refine ⟨by decide, (fun _ h => by cases h), fun x y d => ?_, .inl rfl⟩
    rw [← h.lat x y d, e, c, Int.mul_zero]
    exact ⟨fun _ => Int.dvd_zero d, fun _ e he => by cases he⟩
  · refine ⟨by simp, fun e he => ?_, fun x y d => ?_, .inr (.inl ⟨r, by have := h.r0; omega, rfl⟩)⟩
    · rw [List.mem_singleton.mp he]
      have := h.r0
      have := h.rb
      exact ⟨0, r, rfl, by decide, by omega⟩
    · rw [← h.lat x y d, e]
      constructor
      · intro hh
        have := hh [0, r] (by simp)
        have : d ∣ Lx x y 0 r := this
        unfold Lx at this
        rwa [Int.mul_zero, Int.sub_zero] at this
      · intro hh e he
        rw [List.mem_singleton.mp he]
        show d ∣ Lx x y 0 r
        unfold Lx
        rwa [Int.mul_zero, Int.sub_zero]
theorem lx_neg (x y t p : Int) : Lx x y (-t) (-p) = -(Lx x y t p) := by unfold Lx; grind
theorem NS.neg {evs : List (List Int)} {ps : List (Int × List Int)} {nums : List Int} {t p r : Int} (h : NS evs ps nums t p r) : NS evs ps nums (-t) (-p) r := by
  refine ⟨fun x y d => ?_, h.r0, by rw [Int.natAbs_neg]; exact h.tb, fun z => ?_, fun z => by rw [Int.natAbs_neg]; exact h.rz z, h.rb⟩
  · rw [← h.lat x y d, lx_neg, Int.dvd_neg]
  · rw [h.tz (by omega)]; rfl
theorem NS.end1 {evs : List (List Int)} {ps : List (Int × List Int)} {nums : List Int} {t p : Int} (h : NS evs ps nums t p 0) (t0 : 0 < t) : NetP evs ps nums [[t, p]] := by
  refine ⟨by simp, fun e he => ?_, fun x y d => ?_, .inr (.inr (.inl ⟨t, p, t0, rfl⟩))⟩
  · rw [List.mem_singleton.mp he]
    have := h.rz rfl
    exact ⟨t, p, rfl, h.tb, by omega⟩
  · rw [← h.lat x y d]
    constructor
    · intro hh
      exact ⟨hh [t, p] (by simp), by rw [Int.mul_zero]; exact Int.dvd_zero d⟩
    · rintro ⟨h1, _⟩ e he
      rw [List.mem_singleton.mp he]
      exact h1
theorem NS.end2 {evs : List (List Int)} {ps : List (Int × List Int)} {nums : List Int} {t p r : Int} (h : NS evs ps nums t p r) (t0 : 0 < t) (rn : r ≠ 0) : NetP evs ps nums [[t, p % r], [0, r]] := by
  have r0 := h.r0
  have rb := h.rb
  have m0 := Int.emod_nonneg p rn
  have m1 := Int.emod_lt_of_pos p (show 0 < r by omega)
  refine ⟨by simp, fun e he => ?_, fun x y d => ?_, .inr (.inr (.inr ⟨t, p % r, r, t0, m0, m1, rfl⟩))⟩
  · rcases List.mem_cons.mp he with he | he
    · rw [he]; exact ⟨t, p % r, rfl, h.tb, by omega⟩
    · rw [List.mem_singleton.mp he]; exact ⟨0, r, rfl, by decide, by omega⟩
  · rw [← h.lat x y d]
    have e1 : Lx x y 0 r = x * r := by unfold Lx; rw [Int.mul_zero, Int.sub_zero]
    have e2 : Lx x y t p = Lx x y t (p % r) + (x * r) * (p / r) := by
      have := Int.emod_add_mul_ediv p r
      unfold Lx
      grind
    constructor
    · intro hh
      have a1 : d ∣ Lx x y t (p % r) := hh [t, p % r] (by simp)
      have a2 : d ∣ Lx x y 0 r := hh [0, r] (by simp)
      rw [e1] at a2
      exact ⟨by rw [e2]; exact Int.dvd_add a1 (Int.dvd_mul_of_dvd_left a2), a2⟩
    · rintro ⟨a1, a2⟩ e he
      rcases List.mem_cons.mp he with he | he
      · rw [he]
        show d ∣ Lx x y t (p % r)
        have := Int.dvd_sub a1 (Int.dvd_mul_of_dvd_left (c := p / r) a2)
        rw [e2] at this
        rwa [Int.add_sub_cancel] at this
      · rw [List.mem_singleton.mp he]
        show d ∣ Lx x y 0 r
        rw [e1]; exact a2
end
end Myk33

namespace Myk33
open PySem L2 My EnT Pl
section
-- an environment written out
local macro_rules | `(tactic| nest_cls) => `(tactic| with_unfolding_all (repeat (first | exact Nf.nil | apply Nf.cons)))
-- side conditions over values
local macro_rules | `(tactic| leaf_len) => `(tactic| first
  | (with_reducible rfl)
  | (with_reducible assumption)
  | rfl
  | omega
  | ((with_reducible show _ ≤ sizeLine); first | exact szL (by first | decide | (simp; done) | (simp; omega)) | exact szL (by omega) | decide)
  | ((with_reducible show _ < sizeLine); first | exact szK (by first | decide | (simp; done) | (simp; omega)) | exact szK (by omega) | decide)
  | ((with_reducible show CMul _ _ ∨ _); first | exact .inl (CMul.l (by omega) (by omega)) | exact .inl (CMul.r (by omega) (by omega)) | exact .inr (CMulW.of (by omega) (by omega)))
  | ((with_reducible show CMul _ _); first | exact CMul.l (by omega) (by omega) | exact CMul.r (by omega) (by omega))
  | ((with_reducible show CDivW _ _); exact CDivW.of (by omega) (by omega))
  | ((with_reducible show CPow _ _); exact ⟨by decide, by decide, by decide⟩)
  | ((with_reducible show small _); unfold small; omega)
  | ((with_reducible show ∀ K, PySem.W.kitOne K _ _ = some _); first | exact fun _ => kit_ty (r := true) (by decide +kernel) | exact fun _ => kit_ty (r := false) (by decide +kernel))
  | decide)
-- a step over values
local macro_rules | `(tactic| tb_rel) => `(tactic| first
  | (with_reducible refine i_sqN (by nest_cls) ?_)
  | (with_reducible first
    | refine i_sq ?_ | refine i_set ?_ | refine i_stV ?_ | refine i_stO ?_ | refine i_nx ?_
    | refine i_c ?_ | refine i_bin ?_ | refine i_wV ?_ | refine i_wT ?_ | refine i_test ?_ | refine i_tb ?_ | refine i_tru ?_ | refine i_truB ?_
    | refine iteT ?_ | refine iteF ?_
    | refine o_addI ?_ | refine o_I0 ?_ | refine o_B0 ?_ | refine o_eqI ?_ | refine o_neI ?_ | refine o_iaddI ?_
    | refine i_aCons ?_ | refine i_aNil ?_ | refine i_call ?_
    | refine i_if ?_ | refine i_ret ?_ | refine i_rt ?_ | refine i_retN ?_ | refine i_next ?_ | refine i_drop ?_ | refine i_break ?_ | refine i_cont ?_ | refine i_bk ?_ | refine i_ct ?_
    | refine i_andT ?_ | refine i_orT ?_ | refine i_notT ?_ | refine i_andV ?_ | refine i_orV ?_ | refine i_notV ?_ | refine i_ifE ?_
    | refine i_tup ?_ | refine i_lst ?_ | refine i_un ?_ | refine i_ei ?_ | refine i_eb ?_
    | refine i_cB ?_ | refine i_make ?_ | refine i_makeO ?_ | refine i_fld ?_ | refine i_chain ?_ | refine i_for ?_ | refine i_iseq ?_ | refine i_irg1 ?_ | refine i_irg2 ?_ | refine i_ien ?_ | refine i_lc ?_ | refine i_yes ?_ | refine i_lrg ?_ | refine i_index ?_
    | refine i_asg ?_ | refine i_par ?_ | refine i_gname ?_ | refine i_gnil ?_ | refine i_gconsM ?_ | refine i_gnilM ?_ | refine i_gcons ?_
    | refine i_sl ?_ | refine i_noP ?_ | refine i_part ?_ | refine i_slL ?_ | refine i_slT ?_
    | refine i_raise0 ?_ | refine i_raise1 ?_ | refine i_dict0 ?_ | refine i_disp1 ?_ | refine i_dget2 ?_ | refine i_keyI ?_ | refine i_keyS ?_ | refine i_isDK ?_ | refine i_isDT ?_ | refine o_din' ?_ | refine o_dix' ?_ | refine i_dgZ ?_ | refine i_dgI ?_ | refine i_dc ?_ | refine i_dgS ?_ | refine i_try ?_
    | refine f_lenE ?_ | refine f_lenI ?_ | refine f_lenM ?_ | refine f_lenL ?_ | refine f_lenT ?_ | refine f_intI ?_ | refine f_intB ?_ | refine f_absI ?_ | refine f_tupL ?_ | refine f_tupT ?_ | refine f_lstL ?_ | refine f_lstT ?_ | refine f_gcdI ?_ | refine i_isC ?_ | refine i_isCM ?_ | refine o_neE ?_
    | refine o_ixP0 ?_ | refine o_ixS0 ?_ | refine o_ixS1 ?_ | refine f_lenTI' ?_ | refine o_ixP1 ?_ | refine o_inT ?_ | refine o_ninT ?_
    | refine o_isN ?_ | refine o_isnN ?_ | refine o_isB ?_ | refine o_isnB ?_
    | refine loop_nil ?_
    | refine i_truL ?_ | refine i_truT ?_ | refine i_truI ?_)
  | (with_reducible refine i_var (by with_unfolding_all rfl) ?_)
  | (with_reducible refine i_callU (by with_unfolding_all rfl) (by with_unfolding_all rfl) ?_)
  | ((with_reducible refine o_IC ?_ ?_); · leaf_len)
  | ((with_reducible refine o_mulI ?_ ?_); · leaf_len)
  | (with_reducible refine i_varO (by with_unfolding_all rfl) ?_)
  | (with_reducible refine i_wN (by with_unfolding_all rfl) ?_)
  | (with_reducible refine i_gtup (by with_unfolding_all rfl) (by with_unfolding_all rfl) ?_)
  | (with_reducible refine i_aug (by with_unfolding_all rfl) ?_)
  | (with_reducible refine i_mb rfl (by with_unfolding_all rfl) ?_)
  | (with_reducible refine i_mb0 rfl (by with_unfolding_all rfl) ?_)
  | ((with_reducible refine m_appI ?_ ?_); · leaf_len)
  | ((with_reducible refine m_app ?_ ?_); · leaf_len)
  | (with_reducible refine i_dcZ (by with_unfolding_all rfl) (fun _ _ => ?_))
  | (with_reducible refine i_setDcZ (by with_unfolding_all rfl) (fun _ _ => ?_))
  | (with_reducible refine i_setD (by with_unfolding_all rfl) ?_)
  | (with_reducible refine i_dgT (by with_unfolding_all rfl) ?_)
  | ((with_reducible refine i_dpI ?_ ?_); · leaf_len)
  | ((with_reducible show ∃ d, _ = some (Sl.own d) ∧ _); refine ⟨_, rfl, ?_⟩)
  | (with_reducible refine i_setL (by with_unfolding_all rfl) ?_)
  | (with_reducible refine i_augL (by with_unfolding_all rfl) ?_)
  | (with_reducible refine i_setF (by with_unfolding_all rfl) ?_)
  | (with_reducible refine i_stN (by with_unfolding_all rfl) ?_)
  | ((with_reducible refine o_ix0 ?_ ?_); · first | assumption | exact four_getD (by assumption) (by assumption) (by assumption))
  | ((with_reducible refine o_ix1 ?_ ?_); · first | assumption | exact four_getD (by assumption) (by assumption) (by assumption))
  | ((with_reducible refine o_ixEv ?_ ?_ ?_ ?_); (· assumption); (· first | assumption | omega); (· first | assumption | omega))
  | ((with_reducible refine o_mulL ?_ ?_ ?_); (· omega); (· omega))
  | ((with_reducible refine o_addTI ?_ ?_); · omega)
  | ((with_reducible refine o_addT ?_ ?_); · leaf_len)
  | ((with_reducible refine o_addL ?_ ?_); · leaf_len)
  | ((with_reducible refine isi_int ?_ ?_); · first | assumption | exact ⟨_, rfl⟩)
  | ((with_reducible refine isi_bool ?_ ?_); · first | assumption | exact ⟨_, rfl⟩)
  | ((with_reducible refine isi_tup ?_ ?_); · first | assumption | exact ⟨_, rfl⟩)
  | ((with_reducible refine isi_lst ?_ ?_); · first | assumption | exact ⟨_, rfl⟩)
  | ((with_reducible refine isi_str ?_ ?_); · first | assumption | exact ⟨_, rfl⟩)
  | ((with_reducible refine iteTb ?_ ?_); · exact rfl)
  | ((with_reducible refine iteFb ?_ ?_); · exact rfl)
  | ((with_reducible refine iteTb ?_ ?_); · assumption)
  | ((with_reducible refine iteFb ?_ ?_); · assumption)
  | (with_reducible refine i_aft (by with_unfolding_all rfl) ?_)
  | ((with_reducible refine iteDT ?_ ?_); · first | assumption | omega)
  | ((with_reducible refine iteDF ?_ ?_); · first | assumption | omega)
  | ((with_reducible refine iteNT ?_ ?_); · first | assumption | omega)
  | ((with_reducible refine iteNF ?_ ?_); · first | assumption | omega)
  | ((with_reducible show ∃ ds, dsO _ _ = some ds ∧ _); refine ⟨_, rfl, ?_⟩)
  | ((with_reducible show ∃ s, RV.out _ _ = some s ∧ _); refine ⟨_, rfl, ?_⟩)
  | ((with_reducible show ∃ ds d, dsO _ _ = some ds ∧ _); refine ⟨_, _, rfl, rfl, ?_⟩)
  | ((with_reducible show ∃ d, dsO _ _ = some [d] ∧ _); refine ⟨_, rfl, ?_⟩)
  | ((with_reducible show ∃ y, RV.d _ _ = some y ∧ _); refine ⟨_, rfl, ?_⟩)
  | ((with_reducible show ∃ (y : D) (fs : List (Str × D)), RV.d _ _ = some y ∧ _); refine ⟨_, _, rfl, rfl, by first | exact putD_lt (by decide) | decide, ?_⟩)
  | ((with_reducible show ∃ ds, seqD _ = some ds ∧ _); refine ⟨_, rfl, ?_⟩)
  | ((with_reducible show ∃ d e, dsO _ _ = some [d, e] ∧ _); refine ⟨_, _, rfl, ?_⟩)
  | ((with_reducible show ∃ (fs : List (Str × D)) (y : D), D.ins _ _ = .ins _ fs ∧ _); refine ⟨_, _, rfl, rfl, ?_⟩)
  | ((with_reducible show ∃ (fs : List (Str × D)) (y : D), machD _ _ _ = .ins _ fs ∧ _); refine ⟨_, _, rfl, rfl, ?_⟩)
  | ((with_reducible show _ ≤ sizeLine ∧ _); refine ⟨?_, ?_⟩; · leaf_len)
  | ((with_reducible show _ < sizeLine ∧ _); refine ⟨?_, ?_⟩; · leaf_len))

variable {P : Program} {w : World} {K : PySem.W.Frag} {mg : Str → Option Value} {base : Heap} {A : Ad}
theorem rp_bd {n : Int} {evs : List (List Int)} {nums : List Int} {s : Int} {ps : List (Int × List Int)} (ok : ∀ e ∈ evs, okEv n e) (n1 : 1 ≤ n) (n6 : n ≤ 60) (wy : Way evs n nums s ps) (hin : ∀ g ∈ nums, 0 ≤ g ∧ g < (evs.length : Int)) {g : Int} (gm : g ∈ nums) (cb : evB (evs.getD g.toNat []) ∈ ps.map Prod.fst) (ca : evA (evs.getD g.toNat []) ∈ ps.map Prod.fst) :
    (rpT evs ps g).natAbs ≤ 5000 ∧ (rpP evs ps g).natAbs ≤ 100000 := by
  obtain ⟨g0, g1⟩ := hin g gm
  obtain ⟨t1, t2, t3, t4⟩ := okTP ok g0 g1
  have one : ∀ v, v ∈ ps.map Prod.fst → 0 ≤ sumT evs (wayOf ps v) ∧ sumT evs (wayOf ps v) ≤ 2400 ∧ -24000 ≤ sumP evs (wayOf ps v) ∧ sumP evs (wayOf ps v) ≤ 24000 := fun v hv => by
    obtain ⟨w1, _⟩ := wayOf_get hv
    have ys := wy.short (by omega) w1
    have ys : (wayOf ps v).length ≤ n.toNat := ys
    obtain ⟨b1, b2, b3, b4⟩ := sum_bd ok (wayOf ps v) fun k hk => hin k ((wy.way _ w1).2 k hk)
    omega
  have h1 := one _ cb
  have h2 := one _ ca
  unfold rpT rpP
  omega
def S_netof (C : Addr) : QSpec := fun ds k _ => ∃ n evs nums s, ds = [machD C n evs, lstI nums, .int s] ∧ 1 ≤ n ∧ n ≤ 60 ∧ evs.length ≤ 1000 ∧ (∀ e ∈ evs, okEv n e) ∧ (∀ g ∈ nums, 0 ≤ g ∧ g < (evs.length : Int)) ∧ nums.length ≤ 1000 ∧ 0 ≤ s ∧ s < n ∧
  (∀ ps, Way evs n nums s ps → Shut evs nums ps → ∀ g ∈ nums, evB (evs.getD g.toNat []) ∈ ps.map Prod.fst) ∧
  ∀ ps nd, Way evs n nums s ps → Shut evs nums ps → NetP evs ps nums nd → k (.val (evsD nd))
theorem lnoq_net_of : ∀ ds k kx, (S_netof A.C_Machine : QSpec) ds k kx → ds.length = 3 := by
  intro ds k kx h
  obtain ⟨n, evs, nums, s, rfl, n1, n6, hl, ok, hin, hnl, s0, s1, hcov, hk⟩ := h
  rfl
theorem oq_net_of (T : Txt K mg A) : FnOk P w K mg base (L2.CX P w) 3 A.f_net_of A.d_net_of ["machine", "numbers", "start"] (spP K (S_netof A.C_Machine)) := by
  refine T.F_net_of.okX sc_net_of (spP_len (lnoq_net_of (A := A))) (fun cdv A1 outer s H vs Q E hr h => ?_)
  refine def_run (N := ["machine", "numbers", "start", "first", "rest", "pair", "points", "tries"]) (p := _) (fun kx => (qss_cons (qs_set (i := 3) sc_net_of.nd rfl (Or.inl rfl) (q_tup (qa_cons (q_int rfl) (qa_cons (q_int rfl) (qa_nil rfl)))))
      (qss_cons (qs_set (i := 4) sc_net_of.nd rfl (Or.inl rfl) (q_int rfl))
      (qss_cons (qs_for (passes_of rfl) rfl (qi_seq (q_call (oq_round_pairs T) (hr.mono (by decide)) (by rfl) T.m_round_pairs T.F_round_pairs.kp T.B_round_pairs (takes_of rfl rfl rfl rfl) (qa_cons (q_var rfl (pv 0)) (qa_cons (q_var rfl (pv 1)) (qa_cons (q_var rfl (pv 2)) (qa_nil rfl)))))) (qg_name (i := 5) rfl sc_net_of.nd rfl (Or.inl rfl))
        (qss_cons (qs_asg (q_call (oq_without_tries T) (hr.mono (by decide)) (by rfl) T.m_without_tries T.F_without_tries.kp T.B_without_tries (takes_of rfl rfl rfl rfl) (qa_cons (q_var rfl (pv 3)) (qa_cons (q_var rfl (pv 5)) (qa_nil rfl)))) (qg_tup 2 rfl (qgs_cons (qg_name (i := 3) rfl sc_net_of.nd rfl (Or.inl rfl)) (qgs_cons (qg_name (i := 6) rfl sc_net_of.nd rfl (Or.inl rfl)) (qgs_nil rfl))) rfl rfl))
      (qss_one (qs_set (i := 4) sc_net_of.nd rfl (Or.inl rfl) (q_callF cr_gcd sim_gcd rfl T.m_gcd (qa_cons (q_var rfl (pv 4)) (qa_cons (q_var rfl (pv 6)) (qa_nil rfl))))))))
      (qss_cons (qs_asg (q_var rfl (pv 3)) (qg_tup 2 rfl (qgs_cons (qg_name (i := 7) rfl sc_net_of.nd rfl (Or.inl rfl)) (qgs_cons (qg_name (i := 6) rfl sc_net_of.nd rfl (Or.inl rfl)) (qgs_nil rfl))) rfl rfl))
      (qss_cons (qs_if (qt_cmp1 (c_eq rfl (hu64 hr)) (q_var rfl (pv 7)) (q_int rfl) (nomark _)) (qss_one (qs_ret (q_ifE (qt_tru (q_var rfl (pv 4))) (q_tup (qa_cons (q_tup (qa_cons (q_int rfl) (qa_cons (q_var rfl (pv 4)) (qa_nil rfl)))) (qa_nil rfl))) (q_tup (qa_nil rfl))))) (qss_nil rfl))
      (qss_cons (qs_if (qt_cmp1 c_lt (q_var rfl (pv 7)) (q_int rfl) (nomark _)) (qss_one (qs_par (i := 7) (j := 6) rfl sc_net_of.nd rfl rfl (by decide) rfl rfl (qa_cons (q_neg (q_var rfl (pv 7))) (qa_cons (q_neg (q_var rfl (pv 6))) (qa_nil rfl))) (by rfl))) (qss_nil rfl))
      (qss_cons (qs_if (qt_cmp1 (c_eq rfl (hu64 hr)) (q_var rfl (pv 4)) (q_int rfl) (nomark _)) (qss_one (qs_ret (q_tup (qa_cons (q_tup (qa_cons (q_var rfl (pv 7)) (qa_cons (q_var rfl (pv 6)) (qa_nil rfl)))) (qa_nil rfl))))) (qss_nil rfl))
      (qss_one (qs_ret (q_tup (qa_cons (q_tup (qa_cons (q_var rfl (pv 7)) (qa_cons (q_mod (q_var rfl (pv 6)) (q_var rfl (pv 4))) (qa_nil rfl)))) (qa_cons (q_tup (qa_cons (q_int rfl) (qa_cons (q_var rfl (pv 4)) (qa_nil rfl)))) (qa_nil rfl)))))))))))))) h (fun ds k kx h => by rw [lnoq_net_of ds k kx h]; decide) (fun ds k kx h => ?_)
  obtain ⟨n, evs, nums, s, rfl, n1, n6, hl, ok, hin, hnl, s0, s1, hcov, hk⟩ := h
  repeat tb_rel
  refine ⟨n, evs, nums, s, rfl, n1, n6, hl, ok, hin, hnl, s0, s1, hcov, fun ps wy sh => ?_⟩
  have cov := hcov ps wy sh
  have hk := fun nd => hk ps nd wy sh
  repeat tb_rel
  refine loop_inv (fun j e => ∃ t p r u5 u6 u7, e = [.val (machD A.C_Machine n evs), .val (lstI nums), .val (.int s), .val (tupI [t, p]), .val (.int r), u5, u6, u7] ∧ NS evs ps (nums.take j) t p r) ⟨0, 0, 0, _, _, _, rfl, ⟨fun x y d => ⟨fun _ g hg => by simp at hg, fun _ => ⟨by unfold Lx; simp, by simp⟩⟩, by omega, by decide, fun _ => rfl, fun _ => by decide, by omega⟩⟩ ?_ ?_
  · rintro j d e hd ⟨t, p, r, u5, u6, u7, rfl, ns⟩ nx hn hx
    obtain ⟨g, hg, rfl⟩ := mapD_get hd
    have gm := List.mem_of_getElem? hg
    obtain ⟨bT, bP⟩ := rp_bd ok n1 n6 wy hin gm (cov g gm) (sh _ (cov g gm) g gm rfl)
    have tb := ns.tb
    repeat tb_rel
    refine ⟨t, p, rpT evs ps g, rpP evs ps g, rfl, by omega, by omega, fun t' p' q w => ?_⟩
    repeat tb_rel
    have z := ns.step bT bP w
    rw [← take_succ hg] at z
    exact hn _ ⟨t', p', _, _, _, _, rfl, z⟩
  · rintro e ⟨t, p, r, u5, u6, u7, rfl, ns⟩
    rw [List.length_map, List.take_length] at ns
    repeat tb_rel
    refine iteD (fun c => ?_) (fun c => ?_)
    · have p0 := ns.tz c
      subst c
      subst p0
      have e0 := hk _ ns.end0
      by_cases z : r = 0
      · rw [if_pos z] at e0
        subst z
        repeat tb_rel
        try exact e0
      · rw [if_neg z] at e0
        have hb : (r != 0) = true := by simp [z]
        repeat tb_rel
        try exact e0
    · repeat tb_rel
      refine iteD (fun c2 => ?_) (fun c2 => ?_)
      · have ns' := ns.neg
        repeat tb_rel
        refine iteD (fun c3 => ?_) (fun c3 => ?_)
        · subst c3
          have e0 := hk _ (ns'.end1 (by omega))
          repeat tb_rel
          try exact e0
        · have e0 := hk _ (ns'.end2 (by omega) c3)
          have r1 : 0 < r := by have := ns.r0; omega
          repeat tb_rel
          try exact e0
      · repeat tb_rel
        refine iteD (fun c3 => ?_) (fun c3 => ?_)
        · subst c3
          have e0 := hk _ (ns.end1 (by omega))
          repeat tb_rel
          try exact e0
        · have e0 := hk _ (ns.end2 (by omega) c3)
          have r1 : 0 < r := by have := ns.r0; omega
          repeat tb_rel
          try exact e0
end
end Myk33

namespace Myk33
open PySem L2 My EnT Pl
section
-- an environment written out
local macro_rules | `(tactic| nest_cls) => `(tactic| with_unfolding_all (repeat (first | exact Nf.nil | apply Nf.cons)))
-- side conditions over values
local macro_rules | `(tactic| leaf_len) => `(tactic| first
  | (with_reducible rfl)
  | (with_reducible assumption)
  | rfl
  | omega
  | ((with_reducible show _ ≤ sizeLine); first | exact szL (by first | decide | (simp; done) | (simp; omega)) | exact szL (by omega) | decide)
  | ((with_reducible show _ < sizeLine); first | exact szK (by first | decide | (simp; done) | (simp; omega)) | exact szK (by omega) | decide)
  | ((with_reducible show CMul _ _ ∨ _); first | exact .inl (CMul.l (by omega) (by omega)) | exact .inl (CMul.r (by omega) (by omega)) | exact .inr (CMulW.of (by omega) (by omega)))
  | ((with_reducible show CMul _ _); first | exact CMul.l (by omega) (by omega) | exact CMul.r (by omega) (by omega))
  | ((with_reducible show CDivW _ _); exact CDivW.of (by omega) (by omega))
  | ((with_reducible show CPow _ _); exact ⟨by decide, by decide, by decide⟩)
  | ((with_reducible show small _); unfold small; omega)
  | ((with_reducible show ∀ K, PySem.W.kitOne K _ _ = some _); first | exact fun _ => kit_ty (r := true) (by decide +kernel) | exact fun _ => kit_ty (r := false) (by decide +kernel))
  | decide)
-- a step over values
local macro_rules | `(tactic| tb_rel) => `(tactic| first
  | (with_reducible refine i_sqN (by nest_cls) ?_)
  | (with_reducible first
    | refine i_sq ?_ | refine i_set ?_ | refine i_stV ?_ | refine i_stO ?_ | refine i_nx ?_
    | refine i_c ?_ | refine i_bin ?_ | refine i_wV ?_ | refine i_wT ?_ | refine i_test ?_ | refine i_tb ?_ | refine i_tru ?_ | refine i_truB ?_
    | refine iteT ?_ | refine iteF ?_
    | refine o_addI ?_ | refine o_I0 ?_ | refine o_B0 ?_ | refine o_eqI ?_ | refine o_neI ?_ | refine o_iaddI ?_
    | refine i_aCons ?_ | refine i_aNil ?_ | refine i_call ?_
    | refine i_if ?_ | refine i_ret ?_ | refine i_rt ?_ | refine i_retN ?_ | refine i_next ?_ | refine i_drop ?_ | refine i_break ?_ | refine i_cont ?_ | refine i_bk ?_ | refine i_ct ?_
    | refine i_andT ?_ | refine i_orT ?_ | refine i_notT ?_ | refine i_andV ?_ | refine i_orV ?_ | refine i_notV ?_ | refine i_ifE ?_
    | refine i_tup ?_ | refine i_lst ?_ | refine i_un ?_ | refine i_ei ?_ | refine i_eb ?_
    | refine i_cB ?_ | refine i_make ?_ | refine i_makeO ?_ | refine i_fld ?_ | refine i_chain ?_ | refine i_for ?_ | refine i_iseq ?_ | refine i_irg1 ?_ | refine i_irg2 ?_ | refine i_ien ?_ | refine i_lc ?_ | refine i_yes ?_ | refine i_lrg ?_ | refine i_index ?_
    | refine i_asg ?_ | refine i_par ?_ | refine i_gname ?_ | refine i_gnil ?_ | refine i_gconsM ?_ | refine i_gnilM ?_ | refine i_gcons ?_
    | refine i_sl ?_ | refine i_noP ?_ | refine i_part ?_ | refine i_slL ?_ | refine i_slT ?_
    | refine i_raise0 ?_ | refine i_raise1 ?_ | refine i_dict0 ?_ | refine i_disp1 ?_ | refine i_dget2 ?_ | refine i_keyI ?_ | refine i_keyS ?_ | refine i_isDK ?_ | refine i_isDT ?_ | refine o_din' ?_ | refine o_dix' ?_ | refine i_dgZ ?_ | refine i_dgI ?_ | refine i_dc ?_ | refine i_dgS ?_ | refine i_try ?_
    | refine f_lenE ?_ | refine f_lenI ?_ | refine f_lenM ?_ | refine f_lenL ?_ | refine f_lenT ?_ | refine f_intI ?_ | refine f_intB ?_ | refine f_absI ?_ | refine f_tupL ?_ | refine f_tupT ?_ | refine f_lstL ?_ | refine f_lstT ?_ | refine f_gcdI ?_ | refine i_isC ?_ | refine i_isCM ?_ | refine o_neE ?_
    | refine o_ixP0 ?_ | refine o_ixS0 ?_ | refine o_ixS1 ?_ | refine f_lenTI' ?_ | refine o_ixP1 ?_ | refine o_inT ?_ | refine o_ninT ?_
    | refine o_isN ?_ | refine o_isnN ?_ | refine o_isB ?_ | refine o_isnB ?_
    | refine loop_nil ?_
    | refine i_truL ?_ | refine i_truT ?_ | refine i_truI ?_)
  | (with_reducible refine i_var (by with_unfolding_all rfl) ?_)
  | (with_reducible refine i_callU (by with_unfolding_all rfl) (by with_unfolding_all rfl) ?_)
  | ((with_reducible refine o_IC ?_ ?_); · leaf_len)
  | ((with_reducible refine o_mulI ?_ ?_); · leaf_len)
  | (with_reducible refine i_varO (by with_unfolding_all rfl) ?_)
  | (with_reducible refine i_wN (by with_unfolding_all rfl) ?_)
  | (with_reducible refine i_gtup (by with_unfolding_all rfl) (by with_unfolding_all rfl) ?_)
  | (with_reducible refine i_aug (by with_unfolding_all rfl) ?_)
  | (with_reducible refine i_mb rfl (by with_unfolding_all rfl) ?_)
  | (with_reducible refine i_mb0 rfl (by with_unfolding_all rfl) ?_)
  | ((with_reducible refine m_appI ?_ ?_); · leaf_len)
  | ((with_reducible refine m_app ?_ ?_); · leaf_len)
  | (with_reducible refine i_dcZ (by with_unfolding_all rfl) (fun _ _ => ?_))
  | (with_reducible refine i_setDcZ (by with_unfolding_all rfl) (fun _ _ => ?_))
  | (with_reducible refine i_setD (by with_unfolding_all rfl) ?_)
  | (with_reducible refine i_dgT (by with_unfolding_all rfl) ?_)
  | ((with_reducible refine i_dpI ?_ ?_); · leaf_len)
  | ((with_reducible show ∃ d, _ = some (Sl.own d) ∧ _); refine ⟨_, rfl, ?_⟩)
  | (with_reducible refine i_setL (by with_unfolding_all rfl) ?_)
  | (with_reducible refine i_augL (by with_unfolding_all rfl) ?_)
  | (with_reducible refine i_setF (by with_unfolding_all rfl) ?_)
  | (with_reducible refine i_stN (by with_unfolding_all rfl) ?_)
  | ((with_reducible refine o_ix0 ?_ ?_); · first | assumption | exact four_getD (by assumption) (by assumption) (by assumption))
  | ((with_reducible refine o_ix1 ?_ ?_); · first | assumption | exact four_getD (by assumption) (by assumption) (by assumption))
  | ((with_reducible refine o_ixEv ?_ ?_ ?_ ?_); (· assumption); (· first | assumption | omega); (· first | assumption | omega))
  | ((with_reducible refine o_mulL ?_ ?_ ?_); (· omega); (· omega))
  | ((with_reducible refine o_addTI ?_ ?_); · omega)
  | ((with_reducible refine o_addT ?_ ?_); · leaf_len)
  | ((with_reducible refine o_addL ?_ ?_); · leaf_len)
  | ((with_reducible refine isi_int ?_ ?_); · first | assumption | exact ⟨_, rfl⟩)
  | ((with_reducible refine isi_bool ?_ ?_); · first | assumption | exact ⟨_, rfl⟩)
  | ((with_reducible refine isi_tup ?_ ?_); · first | assumption | exact ⟨_, rfl⟩)
  | ((with_reducible refine isi_lst ?_ ?_); · first | assumption | exact ⟨_, rfl⟩)
  | ((with_reducible refine isi_str ?_ ?_); · first | assumption | exact ⟨_, rfl⟩)
  | ((with_reducible refine iteTb ?_ ?_); · exact rfl)
  | ((with_reducible refine iteFb ?_ ?_); · exact rfl)
  | ((with_reducible refine iteTb ?_ ?_); · assumption)
  | ((with_reducible refine iteFb ?_ ?_); · assumption)
  | (with_reducible refine i_aft (by with_unfolding_all rfl) ?_)
  | ((with_reducible refine iteDT ?_ ?_); · first | assumption | omega)
  | ((with_reducible refine iteDF ?_ ?_); · first | assumption | omega)
  | ((with_reducible refine iteNT ?_ ?_); · first | assumption | omega)
  | ((with_reducible refine iteNF ?_ ?_); · first | assumption | omega)
  | ((with_reducible show ∃ ds, dsO _ _ = some ds ∧ _); refine ⟨_, rfl, ?_⟩)
  | ((with_reducible show ∃ s, RV.out _ _ = some s ∧ _); refine ⟨_, rfl, ?_⟩)
  | ((with_reducible show ∃ ds d, dsO _ _ = some ds ∧ _); refine ⟨_, _, rfl, rfl, ?_⟩)
  | ((with_reducible show ∃ d, dsO _ _ = some [d] ∧ _); refine ⟨_, rfl, ?_⟩)
  | ((with_reducible show ∃ y, RV.d _ _ = some y ∧ _); refine ⟨_, rfl, ?_⟩)
  | ((with_reducible show ∃ (y : D) (fs : List (Str × D)), RV.d _ _ = some y ∧ _); refine ⟨_, _, rfl, rfl, by first | exact putD_lt (by decide) | decide, ?_⟩)
  | ((with_reducible show ∃ ds, seqD _ = some ds ∧ _); refine ⟨_, rfl, ?_⟩)
  | ((with_reducible show ∃ d e, dsO _ _ = some [d, e] ∧ _); refine ⟨_, _, rfl, ?_⟩)
  | ((with_reducible show ∃ (fs : List (Str × D)) (y : D), D.ins _ _ = .ins _ fs ∧ _); refine ⟨_, _, rfl, rfl, ?_⟩)
  | ((with_reducible show ∃ (fs : List (Str × D)) (y : D), machD _ _ _ = .ins _ fs ∧ _); refine ⟨_, _, rfl, rfl, ?_⟩)
  | ((with_reducible show _ ≤ sizeLine ∧ _); refine ⟨?_, ?_⟩; · leaf_len)
  | ((with_reducible show _ < sizeLine ∧ _); refine ⟨?_, ?_⟩; · leaf_len))

variable {P : Program} {w : World} {K : PySem.W.Frag} {mg : Str → Option Value} {base : Heap} {A : Ad}
theorem inL_mem {evs : List (List Int)} {kn : List Int} {g : Int} : g ∈ inL evs kn ↔ (0 ≤ g ∧ g < (evs.length : Int)) ∧ evB (evs.getD g.toNat []) ∈ kn ∧ evA (evs.getD g.toNat []) ∈ kn := by
  unfold inL
  rw [List.mem_map]
  constructor
  · rintro ⟨i, hi, rfl⟩
    obtain ⟨h1, h2⟩ := List.mem_filter.mp hi
    have il := List.mem_range.mp h1
    unfold inAt at h2
    rw [Bool.and_eq_true] at h2
    rw [Int.toNat_natCast]
    exact ⟨by omega, of_decide_eq_true h2.1, of_decide_eq_true h2.2⟩
  · rintro ⟨⟨g0, g1⟩, h1, h2⟩
    refine ⟨g.toNat, List.mem_filter.mpr ⟨List.mem_range.mpr (by omega), ?_⟩, by omega⟩
    unfold inAt
    rw [decide_eq_true h1, decide_eq_true h2]
    rfl
theorem inL_len (evs : List (List Int)) (kn : List Int) : (inL evs kn).length ≤ evs.length := by
  unfold inL
  rw [List.length_map]
  have := List.length_filter_le (inAt evs kn) (List.range evs.length)
  rwa [List.length_range] at this
theorem sumT_app (evs : List (List Int)) (a b : List Int) : sumT evs (a ++ b) = sumT evs a + sumT evs b := by unfold sumT; rw [List.map_append, List.sum_append]
theorem sumP_app (evs : List (List Int)) (a b : List Int) : sumP evs (a ++ b) = sumP evs a + sumP evs b := by unfold sumP; rw [List.map_append, List.sum_append]
theorem sumT_one (evs : List (List Int)) (g : Int) : sumT evs [g] = evT (evs.getD g.toNat []) := by unfold sumT; simp
theorem sumP_one (evs : List (List Int)) (g : Int) : sumP evs [g] = evP (evs.getD g.toNat []) := by unfold sumP; simp
/-- what a walk is worth by a line -/
abbrev Lw (evs : List (List Int)) (x y : Int) (w : List Int) : Int := Lx x y (sumT evs w) (sumP evs w)
theorem Lw_app (evs : List (List Int)) (x y : Int) (a b : List Int) : Lw evs x y (a ++ b) = Lw evs x y a + Lw evs x y b := by
  unfold Lw Lx
  rw [sumT_app, sumP_app]
  grind
theorem Lw_rp (evs : List (List Int)) (ps : List (Int × List Int)) (x y g : Int) : Lx x y (rpT evs ps g) (rpP evs ps g) = Lw evs x y (wayOf ps (evB (evs.getD g.toNat []))) + Lw evs x y [g] - Lw evs x y (wayOf ps (evA (evs.getD g.toNat []))) := by
  unfold Lw Lx rpT rpP
  rw [sumT_one, sumP_one]
  grind
/-- walks back to where they began, within a knot -/
def CWp (evs : List (List Int)) (kn : List Int) (x y d : Int) : Prop := ∀ v w, v ∈ kn → walkTo evs v w = some v → (∀ g ∈ w, g ∈ inL evs kn) → d ∣ Lw evs x y w
theorem rch_rng {n : Int} {evs : List (List Int)} (ok : ∀ e ∈ evs, okEv n e) (n0 : 0 ≤ n) (hl : evs.length ≤ 1000) {a b : Int} (ha : 0 ≤ a ∧ a < n) (r : Rch (stepsAll evs 0 1 n.toNat) a b) : 0 ≤ b ∧ b < n := by
  have z := r.in_ (fun ns h => (steps_ok ok n0 hl (s := 0) (f := 1) (by decide) ns h).2) (by rw [stepsAll_len]; omega)
  rw [stepsAll_len] at z
  omega
/-- between two standings of a knot there is a walk within it -/
theorem inner_walk {n : Int} {evs : List (List Int)} (ok : ∀ e ∈ evs, okEv n e) (n0 : 0 ≤ n) (hl : evs.length ≤ 1000) {s x y : Int} (hx : x ∈ mutL evs n.toNat s) (hy : y ∈ mutL evs n.toNat s) : ∃ w, walkTo evs x w = some y ∧ ∀ g ∈ w, g ∈ inL evs (mutL evs n.toNat s) := by
  obtain ⟨x1, x2, x3⟩ := pick_mem.mp hx
  obtain ⟨y1, y2, y3⟩ := pick_mem.mp hy
  have main : ∀ k, Rch (stepsAll evs 0 1 n.toNat) x k → Rch (stepsAll evs 0 1 n.toNat) k s → ∃ w, walkTo evs x w = some k ∧ ∀ g ∈ w, g ∈ inL evs (mutL evs n.toNat s) := by
    intro k r
    induction r with
    | refl => exact fun _ => ⟨[], rfl, fun g hg => by cases hg⟩
    | @step k z r hz ih =>
      intro hb
      have kr := rch_rng ok n0 hl (by omega) r
      have e1 : Rch (stepsAll evs 0 1 n.toNat) k z := .step .refl hz
      obtain ⟨w, w1, w2⟩ := ih (e1.trans hb)
      obtain ⟨g, hg, rfl⟩ := way_outs kr.1 ok hz
      obtain ⟨g0, g1, g2⟩ := outsI_mem.mp hg
      have zr := rch_rng ok n0 hl kr e1
      refine ⟨w ++ [g], walk_snoc w1 hg, fun q hq => ?_⟩
      rcases List.mem_append.mp hq with hq | hq
      · exact w2 q hq
      · rw [List.mem_singleton.mp hq]
        refine inL_mem.mpr ⟨⟨g0, g1⟩, ?_, ?_⟩
        · rw [g2]
          exact pick_mem.mpr ⟨by omega, x2.trans r, e1.trans hb⟩
        · exact pick_mem.mpr ⟨by omega, (x2.trans r).trans e1, hb⟩
  exact main y (x3.trans y2) y3
theorem shut_walk {evs : List (List Int)} {nums : List Int} {ps : List (Int × List Int)} (sh : Shut evs nums ps) : ∀ {w : List Int} {u v : Int}, u ∈ ps.map Prod.fst → walkTo evs u w = some v → (∀ g ∈ w, g ∈ nums) → v ∈ ps.map Prod.fst
  | [], u, v, hu, h, _ => by
    have : u = v := Option.some.inj h
    rwa [← this]
  | g :: r, u, v, hu, h, hw => by
    unfold walkTo at h
    split at h
    · next c => exact shut_walk sh (sh u hu g (hw g (by simp)) c.2.2) h fun q hq => hw q (by simp [hq])
    · cases h
theorem tele {evs : List (List Int)} {nums : List Int} {ps : List (Int × List Int)} {x y d : Int} (hd : ∀ g ∈ nums, d ∣ Lx x y (rpT evs ps g) (rpP evs ps g)) : ∀ {w : List Int} {u v : Int}, walkTo evs u w = some v → (∀ g ∈ w, g ∈ nums) → d ∣ Lw evs x y (wayOf ps u) + Lw evs x y w - Lw evs x y (wayOf ps v)
  | [], u, v, h, _ => by
    have : u = v := Option.some.inj h
    rw [this]
    have e : Lw evs x y [] = 0 := by unfold Lw Lx sumT sumP; simp
    rw [e]
    have : Lw evs x y (wayOf ps v) + 0 - Lw evs x y (wayOf ps v) = 0 := by omega
    rw [this]
    exact Int.dvd_zero d
  | g :: r, u, v, h, hw => by
    unfold walkTo at h
    split at h
    · next c =>
      have ih := tele hd h fun q hq => hw q (by simp [hq])
      have h1 := hd g (hw g (by simp))
      rw [Lw_rp, c.2.2] at h1
      have e : Lw evs x y (g :: r) = Lw evs x y [g] + Lw evs x y r := Lw_app evs x y [g] r
      rw [e]
      have := Int.dvd_add h1 ih
      have e2 : Lw evs x y (wayOf ps u) + Lw evs x y [g] - Lw evs x y (wayOf ps (evA (evs.getD g.toNat []))) + (Lw evs x y (wayOf ps (evA (evs.getD g.toNat []))) + Lw evs x y r - Lw evs x y (wayOf ps v)) = Lw evs x y (wayOf ps u) + (Lw evs x y [g] + Lw evs x y r) - Lw evs x y (wayOf ps v) := by omega
      rwa [e2] at this
    · cases h
theorem lat_cw {n : Int} {evs : List (List Int)} (ok : ∀ e ∈ evs, okEv n e) (n0 : 0 ≤ n) (hl : evs.length ≤ 1000) {s k0 : Int} {ps : List (Int × List Int)} (hk : k0 ∈ mutL evs n.toNat s) (wy : Way evs n (inL evs (mutL evs n.toNat s)) k0 ps) (cov : ∀ v ∈ mutL evs n.toNat s, v ∈ ps.map Prod.fst) (x y d : Int) :
    (∀ g ∈ inL evs (mutL evs n.toNat s), d ∣ Lx x y (rpT evs ps g) (rpP evs ps g)) ↔ CWp evs (mutL evs n.toNat s) x y d := by
  constructor
  · intro hd v w hv hw hin
    have := tele hd hw hin
    have e : Lw evs x y (wayOf ps v) + Lw evs x y w - Lw evs x y (wayOf ps v) = Lw evs x y w := by omega
    rwa [e] at this
  · intro hc g hg
    obtain ⟨⟨g0, g1⟩, hb, ha⟩ := inL_mem.mp hg
    obtain ⟨b1, _⟩ := wayOf_get (cov _ hb)
    obtain ⟨a1, _⟩ := wayOf_get (cov _ ha)
    obtain ⟨w1, w2⟩ := wy.way _ b1
    obtain ⟨w3, w4⟩ := wy.way _ a1
    obtain ⟨R, r1, r2⟩ := inner_walk ok n0 hl ha hk
    have gm : g ∈ outsI evs (evB (evs.getD g.toNat [])) := outsI_mem.mpr ⟨g0, g1, rfl⟩
    have c1 := hc k0 (wayOf ps (evB (evs.getD g.toNat [])) ++ [g] ++ R) hk (by rw [walkTo_app, walk_snoc w1 gm]; exact r1) (fun q hq => by
      rcases List.mem_append.mp hq with hq | hq
      · rcases List.mem_append.mp hq with hq | hq
        · exact w2 q hq
        · rw [List.mem_singleton.mp hq]; exact hg
      · exact r2 q hq)
    have c2 := hc k0 (wayOf ps (evA (evs.getD g.toNat [])) ++ R) hk (by rw [walkTo_app, w3]; exact r1) (fun q hq => by
      rcases List.mem_append.mp hq with hq | hq
      · exact w4 q hq
      · exact r2 q hq)
    have c3 := Int.dvd_sub c1 c2
    rw [Lw_app, Lw_app, Lw_app] at c3
    rw [Lw_rp]
    have e : Lw evs x y (wayOf ps (evB (evs.getD g.toNat []))) + Lw evs x y [g] + Lw evs x y R - (Lw evs x y (wayOf ps (evA (evs.getD g.toNat []))) + Lw evs x y R) = Lw evs x y (wayOf ps (evB (evs.getD g.toNat []))) + Lw evs x y [g] - Lw evs x y (wayOf ps (evA (evs.getD g.toNat []))) := by omega
    rwa [e] at c3
/-- a net of a knot -/
structure NetC (evs : List (List Int)) (kn : List Int) (nd : List (List Int)) : Prop where
  len : nd.length ≤ 2
  bd : ∀ e ∈ nd, ∃ t p : Int, e = [t, p] ∧ t.natAbs ≤ 5000 ∧ p.natAbs ≤ 2000000000
  lat : ∀ x y d : Int, (∀ e ∈ nd, d ∣ Lx x y (e.getD 0 0) (e.getD 1 0)) ↔ CWp evs kn x y d
  form : NForm nd
def S__net (C : Addr) : QSpec := fun ds k _ => ∃ n evs s, ds = [machD C n evs, tupI (mutL evs n.toNat s)] ∧ 1 ≤ n ∧ n ≤ 60 ∧ evs.length ≤ 1000 ∧ (∀ e ∈ evs, okEv n e) ∧ 0 ≤ s ∧ s < n ∧ ∀ nd, NetC evs (mutL evs n.toNat s) nd → k (.val (evsD nd))
theorem lnoq_u_net : ∀ ds k kx, (S__net A.C_Machine : QSpec) ds k kx → ds.length = 2 := by
  intro ds k kx h
  obtain ⟨n, evs, s, rfl, n1, n6, hl, ok, s0, s1, hk⟩ := h
  rfl
theorem oq_u_net (T : Txt K mg A) : FnOk P w K mg base (L2.CX P w) 4 A.f_u_net A.d_u_net ["machine", "knot"] (spP K (S__net A.C_Machine)) := by
  refine T.F_u_net.okX sc_u_net (spP_len (lnoq_u_net (A := A))) (fun cdv A1 outer s H vs Q E hr h => ?_)
  refine def_run (N := ["machine", "knot"]) (p := _) (fun kx => (qss_one (qs_ret (q_call (oq_net_of T) (hr.mono (by decide)) (by rfl) T.m_net_of T.F_net_of.kp T.B_net_of (takes_of rfl rfl rfl rfl) (qa_cons (q_var rfl (pv 0)) (qa_cons (q_call (oq_inner_events T) (hr.mono (by decide)) (by rfl) T.m_inner_events T.F_inner_events.kp T.B_inner_events (takes_of rfl rfl rfl rfl) (qa_cons (q_var rfl (pv 0)) (qa_cons (q_var rfl (pv 1)) (qa_nil rfl)))) (qa_cons (q_ix (q_var rfl (pv 1)) (q_int rfl) (fun _ _ => rfl)) (qa_nil rfl)))))))) h (fun ds k kx h => by rw [lnoq_u_net ds k kx h]; decide) (fun ds k kx h => ?_)
  obtain ⟨n, evs, s, rfl, n1, n6, hl, ok, s0, s1, hk⟩ := h
  have sm : s ∈ mutL evs n.toNat s := pick_mem.mpr ⟨⟨s0, by omega⟩, .refl, .refl⟩
  obtain ⟨k0, hk0⟩ : ∃ k0, (mutL evs n.toNat s)[0]? = some k0 := by
    cases e : mutL evs n.toNat s with
    | nil => rw [e] at sm; cases sm
    | cons a r => exact ⟨a, rfl⟩
  have km := List.mem_of_getElem? hk0
  have kr := (pick_mem.mp km).1
  have hil := inL_len evs (mutL evs n.toNat s)
  have covA : ∀ ps, Way evs n (inL evs (mutL evs n.toNat s)) k0 ps → Shut evs (inL evs (mutL evs n.toNat s)) ps → ∀ v ∈ mutL evs n.toNat s, v ∈ ps.map Prod.fst := fun ps wy sh v hv => by
    obtain ⟨w, w1, w2⟩ := inner_walk ok (by omega) hl km hv
    exact shut_walk sh wy.st w1 w2
  repeat tb_rel
  refine ⟨n, evs, _, rfl, four_all ok, hl, ?_⟩
  repeat tb_rel
  refine o_ixT (d := .int k0) (at_ge (Int.le_refl 0) (by rw [List.getElem?_map]; show (mutL evs n.toNat s)[0]?.map D.int = _; rw [hk0]; rfl)) ?_
  repeat tb_rel
  refine ⟨n, evs, inL evs (mutL evs n.toNat s), k0, rfl, n1, n6, hl, ok, fun g hg => (inL_mem.mp hg).1, by omega, kr.1, by omega, fun ps wy sh g hg => covA ps wy sh _ (inL_mem.mp hg).2.1, fun ps nd wy sh np => ?_⟩
  have e0 := hk nd ⟨np.len, np.bd, fun x y d => (np.lat x y d).trans (lat_cw ok (by omega) hl km wy (covA ps wy sh) x y d), np.form⟩
  repeat tb_rel
  try exact e0
end
end Myk33

namespace Myk33
open PySem L2 My EnT Pl
section
-- an environment written out
local macro_rules | `(tactic| nest_cls) => `(tactic| with_unfolding_all (repeat (first | exact Nf.nil | apply Nf.cons)))
-- side conditions over values
local macro_rules | `(tactic| leaf_len) => `(tactic| first
  | (with_reducible rfl)
  | (with_reducible assumption)
  | rfl
  | omega
  | ((with_reducible show _ ≤ sizeLine); first | exact szL (by first | decide | (simp; done) | (simp; omega)) | exact szL (by omega) | decide)
  | ((with_reducible show _ < sizeLine); first | exact szK (by first | decide | (simp; done) | (simp; omega)) | exact szK (by omega) | decide)
  | ((with_reducible show CMul _ _ ∨ _); first | exact .inl (CMul.l (by omega) (by omega)) | exact .inl (CMul.r (by omega) (by omega)) | exact .inr (CMulW.of (by omega) (by omega)))
  | ((with_reducible show CMul _ _); first | exact CMul.l (by omega) (by omega) | exact CMul.r (by omega) (by omega))
  | ((with_reducible show CDivW _ _); exact CDivW.of (by omega) (by omega))
  | ((with_reducible show CPow _ _); exact ⟨by decide, by decide, by decide⟩)
  | ((with_reducible show small _); unfold small; omega)
  | ((with_reducible show ∀ K, PySem.W.kitOne K _ _ = some _); first | exact fun _ => kit_ty (r := true) (by decide +kernel) | exact fun _ => kit_ty (r := false) (by decide +kernel))
  | decide)
-- a step over values
local macro_rules | `(tactic| tb_rel) => `(tactic| first
  | (with_reducible refine i_sqN (by nest_cls) ?_)
  | (with_reducible first
    | refine i_sq ?_ | refine i_set ?_ | refine i_stV ?_ | refine i_stO ?_ | refine i_nx ?_
    | refine i_c ?_ | refine i_bin ?_ | refine i_wV ?_ | refine i_wT ?_ | refine i_test ?_ | refine i_tb ?_ | refine i_tru ?_ | refine i_truB ?_
    | refine iteT ?_ | refine iteF ?_
    | refine o_addI ?_ | refine o_I0 ?_ | refine o_B0 ?_ | refine o_eqI ?_ | refine o_neI ?_ | refine o_iaddI ?_
    | refine i_aCons ?_ | refine i_aNil ?_ | refine i_call ?_
    | refine i_if ?_ | refine i_ret ?_ | refine i_rt ?_ | refine i_retN ?_ | refine i_next ?_ | refine i_drop ?_ | refine i_break ?_ | refine i_cont ?_ | refine i_bk ?_ | refine i_ct ?_
    | refine i_andT ?_ | refine i_orT ?_ | refine i_notT ?_ | refine i_andV ?_ | refine i_orV ?_ | refine i_notV ?_ | refine i_ifE ?_
    | refine i_tup ?_ | refine i_lst ?_ | refine i_un ?_ | refine i_ei ?_ | refine i_eb ?_
    | refine i_cB ?_ | refine i_make ?_ | refine i_makeO ?_ | refine i_fld ?_ | refine i_chain ?_ | refine i_for ?_ | refine i_iseq ?_ | refine i_irg1 ?_ | refine i_irg2 ?_ | refine i_ien ?_ | refine i_lc ?_ | refine i_yes ?_ | refine i_lrg ?_ | refine i_index ?_
    | refine i_asg ?_ | refine i_par ?_ | refine i_gname ?_ | refine i_gnil ?_ | refine i_gconsM ?_ | refine i_gnilM ?_ | refine i_gcons ?_
    | refine i_sl ?_ | refine i_noP ?_ | refine i_part ?_ | refine i_slL ?_ | refine i_slT ?_
    | refine i_raise0 ?_ | refine i_raise1 ?_ | refine i_dict0 ?_ | refine i_disp1 ?_ | refine i_dget2 ?_ | refine i_keyI ?_ | refine i_keyS ?_ | refine i_isDK ?_ | refine i_isDT ?_ | refine o_din' ?_ | refine o_dix' ?_ | refine i_dgZ ?_ | refine i_dgI ?_ | refine i_dc ?_ | refine i_dgS ?_ | refine i_try ?_
    | refine f_lenE ?_ | refine f_lenI ?_ | refine f_lenM ?_ | refine f_lenL ?_ | refine f_lenT ?_ | refine f_intI ?_ | refine f_intB ?_ | refine f_absI ?_ | refine f_tupL ?_ | refine f_tupT ?_ | refine f_lstL ?_ | refine f_lstT ?_ | refine f_gcdI ?_ | refine i_isC ?_ | refine i_isCM ?_ | refine o_neE ?_
    | refine o_ixP0 ?_ | refine o_ixS0 ?_ | refine o_ixS1 ?_ | refine f_lenTI' ?_ | refine o_ixP1 ?_ | refine o_inT ?_ | refine o_ninT ?_
    | refine o_isN ?_ | refine o_isnN ?_ | refine o_isB ?_ | refine o_isnB ?_
    | refine loop_nil ?_
    | refine i_truL ?_ | refine i_truT ?_ | refine i_truI ?_)
  | (with_reducible refine i_var (by with_unfolding_all rfl) ?_)
  | (with_reducible refine i_callU (by with_unfolding_all rfl) (by with_unfolding_all rfl) ?_)
  | ((with_reducible refine o_IC ?_ ?_); · leaf_len)
  | ((with_reducible refine o_mulI ?_ ?_); · leaf_len)
  | (with_reducible refine i_varO (by with_unfolding_all rfl) ?_)
  | (with_reducible refine i_wN (by with_unfolding_all rfl) ?_)
  | (with_reducible refine i_gtup (by with_unfolding_all rfl) (by with_unfolding_all rfl) ?_)
  | (with_reducible refine i_aug (by with_unfolding_all rfl) ?_)
  | (with_reducible refine i_mb rfl (by with_unfolding_all rfl) ?_)
  | (with_reducible refine i_mb0 rfl (by with_unfolding_all rfl) ?_)
  | ((with_reducible refine m_appI ?_ ?_); · leaf_len)
  | ((with_reducible refine m_app ?_ ?_); · leaf_len)
  | (with_reducible refine i_dcZ (by with_unfolding_all rfl) (fun _ _ => ?_))
  | (with_reducible refine i_setDcZ (by with_unfolding_all rfl) (fun _ _ => ?_))
  | (with_reducible refine i_setD (by with_unfolding_all rfl) ?_)
  | (with_reducible refine i_dgT (by with_unfolding_all rfl) ?_)
  | ((with_reducible refine i_dpI ?_ ?_); · leaf_len)
  | ((with_reducible show ∃ d, _ = some (Sl.own d) ∧ _); refine ⟨_, rfl, ?_⟩)
  | (with_reducible refine i_setL (by with_unfolding_all rfl) ?_)
  | (with_reducible refine i_augL (by with_unfolding_all rfl) ?_)
  | (with_reducible refine i_setF (by with_unfolding_all rfl) ?_)
  | (with_reducible refine i_stN (by with_unfolding_all rfl) ?_)
  | ((with_reducible refine o_ix0 ?_ ?_); · first | assumption | exact four_getD (by assumption) (by assumption) (by assumption))
  | ((with_reducible refine o_ix1 ?_ ?_); · first | assumption | exact four_getD (by assumption) (by assumption) (by assumption))
  | ((with_reducible refine o_ixEv ?_ ?_ ?_ ?_); (· assumption); (· first | assumption | omega); (· first | assumption | omega))
  | ((with_reducible refine o_mulL ?_ ?_ ?_); (· omega); (· omega))
  | ((with_reducible refine o_addTI ?_ ?_); · omega)
  | ((with_reducible refine o_addT ?_ ?_); · leaf_len)
  | ((with_reducible refine o_addL ?_ ?_); · leaf_len)
  | ((with_reducible refine isi_int ?_ ?_); · first | assumption | exact ⟨_, rfl⟩)
  | ((with_reducible refine isi_bool ?_ ?_); · first | assumption | exact ⟨_, rfl⟩)
  | ((with_reducible refine isi_tup ?_ ?_); · first | assumption | exact ⟨_, rfl⟩)
  | ((with_reducible refine isi_lst ?_ ?_); · first | assumption | exact ⟨_, rfl⟩)
  | ((with_reducible refine isi_str ?_ ?_); · first | assumption | exact ⟨_, rfl⟩)
  | ((with_reducible refine iteTb ?_ ?_); · exact rfl)
  | ((with_reducible refine iteFb ?_ ?_); · exact rfl)
  | ((with_reducible refine iteTb ?_ ?_); · assumption)
  | ((with_reducible refine iteFb ?_ ?_); · assumption)
  | (with_reducible refine i_aft (by with_unfolding_all rfl) ?_)
  | ((with_reducible refine iteDT ?_ ?_); · first | assumption | omega)
  | ((with_reducible refine iteDF ?_ ?_); · first | assumption | omega)
  | ((with_reducible refine iteNT ?_ ?_); · first | assumption | omega)
  | ((with_reducible refine iteNF ?_ ?_); · first | assumption | omega)
  | ((with_reducible show ∃ ds, dsO _ _ = some ds ∧ _); refine ⟨_, rfl, ?_⟩)
  | ((with_reducible show ∃ s, RV.out _ _ = some s ∧ _); refine ⟨_, rfl, ?_⟩)
  | ((with_reducible show ∃ ds d, dsO _ _ = some ds ∧ _); refine ⟨_, _, rfl, rfl, ?_⟩)
  | ((with_reducible show ∃ d, dsO _ _ = some [d] ∧ _); refine ⟨_, rfl, ?_⟩)
  | ((with_reducible show ∃ y, RV.d _ _ = some y ∧ _); refine ⟨_, rfl, ?_⟩)
  | ((with_reducible show ∃ (y : D) (fs : List (Str × D)), RV.d _ _ = some y ∧ _); refine ⟨_, _, rfl, rfl, by first | exact putD_lt (by decide) | decide, ?_⟩)
  | ((with_reducible show ∃ ds, seqD _ = some ds ∧ _); refine ⟨_, rfl, ?_⟩)
  | ((with_reducible show ∃ d e, dsO _ _ = some [d, e] ∧ _); refine ⟨_, _, rfl, ?_⟩)
  | ((with_reducible show ∃ (fs : List (Str × D)) (y : D), D.ins _ _ = .ins _ fs ∧ _); refine ⟨_, _, rfl, rfl, ?_⟩)
  | ((with_reducible show ∃ (fs : List (Str × D)) (y : D), machD _ _ _ = .ins _ fs ∧ _); refine ⟨_, _, rfl, rfl, ?_⟩)
  | ((with_reducible show _ ≤ sizeLine ∧ _); refine ⟨?_, ?_⟩; · leaf_len)
  | ((with_reducible show _ < sizeLine ∧ _); refine ⟨?_, ?_⟩; · leaf_len))

variable {P : Program} {w : World} {K : PySem.W.Frag} {mg : Str → Option Value} {base : Heap} {A : Ad}
def S_net (C : Addr) : QSpec := fun ds k _ => ∃ n evs s, ds = [machD C n evs, .int s] ∧ 1 ≤ n ∧ n ≤ 60 ∧ evs.length ≤ 1000 ∧ (∀ e ∈ evs, okEv n e) ∧ s ∈ rchL evs n.toNat 0 ∧ ∀ nd, NetC evs (mutL evs n.toNat s) nd → k (.val (evsD nd))
theorem lnoq_net : ∀ ds k kx, (S_net A.C_Machine : QSpec) ds k kx → ds.length = 2 := by
  intro ds k kx h
  obtain ⟨n, evs, s, rfl, n1, n6, hl, ok, hs, hk⟩ := h
  rfl
theorem oq_net (T : Txt K mg A) : FnOk P w K mg base (L2.CX P w) 6 A.f_net A.d_net ["machine", "standing"] (spP K (S_net A.C_Machine)) := by
  refine T.F_net.okX sc_net (spP_len (lnoq_net (A := A))) (fun cdv A1 outer s H vs Q E hr h => ?_)
  refine def_run (N := ["machine", "standing"]) (p := _) (fun kx => (qss_one (qs_ret (q_call (oq_u_net T) (hr.mono (by decide)) (by rfl) T.m_u_net T.F_u_net.kp T.B_u_net (takes_of rfl rfl rfl rfl) (qa_cons (q_var rfl (pv 0)) (qa_cons (q_call (oq_knot T) (hr.mono (by decide)) (by rfl) T.m_knot T.F_knot.kp T.B_knot (takes_of rfl rfl rfl rfl) (qa_cons (q_var rfl (pv 0)) (qa_cons (q_var rfl (pv 1)) (qa_nil rfl)))) (qa_nil rfl))))))) h (fun ds k kx h => by rw [lnoq_net ds k kx h]; decide) (fun ds k kx h => ?_)
  obtain ⟨n, evs, s, rfl, n1, n6, hl, ok, hs, hk⟩ := h
  have sr := (pick_mem.mp hs).1
  repeat tb_rel
  refine ⟨n, evs, s, rfl, n1, n6, hl, ok, hs, ?_⟩
  repeat tb_rel
  refine ⟨n, evs, s, rfl, n1, n6, hl, ok, sr.1, by omega, fun nd hn => ?_⟩
  have e0 := hk nd hn
  repeat tb_rel
  try exact e0
/-- the measure by a share -/
def MsP (evs : List (List Int)) (kn : List Int) (a b m : Int) : Prop := 0 ≤ m ∧ ∀ d : Int, d ∣ m ↔ CWp evs kn b a d
theorem MsP.uniq {evs : List (List Int)} {kn : List Int} {a b m m' : Int} (h : MsP evs kn a b m) (h' : MsP evs kn a b m') : m = m' :=
  Int.dvd_antisymm h.1 h'.1 ((h.2 m).mp (Int.dvd_refl m) |> (h'.2 m).mpr) ((h'.2 m').mp (Int.dvd_refl m') |> (h.2 m').mpr)
theorem dvd_gcdI (d m l : Int) : d ∣ ((Nat.gcd m.natAbs l.natAbs : Nat) : Int) ↔ d ∣ m ∧ d ∣ l := by
  have := gcd_lat 1 m l d
  rwa [Int.one_mul, Int.one_mul, Int.one_mul] at this
def S__measure (C : Addr) : QSpec := fun ds k _ => ∃ n evs s a b, ds = [machD C n evs, tupI [a, b], tupI (mutL evs n.toNat s)] ∧ 1 ≤ n ∧ n ≤ 60 ∧ evs.length ≤ 1000 ∧ (∀ e ∈ evs, okEv n e) ∧ 0 ≤ s ∧ s < n ∧ ∀ m, MsP evs (mutL evs n.toNat s) a b m → k (.val (.int m))
theorem lnoq_u_measure : ∀ ds k kx, (S__measure A.C_Machine : QSpec) ds k kx → ds.length = 3 := by
  intro ds k kx h
  obtain ⟨n, evs, s, a, b, rfl, n1, n6, hl, ok, s0, s1, hk⟩ := h
  rfl
theorem oq_u_measure (T : Txt K mg A) : FnOk P w K mg base (L2.CX P w) 5 A.f_u_measure A.d_u_measure ["machine", "share", "knot"] (spP K (S__measure A.C_Machine)) := by
  refine T.F_u_measure.okX sc_u_measure (spP_len (lnoq_u_measure (A := A))) (fun cdv A1 outer s H vs Q E hr h => ?_)
  refine def_run (N := ["machine", "share", "knot", "divisor", "tries", "points"]) (p := _) (fun kx => (qss_cons (qs_set (i := 3) sc_u_measure.nd rfl (Or.inl rfl) (q_int rfl))
      (qss_cons (qs_for (passes_of rfl) rfl (qi_seq (q_call (oq_u_net T) (hr.mono (by decide)) (by rfl) T.m_u_net T.F_u_net.kp T.B_u_net (takes_of rfl rfl rfl rfl) (qa_cons (q_var rfl (pv 0)) (qa_cons (q_var rfl (pv 2)) (qa_nil rfl))))) (qg_tup 2 rfl (qgs_cons (qg_name (i := 4) rfl sc_u_measure.nd rfl (Or.inl rfl)) (qgs_cons (qg_name (i := 5) rfl sc_u_measure.nd rfl (Or.inl rfl)) (qgs_nil rfl))) rfl rfl)
        (qss_one (qs_set (i := 3) sc_u_measure.nd rfl (Or.inl rfl) (q_callF cr_gcd sim_gcd rfl T.m_gcd (qa_cons (q_var rfl (pv 3)) (qa_cons (q_call (oq_lift_of T) (hr.mono (by decide)) (by rfl) T.m_lift_of T.F_lift_of.kp T.B_lift_of (takes_of rfl rfl rfl rfl) (qa_cons (q_var rfl (pv 1)) (qa_cons (q_var rfl (pv 4)) (qa_cons (q_var rfl (pv 5)) (qa_nil rfl))))) (qa_nil rfl)))))))
      (qss_one (qs_ret (q_var rfl (pv 3))))))) h (fun ds k kx h => by rw [lnoq_u_measure ds k kx h]; decide) (fun ds k kx h => ?_)
  obtain ⟨n, evs, s, a, b, rfl, n1, n6, hl, ok, s0, s1, hk⟩ := h
  repeat tb_rel
  refine ⟨n, evs, s, rfl, n1, n6, hl, ok, s0, s1, fun nd hn => ?_⟩
  repeat tb_rel
  refine loop_inv (fun j e => ∃ m u4 u5, e = [.val (machD A.C_Machine n evs), .val (tupI [a, b]), .val (tupI (mutL evs n.toNat s)), .val (.int m), u4, u5] ∧ 0 ≤ m ∧ ∀ d : Int, d ∣ m ↔ ∀ e ∈ nd.take j, d ∣ Lx b a (e.getD 0 0) (e.getD 1 0)) ⟨0, _, _, rfl, Int.le_refl 0, fun d => ⟨fun _ e he => by simp at he, fun _ => Int.dvd_zero d⟩⟩ ?_ ?_
  · rintro j d e hd ⟨m, u4, u5, rfl, m0, hm⟩ nx hn' hx
    obtain ⟨q, hq, rfl⟩ := mapD_get hd
    obtain ⟨t, p, rfl, bt, bp⟩ := hn.bd q (List.mem_of_getElem? hq)
    repeat tb_rel
    refine ⟨a, b, t, p, rfl, by omega, by omega, by omega, by omega, ?_⟩
    repeat tb_rel
    refine hn' _ ⟨_, _, _, rfl, by omega, fun d => ?_⟩
    rw [dvd_gcdI, hm d, take_succ hq]
    constructor
    · rintro ⟨h1, h2⟩ e he
      rcases List.mem_append.mp he with he | he
      · exact h1 e he
      · rw [List.mem_singleton.mp he]; exact h2
    · intro h
      exact ⟨fun e he => h e (List.mem_append.mpr (.inl he)), h [t, p] (List.mem_append.mpr (.inr (by simp)))⟩
  · rintro e ⟨m, u4, u5, rfl, m0, hm⟩
    rw [List.length_map, List.take_length] at hm
    have e0 := hk m ⟨m0, fun d => (hm d).trans (hn.lat b a d)⟩
    repeat tb_rel
    try exact e0
def S_measure (C : Addr) : QSpec := fun ds k _ => ∃ n evs s a b, ds = [machD C n evs, tupI [a, b], .int s] ∧ ShI a b ∧ 1 ≤ n ∧ n ≤ 60 ∧ evs.length ≤ 1000 ∧ (∀ e ∈ evs, okEv n e) ∧ s ∈ rchL evs n.toNat 0 ∧ ∀ m, MsP evs (mutL evs n.toNat s) a b m → k (.val (.int m))
theorem lnoq_measure : ∀ ds k kx, (S_measure A.C_Machine : QSpec) ds k kx → ds.length = 3 := by
  intro ds k kx h
  obtain ⟨n, evs, s, a, b, rfl, sh, n1, n6, hl, ok, hs, hk⟩ := h
  rfl
theorem oq_measure (T : Txt K mg A) : FnOk P w K mg base (L2.CX P w) 6 A.f_measure A.d_measure ["machine", "share", "standing"] (spP K (S_measure A.C_Machine)) := by
  refine T.F_measure.okX sc_measure (spP_len (lnoq_measure (A := A))) (fun cdv A1 outer s H vs Q E hr h => ?_)
  refine def_run (N := ["machine", "share", "standing"]) (p := _) (fun kx => (qss_cons (qs_expr (q_call (oq_check_share T) (hr.mono (by decide)) (by rfl) T.m_check_share T.F_check_share.kp T.B_check_share (takes_of rfl rfl rfl rfl) (qa_cons (q_var rfl (pv 1)) (qa_nil rfl))))
      (qss_one (qs_ret (q_call (oq_u_measure T) (hr.mono (by decide)) (by rfl) T.m_u_measure T.F_u_measure.kp T.B_u_measure (takes_of rfl rfl rfl rfl) (qa_cons (q_var rfl (pv 0)) (qa_cons (q_var rfl (pv 1)) (qa_cons (q_call (oq_knot T) (hr.mono (by decide)) (by rfl) T.m_knot T.F_knot.kp T.B_knot (takes_of rfl rfl rfl rfl) (qa_cons (q_var rfl (pv 0)) (qa_cons (q_var rfl (pv 2)) (qa_nil rfl)))) (qa_nil rfl))))))))) h (fun ds k kx h => by rw [lnoq_measure ds k kx h]; decide) (fun ds k kx h => ?_)
  obtain ⟨n, evs, s, a, b, rfl, sh, n1, n6, hl, ok, hs, hk⟩ := h
  have sr := (pick_mem.mp hs).1
  repeat tb_rel
  refine ⟨a, b, rfl, sh.1, sh.2, ?_⟩
  repeat tb_rel
  refine ⟨n, evs, s, rfl, n1, n6, hl, ok, hs, ?_⟩
  repeat tb_rel
  refine ⟨n, evs, s, a, b, rfl, n1, n6, hl, ok, sr.1, by omega, fun m hm => ?_⟩
  have e0 := hk m hm
  repeat tb_rel
  try exact e0
def S_lift (C : Addr) : QSpec := fun ds k _ => ∃ n evs g a b, ds = [machD C n evs, tupI [a, b], .int g] ∧ ShI a b ∧ (∀ e ∈ evs, okEv n e) ∧ 0 ≤ g ∧ g < (evs.length : Int) ∧ k (.val (.int (Lw evs b a [g])))
theorem lnoq_lift : ∀ ds k kx, (S_lift A.C_Machine : QSpec) ds k kx → ds.length = 3 := by
  intro ds k kx h
  obtain ⟨n, evs, g, a, b, rfl, sh, ok, g0, g1, hk⟩ := h
  rfl
theorem oq_lift (T : Txt K mg A) : FnOk P w K mg base (L2.CX P w) 5 A.f_lift A.d_lift ["machine", "share", "event"] (spP K (S_lift A.C_Machine)) := by
  refine T.F_lift.okX sc_lift (spP_len (lnoq_lift (A := A))) (fun cdv A1 outer s H vs Q E hr h => ?_)
  refine def_run (N := ["machine", "share", "event"]) (p := _) (fun kx => (qss_cons (qs_expr (q_call (oq_check_share T) (hr.mono (by decide)) (by rfl) T.m_check_share T.F_check_share.kp T.B_check_share (takes_of rfl rfl rfl rfl) (qa_cons (q_var rfl (pv 1)) (qa_nil rfl))))
      (qss_cons (qs_if (qt_not (qt_tru (q_call (oq_has_event T) (hr.mono (by decide)) (by rfl) T.m_has_event T.F_has_event.kp T.B_has_event (takes_of rfl rfl rfl rfl) (qa_cons (q_var rfl (pv 0)) (qa_cons (q_var rfl (pv 2)) (qa_nil rfl)))))) (qss_one (qs_raise0 rfl rfl (takes_of rfl rfl rfl rfl) (pmk_own0 PySem.F.excBase_ValueError T.x_NoEvent T.m_NoEvent T.kp_NoEvent (raises_own T.b_NoEvent T.t_NoEvent) (by exact rfl)))) (qss_nil rfl))
      (qss_one (qs_ret (q_call (oq_row_lift T) (hr.mono (by decide)) (by rfl) T.m_row_lift T.F_row_lift.kp T.B_row_lift (takes_of rfl rfl rfl rfl) (qa_cons (q_var rfl (pv 0)) (qa_cons (q_var rfl (pv 1)) (qa_cons (q_tup (qa_cons (q_var rfl (pv 2)) (qa_nil rfl))) (qa_nil rfl)))))))))) h (fun ds k kx h => by rw [lnoq_lift ds k kx h]; decide) (fun ds k kx h => ?_)
  obtain ⟨n, evs, g, a, b, rfl, sh, ok, g0, g1, hk⟩ := h
  repeat tb_rel
  refine ⟨a, b, rfl, sh.1, sh.2, ?_⟩
  repeat tb_rel
  refine ⟨n, evs, .int g, rfl, ⟨_, rfl⟩, ?_⟩
  rw [show btw (.int g) 0 ((evs.length : Int) - 1) = true from decide_eq_true ⟨g0, by omega⟩]
  repeat tb_rel
  refine ⟨n, evs, [g], a, b, rfl, ok, (fun k hk => by rw [List.mem_singleton.mp hk]; exact ⟨g0, g1⟩), by simp, ?_⟩
  repeat tb_rel
  try exact hk
def S_lead (C : Addr) : QSpec := fun ds k _ => ∃ n evs o q a b, ds = [machD C n evs, tupI [a, b], .int o, .int q] ∧ ShI a b ∧ 1 ≤ n ∧ n ≤ 60 ∧ evs.length ≤ 1000 ∧ (∀ e ∈ evs, okEv n e) ∧ o ∈ rchL evs n.toNat 0 ∧ q ∈ rchL evs n.toNat 0 ∧ q ∈ mutL evs n.toNat o ∧
  ∀ w m, walkTo evs o w = some q → (∀ g ∈ w, g ∈ inL evs (mutL evs n.toNat o)) → MsP evs (mutL evs n.toNat o) a b m → k (.val (.int (if m = 0 then Lw evs b a w else Lw evs b a w % m)))
theorem lnoq_lead : ∀ ds k kx, (S_lead A.C_Machine : QSpec) ds k kx → ds.length = 4 := by
  intro ds k kx h
  obtain ⟨n, evs, o, q, a, b, rfl, sh, n1, n6, hl, ok, ho, hq, hm, hk⟩ := h
  rfl
theorem oq_lead (T : Txt K mg A) : FnOk P w K mg base (L2.CX P w) 6 A.f_lead A.d_lead ["machine", "share", "one", "other"] (spP K (S_lead A.C_Machine)) := by
  refine T.F_lead.okX sc_lead (spP_len (lnoq_lead (A := A))) (fun cdv A1 outer s H vs Q E hr h => ?_)
  refine def_run (N := ["machine", "share", "one", "other", "knot", "way", "rise", "divisor"]) (p := _) (fun kx => (qss_cons (qs_expr (q_call (oq_check_share T) (hr.mono (by decide)) (by rfl) T.m_check_share T.F_check_share.kp T.B_check_share (takes_of rfl rfl rfl rfl) (qa_cons (q_var rfl (pv 1)) (qa_nil rfl))))
      (qss_cons (qs_set (i := 4) sc_lead.nd rfl (Or.inl rfl) (q_call (oq_knot T) (hr.mono (by decide)) (by rfl) T.m_knot T.F_knot.kp T.B_knot (takes_of rfl rfl rfl rfl) (qa_cons (q_var rfl (pv 0)) (qa_cons (q_var rfl (pv 2)) (qa_nil rfl)))))
      (qss_cons (qs_if (qt_cmp1 (c_ne rfl (hu64 hr)) (q_call (oq_knot T) (hr.mono (by decide)) (by rfl) T.m_knot T.F_knot.kp T.B_knot (takes_of rfl rfl rfl rfl) (qa_cons (q_var rfl (pv 0)) (qa_cons (q_var rfl (pv 3)) (qa_nil rfl)))) (q_var rfl (pv 4)) (nomark _)) (qss_one (qs_raise0 rfl rfl (takes_of rfl rfl rfl rfl) (pmk_own0 PySem.F.excBase_ValueError T.x_NoKnot T.m_NoKnot T.kp_NoKnot (raises_own T.b_NoKnot T.t_NoKnot) (by exact rfl)))) (qss_nil rfl))
      (qss_cons (qs_set (i := 5) sc_lead.nd rfl (Or.inl rfl) (q_dix (hu1D hr) (q_call (oq_ways T) (hr.mono (by decide)) (by rfl) T.m_ways T.F_ways.kp T.B_ways (takes_of rfl rfl rfl rfl) (qa_cons (q_var rfl (pv 0)) (qa_cons (q_call (oq_inner_events T) (hr.mono (by decide)) (by rfl) T.m_inner_events T.F_inner_events.kp T.B_inner_events (takes_of rfl rfl rfl rfl) (qa_cons (q_var rfl (pv 0)) (qa_cons (q_var rfl (pv 4)) (qa_nil rfl)))) (qa_cons (q_var rfl (pv 2)) (qa_nil rfl))))) (q_var rfl (pv 3)) (fun _ _ => rfl)))
      (qss_cons (qs_set (i := 6) sc_lead.nd rfl (Or.inl rfl) (q_call (oq_row_lift T) (hr.mono (by decide)) (by rfl) T.m_row_lift T.F_row_lift.kp T.B_row_lift (takes_of rfl rfl rfl rfl) (qa_cons (q_var rfl (pv 0)) (qa_cons (q_var rfl (pv 1)) (qa_cons (q_var rfl (pv 5)) (qa_nil rfl))))))
      (qss_cons (qs_set (i := 7) sc_lead.nd rfl (Or.inl rfl) (q_call (oq_u_measure T) (hr.mono (by decide)) (by rfl) T.m_u_measure T.F_u_measure.kp T.B_u_measure (takes_of rfl rfl rfl rfl) (qa_cons (q_var rfl (pv 0)) (qa_cons (q_var rfl (pv 1)) (qa_cons (q_var rfl (pv 4)) (qa_nil rfl))))))
      (qss_one (qs_ret (q_ifE (qt_tru (q_var rfl (pv 7))) (q_mod (q_var rfl (pv 6)) (q_var rfl (pv 7))) (q_var rfl (pv 6)))))))))))) h (fun ds k kx h => by rw [lnoq_lead ds k kx h]; decide) (fun ds k kx h => ?_)
  obtain ⟨n, evs, o, q, a, b, rfl, sh, n1, n6, hl, ok, ho, hq, hm, hk⟩ := h
  obtain ⟨h1, h2⟩ := mutL_facts ok (by omega) hl
  have eq := (h2 o ho q hm).2
  have om := h1 o ho
  have or := (pick_mem.mp ho).1
  have hil := inL_len evs (mutL evs n.toNat o)
  repeat tb_rel
  refine ⟨a, b, rfl, sh.1, sh.2, ?_⟩
  repeat tb_rel
  refine ⟨n, evs, o, rfl, n1, n6, hl, ok, ho, ?_⟩
  repeat tb_rel
  refine ⟨n, evs, q, rfl, n1, n6, hl, ok, hq, ?_⟩
  rw [eq]
  repeat tb_rel
  refine o_neD (dat_tupI (n := 59) _) (dat_tupI (n := 59) _) (deq_self (nob_tupI _)) ?_
  repeat tb_rel
  refine ⟨n, evs, _, rfl, four_all ok, hl, ?_⟩
  repeat tb_rel
  refine ⟨n, evs, _, o, rfl, n1, n6, hl, ok, fun g hg => (inL_mem.mp hg).1, by omega, or.1, by omega, fun ps wy shu => ?_⟩
  have qf : q ∈ ps.map Prod.fst := by
    obtain ⟨w, w1, w2⟩ := inner_walk ok (by omega) hl om hm
    exact shut_walk shu wy.st w1 w2
  obtain ⟨c1, c2⟩ := wayOf_get qf
  obtain ⟨w1, w2⟩ := wy.way _ c1
  have ys := wy.short (by omega) c1
  have ys : (wayOf ps q).length ≤ n.toNat := ys
  repeat tb_rel
  refine ⟨_, c2, ?_⟩
  repeat tb_rel
  refine ⟨n, evs, _, a, b, rfl, ok, fun k hk => (inL_mem.mp (w2 k hk)).1, by omega, ?_⟩
  repeat tb_rel
  refine ⟨n, evs, o, a, b, rfl, n1, n6, hl, ok, or.1, by omega, fun m mp => ?_⟩
  have e0 := hk _ m w1 w2 mp
  by_cases z : m = 0
  · subst z
    rw [if_pos rfl] at e0
    repeat tb_rel
    try exact e0
  · rw [if_neg z] at e0
    have hb : (m != 0) = true := by simp [z]
    have m1 : 0 < m := by have := mp.1; omega
    repeat tb_rel
    try exact e0
end
end Myk33

namespace Myk33
open PySem L2 My EnT Pl
section
-- an environment written out
local macro_rules | `(tactic| nest_cls) => `(tactic| with_unfolding_all (repeat (first | exact Nf.nil | apply Nf.cons)))
-- side conditions over values
local macro_rules | `(tactic| leaf_len) => `(tactic| first
  | (with_reducible rfl)
  | (with_reducible assumption)
  | rfl
  | omega
  | ((with_reducible show _ ≤ sizeLine); first | exact szL (by first | decide | (simp; done) | (simp; omega)) | exact szL (by omega) | decide)
  | ((with_reducible show _ < sizeLine); first | exact szK (by first | decide | (simp; done) | (simp; omega)) | exact szK (by omega) | decide)
  | ((with_reducible show CMul _ _ ∨ _); first | exact .inl (CMul.l (by omega) (by omega)) | exact .inl (CMul.r (by omega) (by omega)) | exact .inr (CMulW.of (by omega) (by omega)))
  | ((with_reducible show CMul _ _); first | exact CMul.l (by omega) (by omega) | exact CMul.r (by omega) (by omega))
  | ((with_reducible show CDivW _ _); exact CDivW.of (by omega) (by omega))
  | ((with_reducible show CPow _ _); exact ⟨by decide, by decide, by decide⟩)
  | ((with_reducible show small _); unfold small; omega)
  | ((with_reducible show ∀ K, PySem.W.kitOne K _ _ = some _); first | exact fun _ => kit_ty (r := true) (by decide +kernel) | exact fun _ => kit_ty (r := false) (by decide +kernel))
  | decide)
-- a step over values
local macro_rules | `(tactic| tb_rel) => `(tactic| first
  | (with_reducible refine i_sqN (by nest_cls) ?_)
  | (with_reducible first
    | refine i_sq ?_ | refine i_set ?_ | refine i_stV ?_ | refine i_stO ?_ | refine i_nx ?_
    | refine i_c ?_ | refine i_bin ?_ | refine i_wV ?_ | refine i_wT ?_ | refine i_test ?_ | refine i_tb ?_ | refine i_tru ?_ | refine i_truB ?_
    | refine iteT ?_ | refine iteF ?_
    | refine o_addI ?_ | refine o_I0 ?_ | refine o_B0 ?_ | refine o_eqI ?_ | refine o_neI ?_ | refine o_iaddI ?_
    | refine i_aCons ?_ | refine i_aNil ?_ | refine i_call ?_
    | refine i_if ?_ | refine i_ret ?_ | refine i_rt ?_ | refine i_retN ?_ | refine i_next ?_ | refine i_drop ?_ | refine i_break ?_ | refine i_cont ?_ | refine i_bk ?_ | refine i_ct ?_
    | refine i_andT ?_ | refine i_orT ?_ | refine i_notT ?_ | refine i_andV ?_ | refine i_orV ?_ | refine i_notV ?_ | refine i_ifE ?_
    | refine i_tup ?_ | refine i_lst ?_ | refine i_un ?_ | refine i_ei ?_ | refine i_eb ?_
    | refine i_cB ?_ | refine i_make ?_ | refine i_makeO ?_ | refine i_fld ?_ | refine i_chain ?_ | refine i_for ?_ | refine i_iseq ?_ | refine i_irg1 ?_ | refine i_irg2 ?_ | refine i_ien ?_ | refine i_lc ?_ | refine i_yes ?_ | refine i_lrg ?_ | refine i_index ?_
    | refine i_asg ?_ | refine i_par ?_ | refine i_gname ?_ | refine i_gnil ?_ | refine i_gconsM ?_ | refine i_gnilM ?_ | refine i_gcons ?_
    | refine i_sl ?_ | refine i_noP ?_ | refine i_part ?_ | refine i_slL ?_ | refine i_slT ?_
    | refine i_raise0 ?_ | refine i_raise1 ?_ | refine i_dict0 ?_ | refine i_disp1 ?_ | refine i_dget2 ?_ | refine i_keyI ?_ | refine i_keyS ?_ | refine i_isDK ?_ | refine i_isDT ?_ | refine o_din' ?_ | refine o_dix' ?_ | refine i_dgZ ?_ | refine i_dgI ?_ | refine i_dc ?_ | refine i_dgS ?_ | refine i_try ?_
    | refine f_lenE ?_ | refine f_lenI ?_ | refine f_lenM ?_ | refine f_lenL ?_ | refine f_lenT ?_ | refine f_intI ?_ | refine f_intB ?_ | refine f_absI ?_ | refine f_tupL ?_ | refine f_tupT ?_ | refine f_lstL ?_ | refine f_lstT ?_ | refine f_gcdI ?_ | refine i_isC ?_ | refine i_isCM ?_ | refine o_neE ?_
    | refine o_ixP0 ?_ | refine o_ixS0 ?_ | refine o_ixS1 ?_ | refine f_lenTI' ?_ | refine o_ixP1 ?_ | refine o_inT ?_ | refine o_ninT ?_
    | refine o_isN ?_ | refine o_isnN ?_ | refine o_isB ?_ | refine o_isnB ?_
    | refine loop_nil ?_
    | refine i_truL ?_ | refine i_truT ?_ | refine i_truI ?_)
  | (with_reducible refine i_var (by with_unfolding_all rfl) ?_)
  | (with_reducible refine i_callU (by with_unfolding_all rfl) (by with_unfolding_all rfl) ?_)
  | ((with_reducible refine o_IC ?_ ?_); · leaf_len)
  | ((with_reducible refine o_mulI ?_ ?_); · leaf_len)
  | (with_reducible refine i_varO (by with_unfolding_all rfl) ?_)
  | (with_reducible refine i_wN (by with_unfolding_all rfl) ?_)
  | (with_reducible refine i_gtup (by with_unfolding_all rfl) (by with_unfolding_all rfl) ?_)
  | (with_reducible refine i_aug (by with_unfolding_all rfl) ?_)
  | (with_reducible refine i_mb rfl (by with_unfolding_all rfl) ?_)
  | (with_reducible refine i_mb0 rfl (by with_unfolding_all rfl) ?_)
  | ((with_reducible refine m_appI ?_ ?_); · leaf_len)
  | ((with_reducible refine m_app ?_ ?_); · leaf_len)
  | (with_reducible refine i_dcZ (by with_unfolding_all rfl) (fun _ _ => ?_))
  | (with_reducible refine i_setDcZ (by with_unfolding_all rfl) (fun _ _ => ?_))
  | (with_reducible refine i_setD (by with_unfolding_all rfl) ?_)
  | (with_reducible refine i_dgT (by with_unfolding_all rfl) ?_)
  | ((with_reducible refine i_dpI ?_ ?_); · leaf_len)
  | ((with_reducible show ∃ d, _ = some (Sl.own d) ∧ _); refine ⟨_, rfl, ?_⟩)
  | (with_reducible refine i_setL (by with_unfolding_all rfl) ?_)
  | (with_reducible refine i_augL (by with_unfolding_all rfl) ?_)
  | (with_reducible refine i_setF (by with_unfolding_all rfl) ?_)
  | (with_reducible refine i_stN (by with_unfolding_all rfl) ?_)
  | ((with_reducible refine o_ix0 ?_ ?_); · first | assumption | exact four_getD (by assumption) (by assumption) (by assumption))
  | ((with_reducible refine o_ix1 ?_ ?_); · first | assumption | exact four_getD (by assumption) (by assumption) (by assumption))
  | ((with_reducible refine o_ixEv ?_ ?_ ?_ ?_); (· assumption); (· first | assumption | omega); (· first | assumption | omega))
  | ((with_reducible refine o_mulL ?_ ?_ ?_); (· omega); (· omega))
  | ((with_reducible refine o_addTI ?_ ?_); · omega)
  | ((with_reducible refine o_addT ?_ ?_); · leaf_len)
  | ((with_reducible refine o_addL ?_ ?_); · leaf_len)
  | ((with_reducible refine isi_int ?_ ?_); · first | assumption | exact ⟨_, rfl⟩)
  | ((with_reducible refine isi_bool ?_ ?_); · first | assumption | exact ⟨_, rfl⟩)
  | ((with_reducible refine isi_tup ?_ ?_); · first | assumption | exact ⟨_, rfl⟩)
  | ((with_reducible refine isi_lst ?_ ?_); · first | assumption | exact ⟨_, rfl⟩)
  | ((with_reducible refine isi_str ?_ ?_); · first | assumption | exact ⟨_, rfl⟩)
  | ((with_reducible refine iteTb ?_ ?_); · exact rfl)
  | ((with_reducible refine iteFb ?_ ?_); · exact rfl)
  | ((with_reducible refine iteTb ?_ ?_); · assumption)
  | ((with_reducible refine iteFb ?_ ?_); · assumption)
  | (with_reducible refine i_aft (by with_unfolding_all rfl) ?_)
  | ((with_reducible refine iteDT ?_ ?_); · first | assumption | omega)
  | ((with_reducible refine iteDF ?_ ?_); · first | assumption | omega)
  | ((with_reducible refine iteNT ?_ ?_); · first | assumption | omega)
  | ((with_reducible refine iteNF ?_ ?_); · first | assumption | omega)
  | ((with_reducible show ∃ ds, dsO _ _ = some ds ∧ _); refine ⟨_, rfl, ?_⟩)
  | ((with_reducible show ∃ s, RV.out _ _ = some s ∧ _); refine ⟨_, rfl, ?_⟩)
  | ((with_reducible show ∃ ds d, dsO _ _ = some ds ∧ _); refine ⟨_, _, rfl, rfl, ?_⟩)
  | ((with_reducible show ∃ d, dsO _ _ = some [d] ∧ _); refine ⟨_, rfl, ?_⟩)
  | ((with_reducible show ∃ y, RV.d _ _ = some y ∧ _); refine ⟨_, rfl, ?_⟩)
  | ((with_reducible show ∃ (y : D) (fs : List (Str × D)), RV.d _ _ = some y ∧ _); refine ⟨_, _, rfl, rfl, by first | exact putD_lt (by decide) | decide, ?_⟩)
  | ((with_reducible show ∃ ds, seqD _ = some ds ∧ _); refine ⟨_, rfl, ?_⟩)
  | ((with_reducible show ∃ d e, dsO _ _ = some [d, e] ∧ _); refine ⟨_, _, rfl, ?_⟩)
  | ((with_reducible show ∃ (fs : List (Str × D)) (y : D), D.ins _ _ = .ins _ fs ∧ _); refine ⟨_, _, rfl, rfl, ?_⟩)
  | ((with_reducible show ∃ (fs : List (Str × D)) (y : D), machD _ _ _ = .ins _ fs ∧ _); refine ⟨_, _, rfl, rfl, ?_⟩)
  | ((with_reducible show _ ≤ sizeLine ∧ _); refine ⟨?_, ?_⟩; · leaf_len)
  | ((with_reducible show _ < sizeLine ∧ _); refine ⟨?_, ?_⟩; · leaf_len))

variable {P : Program} {w : World} {K : PySem.W.Frag} {mg : Str → Option Value} {base : Heap} {A : Ad}
theorem small_lx {x y t p : Int} (xb : x.natAbs ≤ 1000000000000000000000000000000) (yb : y ≤ 1000000000000000000000000000000) (y1 : 1 ≤ y) (bt : t.natAbs ≤ 5000) (bp : p.natAbs ≤ 2000000000) : small (y * p - x * t) := by
  have h1 : (y * p).natAbs ≤ 1000000000000000000000000000000 * 2000000000 := by rw [Int.natAbs_mul]; exact Nat.mul_le_mul (by omega) bp
  have h2 : (x * t).natAbs ≤ 1000000000000000000000000000000 * 5000 := by rw [Int.natAbs_mul]; exact Nat.mul_le_mul xb bt
  unfold small
  omega
theorem low_zero {p t g : Int} (d1 : g ∣ p) (d2 : g ∣ t) (g0 : g ≠ 0) : t / g * p - p / g * t = 0 := by
  obtain ⟨c, rfl⟩ := d1
  obtain ⟨d, rfl⟩ := d2
  rw [Int.mul_ediv_cancel_left _ g0, Int.mul_ediv_cancel_left _ g0]
  grind
theorem mod_rest {m U W : Int} (h : m ∣ U - W) : (U - W % m) % m = 0 := by
  apply Int.emod_eq_zero_of_dvd
  have e : U - W % m = (U - W) + m * (W / m) := by have := Int.emod_def W m; omega
  rw [e]
  exact Int.dvd_add h ⟨_, rfl⟩
theorem two_or {A B P G : Prop} (h : A ∨ B) (p : P) (a : A → P → G) (b : B → P → G) : G := h.elim (fun x => a x p) (fun x => b x p)
theorem step_dvd {n : Int} {evs : List (List Int)} (ok : ∀ e ∈ evs, okEv n e) (n0 : 0 ≤ n) (hl : evs.length ≤ 1000) {b a' g x y m : Int} {w : List Int} (bM : b ∈ mutL evs n.toNat b) (aM : a' ∈ mutL evs n.toNat b) (hg : g ∈ outsI evs b) (eA : evA (evs.getD g.toNat []) = a')
    (w1 : walkTo evs b w = some a') (w2 : ∀ g ∈ w, g ∈ inL evs (mutL evs n.toNat b)) (mp : MsP evs (mutL evs n.toNat b) x y m) : m ∣ Lw evs y x [g] - Lw evs y x w := by
  obtain ⟨R, r1, r2⟩ := inner_walk ok n0 hl aM bM
  obtain ⟨g0, g1, gB⟩ := outsI_mem.mp hg
  have cw := (mp.2 m).mp (Int.dvd_refl m)
  have gi : g ∈ inL evs (mutL evs n.toNat b) := inL_mem.mpr ⟨⟨g0, g1⟩, by rw [gB]; exact bM, by rw [eA]; exact aM⟩
  have wg : walkTo evs b [g] = some a' := by rw [← eA]; exact walk_snoc (run := []) rfl hg
  have d1 := cw b ([g] ++ R) bM (by rw [walkTo_app, wg]; exact r1) (fun q hq => by
    rcases List.mem_append.mp hq with hq | hq
    · rw [List.mem_singleton.mp hq]; exact gi
    · exact r2 q hq)
  have d2 := cw b (w ++ R) bM (by rw [walkTo_app, w1]; exact r1) (fun q hq => by
    rcases List.mem_append.mp hq with hq | hq
    · exact w2 q hq
    · exact r2 q hq)
  rw [Lw_app] at d1 d2
  have d3 := Int.dvd_sub d1 d2
  have e : Lw evs y x [g] + Lw evs y x R - (Lw evs y x w + Lw evs y x R) = Lw evs y x [g] - Lw evs y x w := by omega
  rwa [e] at d3
theorem ok_law (T : Txt K mg A) : FnOk P w K mg base CX0 7 A.f_law A.d_law ["script"] (spLaw K) := by
  refine T.F_law.ok sc_law (fun vs H Q E h => ?_) (fun cdv A1 outer s H vs Q E hr h => ?_)
  · obtain ⟨a, ns, rfl, _⟩ := h
    rfl
  · obtain ⟨a, ns, rfl, hS, hlen, q⟩ := h
    refine ⟨_, (pss_cons (ps_set (i := 1) sc_law.nd rfl (Or.inl rfl) (pe_call (ok_law_pot T) (hr.mono (by decide)) rfl T.m_law_pot T.F_law_pot.kp T.B_law_pot .nil pass0 (pa_cons (pv 0) pa_nil))) (QSs.ps (K := K) (W := W0) (kx := kx0) (qss_cons (qs_set (i := 2) sc_law.nd rfl (Or.inl rfl) (q_add (q_int rfl) (q_call (draw_ok (ok_law_draw T)) (hr.mono (by decide)) (by rfl) T.m_law_draw T.F_law_draw.kp T.B_law_draw takes0 (qa_cons (q_var rfl (pv 1)) (qa_cons (q_int rfl) (qa_nil rfl))))))
      (qss_cons (qs_set (i := 3) sc_law.nd rfl (Or.inl rfl) (q_lst (qa_nil rfl)))
      (qss_cons (qs_for PassesOwn.never rfl (qi_range1 rfl T.z_range (qa_cons (q_add (q_int rfl) (q_call (draw_ok (ok_law_draw T)) (hr.mono (by decide)) (by rfl) T.m_law_draw T.F_law_draw.kp T.B_law_draw takes0 (qa_cons (q_var rfl (pv 1)) (qa_cons (q_int rfl) (qa_nil rfl))))) (qa_nil rfl))) (qg_name (i := 4) rfl sc_law.nd rfl (Or.inl rfl))
        (qss_cons (qs_set (i := 5) sc_law.nd rfl (Or.inl rfl) (q_mod (q_callTy f_int sim_int (by rfl) T.z_int (by decide +kernel) (qa_cons (q_var rfl (pv 4)) (qa_nil rfl))) (q_var rfl (pv 2))))
      (qss_cons (qs_set (i := 6) sc_law.nd rfl (Or.inl rfl) (q_ix (q_lst (qa_cons (q_mod (q_callTy f_int sim_int (by rfl) T.z_int (by decide +kernel) (qa_cons (q_add (q_var rfl (pv 5)) (q_int rfl)) (qa_nil rfl))) (q_var rfl (pv 2))) (qa_cons (q_call (draw_ok (ok_law_draw T)) (hr.mono (by decide)) (by rfl) T.m_law_draw T.F_law_draw.kp T.B_law_draw takes0 (qa_cons (q_var rfl (pv 1)) (qa_cons (q_var rfl (pv 2)) (qa_nil rfl)))) (qa_nil rfl)))) (q_callTy f_int sim_int (by rfl) T.z_int (by decide +kernel) (qa_cons (q_cmp1 (c_eq rfl (hu64 hr)) (q_call (draw_ok (ok_law_draw T)) (hr.mono (by decide)) (by rfl) T.m_law_draw T.F_law_draw.kp T.B_law_draw takes0 (qa_cons (q_var rfl (pv 1)) (qa_cons (q_int rfl) (qa_nil rfl)))) (q_int rfl) (nomark _)) (qa_nil rfl))) (fun _ _ => rfl)))
      (qss_one (qs_expr (q_mb (qa_cons (q_tup (qa_cons (q_var rfl (pv 5)) (qa_cons (q_var rfl (pv 6)) (qa_cons (q_add (q_int rfl) (q_call (draw_ok (ok_law_draw T)) (hr.mono (by decide)) (by rfl) T.m_law_draw T.F_law_draw.kp T.B_law_draw takes0 (qa_cons (q_var rfl (pv 1)) (qa_cons (q_int rfl) (qa_nil rfl))))) (qa_cons (q_sub (q_call (draw_ok (ok_law_draw T)) (hr.mono (by decide)) (by rfl) T.m_law_draw T.F_law_draw.kp T.B_law_draw takes0 (qa_cons (q_var rfl (pv 1)) (qa_cons (q_int rfl) (qa_nil rfl)))) (q_int rfl)) (qa_nil rfl)))))) (qa_nil rfl)) (fun h => pe_bm PySem.F.plainAttrs_list PySem.F.slot_list_append PySem.F.type_list_append mt_append (pv 3) h) sim_append))))))
      (qss_cons (qs_set (i := 7) sc_law.nd rfl (Or.inl rfl) (q_tup (qa_cons (q_var rfl (pv 2)) (qa_cons (q_callTy (f_tup rfl) sim_tup (by rfl) T.z_tuple (by decide +kernel) (qa_cons (q_var rfl (pv 3)) (qa_nil rfl))) (qa_nil rfl)))))
      (qss_cons (qs_set (i := 8) sc_law.nd rfl (Or.inl rfl) (q_make T.mk_Machine (oi_Machine T) (hr.mono (by decide)) rfl T.m_Machine T.B_Machine___init__ takes0 (fun _ _ _ _ => Iff.rfl) (qa_cons (q_var rfl (pv 2)) (qa_cons (q_ix (q_var rfl (pv 7)) (q_int rfl) (fun _ _ => rfl)) (qa_nil rfl)))))
      (qss_cons (qs_set (i := 9) sc_law.nd rfl (Or.inl rfl) (q_lst (qa_cons (q_call (oq_law_share T) (hr.mono (by decide)) (by rfl) T.m_law_share T.F_law_share.kp T.B_law_share takes0 (qa_cons (q_var rfl (pv 1)) (qa_cons (q_int rfl) (qa_nil rfl)))) (qa_cons (q_call (oq_law_low T) (hr.mono (by decide)) (by rfl) T.m_law_low T.F_law_low.kp T.B_law_low takes0 (qa_cons (q_sub (q_call (draw_ok (ok_law_draw T)) (hr.mono (by decide)) (by rfl) T.m_law_draw T.F_law_draw.kp T.B_law_draw takes0 (qa_cons (q_var rfl (pv 1)) (qa_cons (q_pow (q_int rfl) (q_int rfl)) (qa_nil rfl)))) (q_pow (q_int rfl) (q_int rfl))) (qa_cons (q_add (q_int rfl) (q_call (draw_ok (ok_law_draw T)) (hr.mono (by decide)) (by rfl) T.m_law_draw T.F_law_draw.kp T.B_law_draw takes0 (qa_cons (q_var rfl (pv 1)) (qa_cons (q_sub (q_pow (q_int rfl) (q_int rfl)) (q_int rfl)) (qa_nil rfl))))) (qa_nil rfl)))) (qa_nil rfl)))))
      (qss_cons (qs_set (i := 10) sc_law.nd rfl (Or.inl rfl) (q_call (oq_law_reached T) (hr.mono (by decide)) (by rfl) T.m_law_reached T.F_law_reached.kp T.B_law_reached takes0 (qa_cons (q_var rfl (pv 7)) (qa_nil rfl))))
      (qss_cons (qs_for PassesOwn.never rfl (qi_seq (q_var rfl (pv 9))) (qg_name (i := 11) rfl sc_law.nd rfl (Or.inl rfl))
        (qss_one (qs_for PassesOwn.never rfl (qi_seq (q_var rfl (pv 10))) (qg_name (i := 12) rfl sc_law.nd rfl (Or.inl rfl))
        (qss_cons (qs_set (i := 13) sc_law.nd rfl (Or.inl rfl) (q_int rfl))
      (qss_cons (qs_for PassesOwn.never rfl (qi_seq (q_call (oq_net T) (hr.mono (by decide)) (by rfl) T.m_net T.F_net.kp T.B_net takes0 (qa_cons (q_var rfl (pv 8)) (qa_cons (q_var rfl (pv 12)) (qa_nil rfl))))) (qg_tup 2 rfl (qgs_cons (qg_name (i := 14) rfl sc_law.nd rfl (Or.inl rfl)) (qgs_cons (qg_name (i := 15) rfl sc_law.nd rfl (Or.inl rfl)) (qgs_nil rfl))) rfl rfl)
        (qss_one (qs_set (i := 13) sc_law.nd rfl (Or.inl rfl) (q_call (oq_law_gcd T) (hr.mono (by decide)) (by rfl) T.m_law_gcd T.F_law_gcd.kp T.B_law_gcd takes0 (qa_cons (q_var rfl (pv 13)) (qa_cons (q_sub (q_mul (q_ix (q_var rfl (pv 11)) (q_int rfl) (fun _ _ => rfl)) (q_var rfl (pv 15))) (q_mul (q_ix (q_var rfl (pv 11)) (q_int rfl) (fun _ _ => rfl)) (q_var rfl (pv 14)))) (qa_nil rfl)))))))
      (qss_one (qs_if (qt_cmp1 (c_ne rfl (hu64 hr)) (q_call (oq_measure T) (hr.mono (by decide)) (by rfl) T.m_measure T.F_measure.kp T.B_measure takes0 (qa_cons (q_var rfl (pv 8)) (qa_cons (q_var rfl (pv 11)) (qa_cons (q_var rfl (pv 12)) (qa_nil rfl))))) (q_var rfl (pv 13)) (nomark _)) (qss_one (qs_ret (q_bl rfl))) (qss_nil rfl))))))))
      (qss_cons (qs_set (i := 11) sc_law.nd rfl (Or.inl rfl) (q_ix (q_var rfl (pv 9)) (q_call (draw_ok (ok_law_draw T)) (hr.mono (by decide)) (by rfl) T.m_law_draw T.F_law_draw.kp T.B_law_draw takes0 (qa_cons (q_var rfl (pv 1)) (qa_cons (q_int rfl) (qa_nil rfl)))) (fun _ _ => rfl)))
      (qss_cons (qs_for PassesOwn.never rfl (qi_range1 rfl T.z_range (qa_cons (q_callB (f_len rfl) sim_len (by rfl) T.z_len (by decide +kernel) (qa_cons (q_var rfl (pv 3)) (qa_nil rfl))) (qa_nil rfl))) (qg_name (i := 16) rfl sc_law.nd rfl (Or.inl rfl))
        (qss_cons (qs_asg (q_slice (q_ix (q_var rfl (pv 3)) (q_var rfl (pv 16)) (fun _ _ => rfl)) (qo_none rfl) (qo_some (q_int rfl))) (qg_tup 2 rfl (qgs_cons (qg_name (i := 5) rfl sc_law.nd rfl (Or.inl rfl)) (qgs_cons (qg_name (i := 6) rfl sc_law.nd rfl (Or.inl rfl)) (qgs_nil rfl))) rfl rfl))
      (qss_cut (qs_if (QW.qt (qw_and (qt_cmp1 (c_in rfl (hu65 hr)) (q_var rfl (pv 5)) (q_var rfl (pv 10)) (by with_unfolding_all rfl)) (qw_and1 (qt_cmp1 (c_in rfl (hu65 hr)) (q_var rfl (pv 5)) (q_call (oq_law_leads T) (hr.mono (by decide)) (by rfl) T.m_law_leads T.F_law_leads.kp T.B_law_leads takes0 (qa_cons (q_var rfl (pv 7)) (qa_cons (q_var rfl (pv 6)) (qa_nil rfl)))) (by with_unfolding_all rfl))))) (qss_cons (qs_set (i := 17) sc_law.nd rfl (Or.inl rfl) (q_call (oq_measure T) (hr.mono (by decide)) (by rfl) T.m_measure T.F_measure.kp T.B_measure takes0 (qa_cons (q_var rfl (pv 8)) (qa_cons (q_var rfl (pv 11)) (qa_cons (q_var rfl (pv 5)) (qa_nil rfl))))))
      (qss_cons (qs_set (i := 18) sc_law.nd rfl (Or.inl rfl) (q_sub (q_call (oq_lift T) (hr.mono (by decide)) (by rfl) T.m_lift T.F_lift.kp T.B_lift takes0 (qa_cons (q_var rfl (pv 8)) (qa_cons (q_var rfl (pv 11)) (qa_cons (q_var rfl (pv 16)) (qa_nil rfl))))) (q_call (oq_lead T) (hr.mono (by decide)) (by rfl) T.m_lead T.F_lead.kp T.B_lead takes0 (qa_cons (q_var rfl (pv 8)) (qa_cons (q_var rfl (pv 11)) (qa_cons (q_var rfl (pv 5)) (qa_cons (q_var rfl (pv 6)) (qa_nil rfl))))))))
      (qss_one (qs_if (QW.qt (qw_or (QW.qt (qw_and (qt_cmp1 (c_eq rfl (hu64 hr)) (q_var rfl (pv 17)) (q_int rfl) (nomark _)) (qw_and1 (qt_cmp1 (c_ne rfl (hu64 hr)) (q_var rfl (pv 18)) (q_int rfl) (nomark _))))) (qw_or1 (QW.qt (qw_and (qt_cmp1 c_gt (q_var rfl (pv 17)) (q_int rfl) (nomark _)) (qw_and1 (qt_cmp1 (c_ne rfl (hu64 hr)) (q_mod (q_var rfl (pv 18)) (q_var rfl (pv 17))) (q_int rfl) (nomark _)))))))) (qss_one (qs_ret (q_bl rfl))) (qss_nil rfl))))) (qss_nil rfl))
      (qss_one (qs_if (QW.qt (qw_and (qt_cmp1 (c_eq rfl (hu64 hr)) (q_var rfl (pv 5)) (q_var rfl (pv 6)) (nomark _)) (qw_and1 (qt_cmp1 (c_ne rfl (hu64 hr)) (q_call (oq_lift T) (hr.mono (by decide)) (by rfl) T.m_lift T.F_lift.kp T.B_lift takes0 (qa_cons (q_var rfl (pv 8)) (qa_cons (q_call (oq_law_low T) (hr.mono (by decide)) (by rfl) T.m_law_low T.F_law_low.kp T.B_law_low takes0 (qa_cons (q_ix (q_ix (q_var rfl (pv 3)) (q_var rfl (pv 16)) (fun _ _ => rfl)) (q_int rfl) (fun _ _ => rfl)) (qa_cons (q_ix (q_ix (q_var rfl (pv 3)) (q_var rfl (pv 16)) (fun _ _ => rfl)) (q_int rfl) (fun _ _ => rfl)) (qa_nil rfl)))) (qa_cons (q_var rfl (pv 16)) (qa_nil rfl))))) (q_int rfl) (nomark _))))) (qss_one (qs_ret (q_bl rfl))) (qss_nil rfl))))))
      (qss_one (qs_ret (q_bl rfl))))))))))))))), ?_⟩
    refine ⟨_, rfl, a, ns, rfl, hS, hlen, fun p H1 hp1 s1 _ => ?_⟩
    refine law_run (H := H1) (N := 17) hp1 rfl (fun H => q H) ?_
    repeat tb_rel
    refine ⟨_, rfl, by omega, small_of (by omega), fun n' n0 n1 => ?_⟩
    obtain ⟨n, hn'⟩ : ∃ n : Int, n = 1 + n' := ⟨_, rfl⟩
    have n2 : 1 ≤ n := by omega
    have n3 : n ≤ 12 := by omega
    repeat tb_rel
    rw [← hn']
    clear hn' n0 n1 n'
    refine ⟨_, rfl, by omega, small_of (by omega), fun l l0 l1 => ?_⟩
    repeat tb_rel
    refine ⟨_, rfl, by omega, by omega, ?_⟩
    refine loop_rg (fun i e => ∃ evs u4 u5 u6, e = [.val (.ad a), .val .pot, .val (.int n), .own (.lst (evs.map tupI)), u4, u5, u6, .no, .no, .no, .no, .no, .no, .no, .no, .no, .no, .no, .no] ∧ (∀ e ∈ evs, okEv n e) ∧ evs.length = i) ⟨[], _, _, _, rfl, (fun _ h => by cases h), rfl⟩ ?_ ?_
    · rintro i e hi ⟨evs, u4, u5, u6, rfl, ok, hl⟩ nx hn hx
      have fin : ∀ (b a' t p : Int) (u4 u5 u6 : Sl), 0 ≤ b → b < n → 0 ≤ a' → a' < n → 1 ≤ t → t ≤ 40 → -400 ≤ p → p ≤ 400 → nx [.val (.ad a), .val .pot, .val (.int n), .own (.lst (evs.map tupI ++ [.tup [.int b, .int a', .int t, .int p]])), u4, u5, u6, .no, .no, .no, .no, .no, .no, .no, .no, .no, .no, .no, .no] := by
        intro b a' t p u4 u5 u6 h1 h2 h3 h4 h5 h6 h7 h8
        have q := hn _ ⟨evs ++ [[b, a', t, p]], u4, u5, u6, rfl, (fun e he => by
          rcases List.mem_append.mp he with z | z
          · exact ok e z
          · rw [List.mem_singleton.mp z]; exact ⟨b, a', t, p, rfl, h1, h2, h3, h4, h5, h6, h7, h8⟩), by simp; omega⟩
        rw [List.map_append] at q
        exact q
      have np : 0 < n := by omega
      have md : ∀ x : Int, 0 ≤ x % n ∧ x % n < n := fun x => ⟨Int.emod_nonneg _ (by omega), Int.emod_lt_of_pos _ np⟩
      (repeat tb_rel)
      refine ⟨_, rfl, by omega, small_of (by omega), fun g g0 g1 => ?_⟩
      repeat tb_rel
      refine ⟨_, rfl, by omega, small_of (by omega), fun r r0 r1 => ?_⟩
      repeat tb_rel
      have e : (if decide (r = 0) = true then (1 : Int) else 0) = 0 ∨ (if decide (r = 0) = true then (1 : Int) else 0) = 1 := by split <;> simp
      have m1 := md (0 + (i : Int))
      have m2 := md ((0 + (i : Int)) % n + 1)
      rcases e with e | e
      all_goals
        rw [e]
        refine o_ixL rfl ?_
        repeat tb_rel
        refine ⟨_, rfl, by omega, small_of (by omega), fun t t0 t1 => ?_⟩
        repeat tb_rel
        refine ⟨_, rfl, by omega, small_of (by omega), fun p p0 p1 => ?_⟩
        (repeat tb_rel)
        first
        | exact fin _ _ _ _ _ _ _ m1.1 m1.2 m2.1 m2.2 (by omega) (by omega) (by omega) (by omega)
        | exact fin _ _ _ _ _ _ _ m1.1 m1.2 g0 g1 (by omega) (by omega) (by omega) (by omega)
    · rintro e ⟨evs, u4, u5, u6, rfl, ok, hl⟩
      have f4 := four_all ok
      have hl3 : evs.length ≤ 30 := by omega
      have hl1 : evs.length ≤ 1000 := by omega
      clear hl l0 l1 l
      (repeat tb_rel)
      rw [show D.tup [D.int n, D.tup (List.map tupI evs)] = partsD n evs from rfl]
      (repeat tb_rel)
      refine ⟨n, evs, rfl, n2, n3, hl3, ok, ?_⟩
      (repeat tb_rel)
      refine ⟨6, rfl, by decide, by decide, fun a1 b1 sh1 a1b b1b => ?_⟩
      (repeat tb_rel)
      rw [show (10 : Int) ^ Int.toNat 30 = 1000000000000000000000000000000 from by decide]
      refine ⟨_, rfl, by decide, by unfold small; decide, fun t t0 t1 => ?_⟩
      (repeat tb_rel)
      rw [show (10 : Int) ^ Int.toNat 29 = 100000000000000000000000000000 from by decide]
      (repeat tb_rel)
      rw [show (10 : Int) ^ Int.toNat 30 = 1000000000000000000000000000000 from by decide]
      (repeat tb_rel)
      refine ⟨_, rfl, by decide, by unfold small; decide, fun r r0 r1 => ?_⟩
      (repeat tb_rel)
      have hb : (0 : Int) < 1 + r := by omega
      obtain ⟨h1, h2, h3⟩ := low_one (p := t - 100000000000000000000000000000) hb
      have h4 := (low_bd (P := t - 100000000000000000000000000000) hb).1
      refine ⟨_, _, rfl, hb, by unfold small; omega, ?_⟩
      obtain ⟨a2, ha2⟩ : ∃ x, x = (t - 100000000000000000000000000000) / gcdI (t - 100000000000000000000000000000) (1 + r) := ⟨_, rfl⟩
      obtain ⟨b2, hb2⟩ : ∃ x, x = (1 + r) / gcdI (t - 100000000000000000000000000000) (1 + r) := ⟨_, rfl⟩
      rw [← ha2, ← hb2] at h1
      rw [← hb2] at h2 h3
      rw [← ha2] at h4
      rw [← ha2, ← hb2]
      have sh2 : ShI a2 b2 := ⟨h2, h1⟩
      have a2b : a2.natAbs ≤ 1000000000000000000000000000000 := by omega
      have b2b : b2 ≤ 1000000000000000000000000000000 := by omega
      clear ha2 hb2 h1 h2 h3 h4 hb
      (repeat tb_rel)
      try clear r0 r1 t0 t1
      try clear r t
      refine ⟨n, evs, rfl, n2, by omega, hl1, ok, ?_⟩
      (repeat tb_rel)
      have both : ∀ d ∈ [tupI [a1, b1], tupI [a2, b2]], ∃ x y, d = tupI [x, y] ∧ ShI x y ∧ x.natAbs ≤ 1000000000000000000000000000000 ∧ y ≤ 1000000000000000000000000000000 := by
        intro d hd
        simp only [List.mem_cons, List.not_mem_nil, or_false] at hd
        rcases hd with rfl | rfl
        · exact ⟨a1, b1, rfl, sh1, by omega, by omega⟩
        · exact ⟨a2, b2, rfl, sh2, a2b, b2b⟩
      refine loop_inv (fun j e => ∃ v1 v2 v3 v4 v5, e = [.val (.ad a), .val .pot, .val (.int n), .own (.lst (evs.map tupI)), u4, u5, u6, .val (partsD n evs), .val (.ins A.C_Machine (machF n evs)), .val (.lst [tupI [a1, b1], tupI [a2, b2]]), if j = 0 then Sl.own (lstI (rchL evs n.toNat 0)) else Sl.val (lstI (rchL evs n.toNat 0)), v1, v2, v3, v4, v5, .no, .no, .no]) ⟨_, _, _, _, _, rfl⟩ ?_ ?_
      · rintro j d e hd ⟨v1, v2, v3, v4, v5, rfl⟩ nx hn hx
        obtain ⟨x, y, rfl, sh, xb, yb⟩ := both d (List.mem_of_getElem? hd)
        obtain ⟨u, hu, eu⟩ : ∃ u, (if j = 0 then Sl.own (lstI (rchL evs n.toNat 0)) else Sl.val (lstI (rchL evs n.toNat 0))) = u ∧ (u = Sl.own (lstI (rchL evs n.toNat 0)) ∨ u = Sl.val (lstI (rchL evs n.toNat 0))) := ⟨_, rfl, by split <;> simp⟩
        rw [hu]
        refine' two_or eu ?kk0 (fun e key => ?kk1) (fun e key => ?kk2)
        case kk1 =>
          rw [e]
          (repeat tb_rel)
          exact key
        case kk2 =>
          rw [e]
          (repeat tb_rel)
          exact key
        case kk0 =>
          clear hu eu
          refine loop_inv (fun j e => ∃ v2 v3 v4 v5, e = [.val (.ad a), .val .pot, .val (.int n), .own (.lst (evs.map tupI)), u4, u5, u6, .val (partsD n evs), .val (.ins A.C_Machine (machF n evs)), .val (.lst [tupI [a1, b1], tupI [a2, b2]]), .val (lstI (rchL evs n.toNat 0)), .val (tupI [x, y]), v2, v3, v4, v5, .no, .no, .no]) ⟨_, _, _, _, rfl⟩ ?_ ?_
          · rintro j2 d2 e hd2 ⟨v2, v3, v4, v5, rfl⟩ nx2 hn2 hx2
            obtain ⟨s, hs, rfl⟩ := mapD_get hd2
            have sm := List.mem_of_getElem? hs
            (repeat tb_rel)
            refine ⟨n, evs, s, rfl, n2, by omega, hl1, ok, sm, fun nd nc => ?_⟩
            (repeat tb_rel)
            refine loop_inv (fun j e => ∃ m v4 v5, e = [.val (.ad a), .val .pot, .val (.int n), .own (.lst (evs.map tupI)), u4, u5, u6, .val (partsD n evs), .val (.ins A.C_Machine (machF n evs)), .val (.lst [tupI [a1, b1], tupI [a2, b2]]), .val (lstI (rchL evs n.toNat 0)), .val (tupI [x, y]), .val (.int s), .val (.int m), v4, v5, .no, .no, .no] ∧ 0 ≤ m ∧ ∀ d : Int, d ∣ m ↔ ∀ e ∈ nd.take j, d ∣ Lx y x (e.getD 0 0) (e.getD 1 0)) ⟨0, _, _, rfl, Int.le_refl 0, fun d => ⟨fun _ e he => by simp at he, fun _ => Int.dvd_zero d⟩⟩ ?_ ?_
            · rintro j3 d3 e hd3 ⟨m, v4, v5, rfl, m0, hm⟩ nx3 hn3 hx3
              obtain ⟨q, hq, rfl⟩ := mapD_get hd3
              obtain ⟨t, p, rfl, bt, bp⟩ := nc.bd q (List.mem_of_getElem? hq)
              (repeat tb_rel)
              refine ⟨_, _, rfl, small_lx xb yb sh.1 bt bp, ?_⟩
              (repeat tb_rel)
              refine hn3 _ ⟨_, _, _, rfl, by unfold gcdI; omega, fun d => ?_⟩
              rw [show gcdI m (y * p - x * t) = ((Nat.gcd m.natAbs (y * p - x * t).natAbs : Nat) : Int) from rfl, dvd_gcdI, hm d, take_succ hq]
              constructor
              · rintro ⟨h1, h2⟩ e he
                rcases List.mem_append.mp he with he | he
                · exact h1 e he
                · rw [List.mem_singleton.mp he]; exact h2
              · intro h
                exact ⟨fun e he => h e (List.mem_append.mpr (.inl he)), h [t, p] (List.mem_append.mpr (.inr (by simp)))⟩
            · rintro e ⟨m, v4, v5, rfl, m0, hm⟩
              rw [List.length_map, List.take_length] at hm
              have mp : MsP evs (mutL evs n.toNat s) x y m := ⟨m0, fun d => (hm d).trans (nc.lat y x d)⟩
              (repeat tb_rel)
              refine ⟨n, evs, s, x, y, rfl, sh, n2, by omega, hl1, ok, sm, fun m' mp' => ?_⟩
              rw [mp'.uniq mp]
              (repeat tb_rel)
              exact hn2 _ ⟨_, _, _, _, rfl⟩
          · rintro e ⟨v2, v3, v4, v5, rfl⟩
            (repeat tb_rel)
            exact hn _ ⟨_, _, _, _, _, by rw [if_neg (Nat.succ_ne_zero j)]⟩
      · rintro e ⟨v1, v2, v3, v4, v5, rfl⟩
        rw [if_neg (fun z => by cases z)]
        (repeat tb_rel)
        refine ⟨_, rfl, by decide, by unfold small; decide, fun g g0 g1 => ?_⟩
        obtain ⟨x, y, ex, sh, xb, yb⟩ : ∃ x y, L2.atI [tupI [a1, b1], tupI [a2, b2]] g = some (tupI [x, y]) ∧ ShI x y ∧ x.natAbs ≤ 1000000000000000000000000000000 ∧ y ≤ 1000000000000000000000000000000 := by
          rcases (show g = 0 ∨ g = 1 by omega) with rfl | rfl
          · exact ⟨a1, b1, rfl, sh1, by omega, by omega⟩
          · exact ⟨a2, b2, rfl, sh2, a2b, b2b⟩
        (repeat tb_rel)
        refine o_ixL ex ?_
        clear ex both sh1 sh2 a1b b1b a2b b2b xb yb
        (repeat tb_rel)
        refine ⟨_, rfl, by omega, by omega, ?_⟩
        refine loop_rg (fun i e => ∃ u5 u6 u16 u17 u18, e = [.val (.ad a), .val .pot, .val (.int n), .own (.lst (evs.map tupI)), u4, u5, u6, .val (partsD n evs), .val (.ins A.C_Machine (machF n evs)), .val (.lst [tupI [a1, b1], tupI [a2, b2]]), .val (lstI (rchL evs n.toNat 0)), .val (tupI [x, y]), v2, v3, v4, v5, u16, u17, u18]) ⟨_, _, _, _, _, rfl⟩ ?_ ?_
        · rintro j e hj ⟨u5, u6, u16, u17, u18, rfl⟩ nx hn hx
          have jl : j < evs.length := by
            have := hj
            first | omega | (rw [List.length_map] at this; omega)
          obtain ⟨b, a', t, p, e1, c1, c2, c3, c4, c5, c6, c7, c8⟩ := ok (evs.getD j []) (by rw [List.getD_eq_getElem?_getD, List.getElem?_eq_getElem jl]; exact List.getElem_mem jl)
          have ej : (evs.map tupI)[j]? = some (tupI [b, a', t, p]) := by rw [List.getElem?_map, getD_at jl, e1]; rfl
          have hB : evB (evs.getD (0 + (j : Int)).toNat []) = b := by rw [show (0 + (j : Int)).toNat = j by omega, e1]; rfl
          have hA : evA (evs.getD (0 + (j : Int)).toNat []) = a' := by rw [show (0 + (j : Int)).toNat = j by omega, e1]; rfl
          have hT : evT (evs.getD (0 + (j : Int)).toNat []) = t := by rw [show (0 + (j : Int)).toNat = j by omega, e1]; rfl
          have hP : evP (evs.getD (0 + (j : Int)).toNat []) = p := by rw [show (0 + (j : Int)).toNat = j by omega, e1]; rfl
          have at_ : L2.atI (evs.map tupI) (0 + (j : Int)) = some (tupI [b, a', t, p]) := at_ge (by omega) (by rw [show (0 + (j : Int)).toNat = j by omega]; exact ej)
          (repeat tb_rel)
          refine o_ixL at_ ?_
          (repeat tb_rel)
          refine i_slT ?_
          (repeat tb_rel)
          rw [show cutD (List.map D.int [b, a', t, p]) none (some 2) = [.int b, .int a'] from rfl]
          (repeat tb_rel)
          have tp : 0 < t := by omega
          have shl : ShI (p / gcdI p t) (t / gcdI p t) := ⟨(low_one (p := p) tp).2.1, (low_one (p := p) tp).1⟩
          have lw0 : Lw evs (t / gcdI p t) (p / gcdI p t) [0 + (j : Int)] = 0 := by
            show Lx _ _ (sumT evs _) (sumP evs _) = 0
            rw [sumT_one, sumP_one, hT, hP]
            exact low_zero (Int.ofNat_dvd_left.mpr (Nat.gcd_dvd_left _ _)) (Int.ofNat_dvd_left.mpr (Nat.gcd_dvd_right _ _)) (by have := gcdI_pos (p := p) tp; omega)
          have hg : 0 + (j : Int) ∈ outsI evs b := outsI_mem.mpr ⟨by omega, by omega, hB⟩
          have st : Rch (stepsAll evs 0 1 n.toNat) b a' := .step .refl (by have := outs_way ok hg; rwa [hA] at this)
          clear hT hP
          refine ⟨fun e => ∃ u17 u18, e = [.val (.ad a), .val .pot, .val (.int n), .own (.lst (evs.map tupI)), u4, .val (.int b), .val (.int a'), .val (partsD n evs), .val (.ins A.C_Machine (machF n evs)), .val (.lst [tupI [a1, b1], tupI [a2, b2]]), .val (lstI (rchL evs n.toNat 0)), .val (tupI [x, y]), v2, v3, v4, v5, .val (.int (0 + (j : Int))), u17, u18], ?_, ?_⟩
          · (repeat tb_rel)
            refine o_inLI ?_
            by_cases c : b ∈ rchL evs n.toNat 0
            · (repeat tb_rel)
              refine ⟨n, evs, a', rfl, n2, by omega, hl1, ok, c3, c4, fun ks _ hks => ?_⟩
              (repeat tb_rel)
              refine o_inLI ?_
              by_cases cc : b ∈ ks
              · have bM : b ∈ mutL evs n.toNat b := pick_mem.mpr ⟨⟨c1, by omega⟩, .refl, .refl⟩
                have aM : a' ∈ mutL evs n.toNat b := pick_mem.mpr ⟨⟨c3, by omega⟩, st, (hks b).mp cc⟩
                have aR : a' ∈ rchL evs n.toNat 0 := pick_mem.mpr ⟨⟨c3, by omega⟩, (pick_mem.mp c).2.trans st⟩
                (repeat tb_rel)
                refine ⟨n, evs, b, x, y, rfl, sh, n2, by omega, hl1, ok, c, fun m mp => ?_⟩
                (repeat tb_rel)
                refine ⟨n, evs, 0 + (j : Int), x, y, rfl, sh, ok, by omega, by omega, ?_⟩
                (repeat tb_rel)
                refine ⟨n, evs, b, a', x, y, rfl, sh, n2, by omega, hl1, ok, c, aR, aM, fun w m' w1 w2 mp' => ?_⟩
                rw [mp'.uniq mp]
                have dv := step_dvd ok (by omega) hl1 bM aM hg hA w1 w2 mp
                have m0 := mp.1
                obtain ⟨V, hV⟩ : ∃ v, v = (if m = 0 then Lw evs y x w else Lw evs y x w % m) := ⟨_, rfl⟩
                obtain ⟨U, hU⟩ : ∃ v, v = Lw evs y x [0 + (j : Int)] := ⟨_, rfl⟩
                rw [← hV, ← hU]
                rw [← hU] at dv
                by_cases z : m = 0
                · have e0 : U - V = 0 := by
                    rw [if_pos z] at hV
                    rw [z] at dv
                    have := Int.zero_dvd.mp dv
                    omega
                  (repeat tb_rel)
                  exact ⟨_, _, rfl⟩
                · have m1 : 0 < m := by omega
                  have e0 : (U - V) % m = 0 := by
                    rw [if_neg z] at hV
                    rw [hV]
                    exact mod_rest dv
                  clear dv hV hU
                  (repeat tb_rel)
                  exact ⟨_, _, rfl⟩
              · (repeat tb_rel)
                exact ⟨_, _, rfl⟩
            · (repeat tb_rel)
              exact ⟨_, _, rfl⟩
          · rintro e ⟨u17, u18, rfl⟩
            (repeat tb_rel)
            by_cases ba : b = a'
            · (repeat tb_rel)
              refine o_ixL at_ ?_
              (repeat tb_rel)
              refine o_ixT rfl ?_
              (repeat tb_rel)
              refine o_ixL at_ ?_
              (repeat tb_rel)
              refine o_ixT rfl ?_
              (repeat tb_rel)
              refine ⟨p, t, rfl, by omega, by unfold small; omega, ?_⟩
              (repeat tb_rel)
              refine ⟨n, evs, 0 + (j : Int), _, _, rfl, shl, ok, by omega, by omega, ?_⟩
              rw [lw0]
              (repeat tb_rel)
              exact hn _ ⟨_, _, _, _, _, rfl⟩
            · (repeat tb_rel)
              exact hn _ ⟨_, _, _, _, _, rfl⟩
        · rintro e ⟨u5, u6, u16, u17, u18, rfl⟩
          (repeat tb_rel)
          try rfl
end
end Myk33

namespace Myk33
open PySem L2 My EnT Pl
theorem all_mk {l : PySem.W.OpenLaw} {w : World} {K : PySem.W.Frag} {h : Heap} {mg : Str → Option Value} {fa : Addr} (X : K.In h) (G : h.Ns mainGlobals mg) (hfa : mg "law" = some (.ref fa))
    {f1 f2 f3 f4 f5 f6 f7 f8 f9 f10 f11 f12 f13 f14 f15 f16 f17 f18 f19 f20 f21 f22 f23 f24 f25 f26 f27 f28 f29 f30 f31 f32 f33 f34 f35 f36 f37 f38 C_Machine C_NoEvent C_NoKnot C_NoShare C_NoStanding : Addr} {od1 an1 od2 an2 od3 an3 od4 an4 od5 an5 od6 an6 od7 an7 od8 an8 od9 an9 od10 an10 od11 an11 od12 an12 od13 an13 od14 an14 od15 an15 od16 an16 od17 an17 od18 an18 od19 an19 od20 an20 od21 an21 od22 an22 od23 an23 od24 an24 od25 an25 od26 an26 od27 an27 od28 an28 od29 an29 od30 an30 od31 an31 od32 an32 od33 an33 od34 an34 od35 an35 od36 an36 od37 an37 od38 an38 : Option Addr} {sl1 sl2 sl3 sl4 sl5 sl6 sl7 sl8 sl9 sl10 sl11 sl12 sl13 sl14 sl15 sl16 sl17 sl18 sl19 sl20 sl21 sl22 sl23 sl24 sl25 sl26 sl27 sl28 sl29 sl30 sl31 sl32 sl33 sl34 sl35 sl36 sl37 sl38 : Array (Option Value)}
    {oc1 kV1 dc1 pm1 cd1 ct1 oc2 kV2 dc2 pm2 cd2 ct2 oc3 kV3 dc3 pm3 cd3 ct3 oc4 kV4 dc4 pm4 cd4 ct4 oc5 kV5 dc5 pm5 cd5 ct5 oc6 kV6 dc6 pm6 cd6 ct6 oc7 kV7 dc7 pm7 cd7 ct7 oc8 kV8 dc8 pm8 cd8 ct8 oc9 kV9 dc9 pm9 cd9 ct9 oc10 kV10 dc10 pm10 cd10 ct10 oc11 kV11 dc11 pm11 cd11 ct11 oc12 kV12 dc12 pm12 cd12 ct12 oc13 kV13 dc13 pm13 cd13 ct13 oc14 kV14 dc14 pm14 cd14 ct14 oc15 kV15 dc15 pm15 cd15 ct15 oc16 kV16 dc16 pm16 cd16 ct16 oc17 kV17 dc17 pm17 cd17 ct17 oc18 kV18 dc18 pm18 cd18 ct18 oc19 kV19 dc19 pm19 cd19 ct19 oc20 kV20 dc20 pm20 cd20 ct20 oc21 kV21 dc21 pm21 cd21 ct21 oc22 kV22 dc22 pm22 cd22 ct22 oc23 kV23 dc23 pm23 cd23 ct23 oc24 kV24 dc24 pm24 cd24 ct24 oc25 kV25 dc25 pm25 cd25 ct25 oc26 kV26 dc26 pm26 cd26 ct26 oc27 kV27 dc27 pm27 cd27 ct27 oc28 kV28 dc28 pm28 cd28 ct28 oc29 kV29 dc29 pm29 cd29 ct29 oc30 kV30 dc30 pm30 cd30 ct30 oc31 kV31 dc31 pm31 cd31 ct31 oc32 kV32 dc32 pm32 cd32 ct32 oc33 kV33 dc33 pm33 cd33 ct33 oc34 kV34 dc34 pm34 cd34 ct34 oc35 kV35 dc35 pm35 cd35 ct35 oc36 kV36 dc36 pm36 cd36 ct36 oc37 kV37 dc37 pm37 cd37 ct37 oc38 kV38 dc38 pm38 cd38 ct38 : Value} {t_MOST_EVENTS t_MOST_POINTS t_MOST_STANDINGS t_MOST_TRIES : Tok}
    (aC_Machine : PySem.W.nsIn K mainGlobals "Machine" = some (some (.ref C_Machine)))
    (aC_NoEvent : PySem.W.nsIn K mainGlobals "NoEvent" = some (some (.ref C_NoEvent)))
    (aC_NoKnot : PySem.W.nsIn K mainGlobals "NoKnot" = some (some (.ref C_NoKnot)))
    (aC_NoShare : PySem.W.nsIn K mainGlobals "NoShare" = some (some (.ref C_NoShare)))
    (aC_NoStanding : PySem.W.nsIn K mainGlobals "NoStanding" = some (some (.ref C_NoStanding)))
    (a1 : PySem.W.nsIn K mainGlobals "is_whole" = some (some (.ref f1)))
    (l1 : K.lookup f1 = some ⟨oc1, od1, .func (PySem.W.fnOf "is_whole" "is_whole" (defArgs s_is_whole) (defBody s_is_whole) (defScope s_is_whole) .none kV1 dc1 pm1 an1 cd1 ct1), sl1⟩)
    (c1 : PySem.W.codeIn K cd1 "is_whole" = true) (k1 : PySem.W.keepIn K (.ref f1) = true)
    (a2 : PySem.W.nsIn K mainGlobals "lift_of" = some (some (.ref f2)))
    (l2 : K.lookup f2 = some ⟨oc2, od2, .func (PySem.W.fnOf "lift_of" "lift_of" (defArgs s_lift_of) (defBody s_lift_of) (defScope s_lift_of) .none kV2 dc2 pm2 an2 cd2 ct2), sl2⟩)
    (c2 : PySem.W.codeIn K cd2 "lift_of" = true) (k2 : PySem.W.keepIn K (.ref f2) = true)
    (a3 : PySem.W.nsIn K mainGlobals "_steps" = some (some (.ref f3)))
    (l3 : K.lookup f3 = some ⟨oc3, od3, .func (PySem.W.fnOf "_steps" "_steps" (defArgs s_steps) (defBody s_steps) (defScope s_steps) .none kV3 dc3 pm3 an3 cd3 ct3), sl3⟩)
    (c3 : PySem.W.codeIn K cd3 "_steps" = true) (k3 : PySem.W.keepIn K (.ref f3) = true)
    (a4 : PySem.W.nsIn K mainGlobals "_spread" = some (some (.ref f4)))
    (l4 : K.lookup f4 = some ⟨oc4, od4, .func (PySem.W.fnOf "_spread" "_spread" (defArgs s_spread) (defBody s_spread) (defScope s_spread) .none kV4 dc4 pm4 an4 cd4 ct4), sl4⟩)
    (c4 : PySem.W.codeIn K cd4 "_spread" = true) (k4 : PySem.W.keepIn K (.ref f4) = true)
    (a5 : PySem.W.nsIn K mainGlobals "inner_events" = some (some (.ref f5)))
    (l5 : K.lookup f5 = some ⟨oc5, od5, .func (PySem.W.fnOf "inner_events" "inner_events" (defArgs s_inner_events) (defBody s_inner_events) (defScope s_inner_events) .none kV5 dc5 pm5 an5 cd5 ct5), sl5⟩)
    (c5 : PySem.W.codeIn K cd5 "inner_events" = true) (k5 : PySem.W.keepIn K (.ref f5) = true)
    (a6 : PySem.W.nsIn K mainGlobals "total" = some (some (.ref f6)))
    (l6 : K.lookup f6 = some ⟨oc6, od6, .func (PySem.W.fnOf "total" "total" (defArgs s_total) (defBody s_total) (defScope s_total) .none kV6 dc6 pm6 an6 cd6 ct6), sl6⟩)
    (c6 : PySem.W.codeIn K cd6 "total" = true) (k6 : PySem.W.keepIn K (.ref f6) = true)
    (a7 : PySem.W.nsIn K mainGlobals "ways" = some (some (.ref f7)))
    (l7 : K.lookup f7 = some ⟨oc7, od7, .func (PySem.W.fnOf "ways" "ways" (defArgs s_ways) (defBody s_ways) (defScope s_ways) .none kV7 dc7 pm7 an7 cd7 ct7), sl7⟩)
    (c7 : PySem.W.codeIn K cd7 "ways" = true) (k7 : PySem.W.keepIn K (.ref f7) = true)
    (a8 : PySem.W.nsIn K mainGlobals "_without_tries" = some (some (.ref f8)))
    (l8 : K.lookup f8 = some ⟨oc8, od8, .func (PySem.W.fnOf "_without_tries" "_without_tries" (defArgs s_without_tries) (defBody s_without_tries) (defScope s_without_tries) .none kV8 dc8 pm8 an8 cd8 ct8), sl8⟩)
    (c8 : PySem.W.codeIn K cd8 "_without_tries" = true) (k8 : PySem.W.keepIn K (.ref f8) = true)
    (a9 : PySem.W.nsIn K mainGlobals "_law_pot" = some (some (.ref f9)))
    (l9 : K.lookup f9 = some ⟨oc9, od9, .func (PySem.W.fnOf "_law_pot" "_law_pot" (defArgs s_law_pot) (defBody s_law_pot) (defScope s_law_pot) .none kV9 dc9 pm9 an9 cd9 ct9), sl9⟩)
    (c9 : PySem.W.codeIn K cd9 "_law_pot" = true) (k9 : PySem.W.keepIn K (.ref f9) = true)
    (a10 : PySem.W.nsIn K mainGlobals "_law_draw" = some (some (.ref f10)))
    (l10 : K.lookup f10 = some ⟨oc10, od10, .func (PySem.W.fnOf "_law_draw" "_law_draw" (defArgs s_law_draw) (defBody s_law_draw) (defScope s_law_draw) .none kV10 dc10 pm10 an10 cd10 ct10), sl10⟩)
    (c10 : PySem.W.codeIn K cd10 "_law_draw" = true) (k10 : PySem.W.keepIn K (.ref f10) = true)
    (a11 : PySem.W.nsIn K mainGlobals "_law_gcd" = some (some (.ref f11)))
    (l11 : K.lookup f11 = some ⟨oc11, od11, .func (PySem.W.fnOf "_law_gcd" "_law_gcd" (defArgs s_law_gcd) (defBody s_law_gcd) (defScope s_law_gcd) .none kV11 dc11 pm11 an11 cd11 ct11), sl11⟩)
    (c11 : PySem.W.codeIn K cd11 "_law_gcd" = true) (k11 : PySem.W.keepIn K (.ref f11) = true)
    (a12 : PySem.W.nsIn K mainGlobals "_law_out" = some (some (.ref f12)))
    (l12 : K.lookup f12 = some ⟨oc12, od12, .func (PySem.W.fnOf "_law_out" "_law_out" (defArgs s_law_out) (defBody s_law_out) (defScope s_law_out) .none kV12 dc12 pm12 an12 cd12 ct12), sl12⟩)
    (c12 : PySem.W.codeIn K cd12 "_law_out" = true) (k12 : PySem.W.keepIn K (.ref f12) = true)
    (a13 : PySem.W.nsIn K mainGlobals "is_between" = some (some (.ref f13)))
    (l13 : K.lookup f13 = some ⟨oc13, od13, .func (PySem.W.fnOf "is_between" "is_between" (defArgs s_is_between) (defBody s_is_between) (defScope s_is_between) .none kV13 dc13 pm13 an13 cd13 ct13), sl13⟩)
    (c13 : PySem.W.codeIn K cd13 "is_between" = true) (k13 : PySem.W.keepIn K (.ref f13) = true)
    (a14 : PySem.W.nsIn K mainGlobals "is_pair" = some (some (.ref f14)))
    (l14 : K.lookup f14 = some ⟨oc14, od14, .func (PySem.W.fnOf "is_pair" "is_pair" (defArgs s_is_pair) (defBody s_is_pair) (defScope s_is_pair) .none kV14 dc14 pm14 an14 cd14 ct14), sl14⟩)
    (c14 : PySem.W.codeIn K cd14 "is_pair" = true) (k14 : PySem.W.keepIn K (.ref f14) = true)
    (a15 : PySem.W.nsIn K mainGlobals "reached" = some (some (.ref f15)))
    (l15 : K.lookup f15 = some ⟨oc15, od15, .func (PySem.W.fnOf "reached" "reached" (defArgs s_reached) (defBody s_reached) (defScope s_reached) .none kV15 dc15 pm15 an15 cd15 ct15), sl15⟩)
    (c15 : PySem.W.codeIn K cd15 "reached" = true) (k15 : PySem.W.keepIn K (.ref f15) = true)
    (a16 : PySem.W.nsIn K mainGlobals "row_lift" = some (some (.ref f16)))
    (l16 : K.lookup f16 = some ⟨oc16, od16, .func (PySem.W.fnOf "row_lift" "row_lift" (defArgs s_row_lift) (defBody s_row_lift) (defScope s_row_lift) .none kV16 dc16 pm16 an16 cd16 ct16), sl16⟩)
    (c16 : PySem.W.codeIn K cd16 "row_lift" = true) (k16 : PySem.W.keepIn K (.ref f16) = true)
    (a17 : PySem.W.nsIn K mainGlobals "_round_pairs" = some (some (.ref f17)))
    (l17 : K.lookup f17 = some ⟨oc17, od17, .func (PySem.W.fnOf "_round_pairs" "_round_pairs" (defArgs s_round_pairs) (defBody s_round_pairs) (defScope s_round_pairs) .none kV17 dc17 pm17 an17 cd17 ct17), sl17⟩)
    (c17 : PySem.W.codeIn K cd17 "_round_pairs" = true) (k17 : PySem.W.keepIn K (.ref f17) = true)
    (a18 : PySem.W.nsIn K mainGlobals "_law_low" = some (some (.ref f18)))
    (l18 : K.lookup f18 = some ⟨oc18, od18, .func (PySem.W.fnOf "_law_low" "_law_low" (defArgs s_law_low) (defBody s_law_low) (defScope s_law_low) .none kV18 dc18 pm18 an18 cd18 ct18), sl18⟩)
    (c18 : PySem.W.codeIn K cd18 "_law_low" = true) (k18 : PySem.W.keepIn K (.ref f18) = true)
    (a19 : PySem.W.nsIn K mainGlobals "_law_reached" = some (some (.ref f19)))
    (l19 : K.lookup f19 = some ⟨oc19, od19, .func (PySem.W.fnOf "_law_reached" "_law_reached" (defArgs s_law_reached) (defBody s_law_reached) (defScope s_law_reached) .none kV19 dc19 pm19 an19 cd19 ct19), sl19⟩)
    (c19 : PySem.W.codeIn K cd19 "_law_reached" = true) (k19 : PySem.W.keepIn K (.ref f19) = true)
    (a20 : PySem.W.nsIn K mainGlobals "_law_leads" = some (some (.ref f20)))
    (l20 : K.lookup f20 = some ⟨oc20, od20, .func (PySem.W.fnOf "_law_leads" "_law_leads" (defArgs s_law_leads) (defBody s_law_leads) (defScope s_law_leads) .none kV20 dc20 pm20 an20 cd20 ct20), sl20⟩)
    (c20 : PySem.W.codeIn K cd20 "_law_leads" = true) (k20 : PySem.W.keepIn K (.ref f20) = true)
    (a21 : PySem.W.nsIn K mainGlobals "is_share" = some (some (.ref f21)))
    (l21 : K.lookup f21 = some ⟨oc21, od21, .func (PySem.W.fnOf "is_share" "is_share" (defArgs s_is_share) (defBody s_is_share) (defScope s_is_share) .none kV21 dc21 pm21 an21 cd21 ct21), sl21⟩)
    (c21 : PySem.W.codeIn K cd21 "is_share" = true) (k21 : PySem.W.keepIn K (.ref f21) = true)
    (a22 : PySem.W.nsIn K mainGlobals "knots" = some (some (.ref f22)))
    (l22 : K.lookup f22 = some ⟨oc22, od22, .func (PySem.W.fnOf "knots" "knots" (defArgs s_knots) (defBody s_knots) (defScope s_knots) .none kV22 dc22 pm22 an22 cd22 ct22), sl22⟩)
    (c22 : PySem.W.codeIn K cd22 "knots" = true) (k22 : PySem.W.keepIn K (.ref f22) = true)
    (a23 : PySem.W.nsIn K mainGlobals "are_counts" = some (some (.ref f23)))
    (l23 : K.lookup f23 = some ⟨oc23, od23, .func (PySem.W.fnOf "are_counts" "are_counts" (defArgs s_are_counts) (defBody s_are_counts) (defScope s_are_counts) .none kV23 dc23 pm23 an23 cd23 ct23), sl23⟩)
    (c23 : PySem.W.codeIn K cd23 "are_counts" = true) (k23 : PySem.W.keepIn K (.ref f23) = true)
    (a24 : PySem.W.nsIn K mainGlobals "has_event" = some (some (.ref f24)))
    (l24 : K.lookup f24 = some ⟨oc24, od24, .func (PySem.W.fnOf "has_event" "has_event" (defArgs s_has_event) (defBody s_has_event) (defScope s_has_event) .none kV24 dc24 pm24 an24 cd24 ct24), sl24⟩)
    (c24 : PySem.W.codeIn K cd24 "has_event" = true) (k24 : PySem.W.keepIn K (.ref f24) = true)
    (a25 : PySem.W.nsIn K mainGlobals "net_of" = some (some (.ref f25)))
    (l25 : K.lookup f25 = some ⟨oc25, od25, .func (PySem.W.fnOf "net_of" "net_of" (defArgs s_net_of) (defBody s_net_of) (defScope s_net_of) .none kV25 dc25 pm25 an25 cd25 ct25), sl25⟩)
    (c25 : PySem.W.codeIn K cd25 "net_of" = true) (k25 : PySem.W.keepIn K (.ref f25) = true)
    (a26 : PySem.W.nsIn K mainGlobals "_law_share" = some (some (.ref f26)))
    (l26 : K.lookup f26 = some ⟨oc26, od26, .func (PySem.W.fnOf "_law_share" "_law_share" (defArgs s_law_share) (defBody s_law_share) (defScope s_law_share) .none kV26 dc26 pm26 an26 cd26 ct26), sl26⟩)
    (c26 : PySem.W.codeIn K cd26 "_law_share" = true) (k26 : PySem.W.keepIn K (.ref f26) = true)
    (a27 : PySem.W.nsIn K mainGlobals "check_share" = some (some (.ref f27)))
    (l27 : K.lookup f27 = some ⟨oc27, od27, .func (PySem.W.fnOf "check_share" "check_share" (defArgs s_check_share) (defBody s_check_share) (defScope s_check_share) .none kV27 dc27 pm27 an27 cd27 ct27), sl27⟩)
    (c27 : PySem.W.codeIn K cd27 "check_share" = true) (k27 : PySem.W.keepIn K (.ref f27) = true)
    (a28 : PySem.W.nsIn K mainGlobals "knot_of" = some (some (.ref f28)))
    (l28 : K.lookup f28 = some ⟨oc28, od28, .func (PySem.W.fnOf "knot_of" "knot_of" (defArgs s_knot_of) (defBody s_knot_of) (defScope s_knot_of) .none kV28 dc28 pm28 an28 cd28 ct28), sl28⟩)
    (c28 : PySem.W.codeIn K cd28 "knot_of" = true) (k28 : PySem.W.keepIn K (.ref f28) = true)
    (a29 : PySem.W.nsIn K mainGlobals "_is_event" = some (some (.ref f29)))
    (l29 : K.lookup f29 = some ⟨oc29, od29, .func (PySem.W.fnOf "_is_event" "_is_event" (defArgs s_is_event) (defBody s_is_event) (defScope s_is_event) .none kV29 dc29 pm29 an29 cd29 ct29), sl29⟩)
    (c29 : PySem.W.codeIn K cd29 "_is_event" = true) (k29 : PySem.W.keepIn K (.ref f29) = true)
    (a30 : PySem.W.nsIn K mainGlobals "_net" = some (some (.ref f30)))
    (l30 : K.lookup f30 = some ⟨oc30, od30, .func (PySem.W.fnOf "_net" "_net" (defArgs s_u_net) (defBody s_u_net) (defScope s_u_net) .none kV30 dc30 pm30 an30 cd30 ct30), sl30⟩)
    (c30 : PySem.W.codeIn K cd30 "_net" = true) (k30 : PySem.W.keepIn K (.ref f30) = true)
    (a31 : PySem.W.findIn K (.ref C_Machine) "__init__" = some (some (.ref f31)))
    (i31 : PySem.W.isFn K (.ref f31) = true)
    (l31 : K.lookup f31 = some ⟨oc31, od31, .func (PySem.W.fnOf "__init__" "Machine.__init__" (defArgs s_Machine___init__) (defBody s_Machine___init__) (defScope s_Machine___init__) .none kV31 dc31 pm31 an31 cd31 ct31), sl31⟩)
    (c31 : PySem.W.codeIn K cd31 "Machine.__init__" = true) (k31 : PySem.W.keepIn K (.ref f31) = true)
    (a32 : PySem.W.nsIn K mainGlobals "lift" = some (some (.ref f32)))
    (l32 : K.lookup f32 = some ⟨oc32, od32, .func (PySem.W.fnOf "lift" "lift" (defArgs s_lift) (defBody s_lift) (defScope s_lift) .none kV32 dc32 pm32 an32 cd32 ct32), sl32⟩)
    (c32 : PySem.W.codeIn K cd32 "lift" = true) (k32 : PySem.W.keepIn K (.ref f32) = true)
    (a33 : PySem.W.nsIn K mainGlobals "_measure" = some (some (.ref f33)))
    (l33 : K.lookup f33 = some ⟨oc33, od33, .func (PySem.W.fnOf "_measure" "_measure" (defArgs s_u_measure) (defBody s_u_measure) (defScope s_u_measure) .none kV33 dc33 pm33 an33 cd33 ct33), sl33⟩)
    (c33 : PySem.W.codeIn K cd33 "_measure" = true) (k33 : PySem.W.keepIn K (.ref f33) = true)
    (a34 : PySem.W.nsIn K mainGlobals "_knot" = some (some (.ref f34)))
    (l34 : K.lookup f34 = some ⟨oc34, od34, .func (PySem.W.fnOf "_knot" "_knot" (defArgs s_knot) (defBody s_knot) (defScope s_knot) .none kV34 dc34 pm34 an34 cd34 ct34), sl34⟩)
    (c34 : PySem.W.codeIn K cd34 "_knot" = true) (k34 : PySem.W.keepIn K (.ref f34) = true)
    (a35 : PySem.W.nsIn K mainGlobals "measure" = some (some (.ref f35)))
    (l35 : K.lookup f35 = some ⟨oc35, od35, .func (PySem.W.fnOf "measure" "measure" (defArgs s_measure) (defBody s_measure) (defScope s_measure) .none kV35 dc35 pm35 an35 cd35 ct35), sl35⟩)
    (c35 : PySem.W.codeIn K cd35 "measure" = true) (k35 : PySem.W.keepIn K (.ref f35) = true)
    (a36 : PySem.W.nsIn K mainGlobals "lead" = some (some (.ref f36)))
    (l36 : K.lookup f36 = some ⟨oc36, od36, .func (PySem.W.fnOf "lead" "lead" (defArgs s_lead) (defBody s_lead) (defScope s_lead) .none kV36 dc36 pm36 an36 cd36 ct36), sl36⟩)
    (c36 : PySem.W.codeIn K cd36 "lead" = true) (k36 : PySem.W.keepIn K (.ref f36) = true)
    (a37 : PySem.W.nsIn K mainGlobals "net" = some (some (.ref f37)))
    (l37 : K.lookup f37 = some ⟨oc37, od37, .func (PySem.W.fnOf "net" "net" (defArgs s_net) (defBody s_net) (defScope s_net) .none kV37 dc37 pm37 an37 cd37 ct37), sl37⟩)
    (c37 : PySem.W.codeIn K cd37 "net" = true) (k37 : PySem.W.keepIn K (.ref f37) = true)
    (a38 : PySem.W.nsIn K mainGlobals "law" = some (some (.ref f38)))
    (l38 : K.lookup f38 = some ⟨oc38, od38, .func (PySem.W.fnOf "law" "law" (defArgs s_law) (defBody s_law) (defScope s_law) .none kV38 dc38 pm38 an38 cd38 ct38), sl38⟩)
    (c38 : PySem.W.codeIn K cd38 "law" = true) (k38 : PySem.W.keepIn K (.ref f38) = true)
    (pg_Machine : PySem.W.plainGet K C_Machine Str.empty = true) (hd_Machine : PySem.W.hasDictIn K C_Machine = true) (po_Machine : PySem.W.plainOver K C_Machine = true) (sa_Machine : PySem.W.findIn K (.ref C_Machine) "__setattr__" = some (some (.builtin "object.__setattr__"))) (mk_Machine : PySem.W.makesIn K C_Machine = true) (kc_Machine : PySem.W.keepIn K (.ref C_Machine) = true)
    (n_events : PySem.W.findIn K (.ref C_Machine) "events" = some none)
    (n_standings : PySem.W.findIn K (.ref C_Machine) "standings" = some none)
    (xx_NoEvent : PySem.W.excIn K C_NoEvent [.type "ValueError", .type "Exception", .type "BaseException", .type "object"] "ValueError.__new__" = true) (xk_NoEvent : PySem.W.keepIn K (.ref C_NoEvent) = true) (xb_NoEvent : PySem.W.subIn K (.ref C_NoEvent) (.type "BaseException") = some true) (xt_NoEvent : PySem.W.typeIn K (.ref C_NoEvent) = some (.type "type")) (xi_NoEvent : PySem.W.isClsIn K C_NoEvent = true) (xs_NoEvent : PySem.W.subIn K (.ref C_NoEvent) (.ref C_NoEvent) = some true)
    (xx_NoKnot : PySem.W.excIn K C_NoKnot [.type "ValueError", .type "Exception", .type "BaseException", .type "object"] "ValueError.__new__" = true) (xk_NoKnot : PySem.W.keepIn K (.ref C_NoKnot) = true) (xb_NoKnot : PySem.W.subIn K (.ref C_NoKnot) (.type "BaseException") = some true) (xt_NoKnot : PySem.W.typeIn K (.ref C_NoKnot) = some (.type "type")) (xi_NoKnot : PySem.W.isClsIn K C_NoKnot = true) (xs_NoKnot : PySem.W.subIn K (.ref C_NoKnot) (.ref C_NoKnot) = some true)
    (xx_NoShare : PySem.W.excIn K C_NoShare [.type "ValueError", .type "Exception", .type "BaseException", .type "object"] "ValueError.__new__" = true) (xk_NoShare : PySem.W.keepIn K (.ref C_NoShare) = true) (xb_NoShare : PySem.W.subIn K (.ref C_NoShare) (.type "BaseException") = some true) (xt_NoShare : PySem.W.typeIn K (.ref C_NoShare) = some (.type "type")) (xi_NoShare : PySem.W.isClsIn K C_NoShare = true) (xs_NoShare : PySem.W.subIn K (.ref C_NoShare) (.ref C_NoShare) = some true)
    (xx_NoStanding : PySem.W.excIn K C_NoStanding [.type "ValueError", .type "Exception", .type "BaseException", .type "object"] "ValueError.__new__" = true) (xk_NoStanding : PySem.W.keepIn K (.ref C_NoStanding) = true) (xb_NoStanding : PySem.W.subIn K (.ref C_NoStanding) (.type "BaseException") = some true) (xt_NoStanding : PySem.W.typeIn K (.ref C_NoStanding) = some (.type "type")) (xi_NoStanding : PySem.W.isClsIn K C_NoStanding = true) (xs_NoStanding : PySem.W.subIn K (.ref C_NoStanding) (.ref C_NoStanding) = some true)
    (z_abs : PySem.W.nsIn K mainGlobals "abs" = some none)
    (z_bool : PySem.W.nsIn K mainGlobals "bool" = some none)
    (z_enumerate : PySem.W.nsIn K mainGlobals "enumerate" = some none)
    (z_int : PySem.W.nsIn K mainGlobals "int" = some none)
    (z_isinstance : PySem.W.nsIn K mainGlobals "isinstance" = some none)
    (z_len : PySem.W.nsIn K mainGlobals "len" = some none)
    (z_range : PySem.W.nsIn K mainGlobals "range" = some none)
    (z_set : PySem.W.nsIn K mainGlobals "set" = some none)
    (z_sorted : PySem.W.nsIn K mainGlobals "sorted" = some none)
    (z_sum : PySem.W.nsIn K mainGlobals "sum" = some none)
    (z_tuple : PySem.W.nsIn K mainGlobals "tuple" = some none)
    (v_MOST_EVENTS : PySem.W.nsIn K mainGlobals "MOST_EVENTS" = some (some (.int 30 t_MOST_EVENTS)))
    (v_MOST_POINTS : PySem.W.nsIn K mainGlobals "MOST_POINTS" = some (some (.int 400 t_MOST_POINTS)))
    (v_MOST_STANDINGS : PySem.W.nsIn K mainGlobals "MOST_STANDINGS" = some (some (.int 12 t_MOST_STANDINGS)))
    (v_MOST_TRIES : PySem.W.nsIn K mainGlobals "MOST_TRIES" = some (some (.int 40 t_MOST_TRIES)))
    (v_gcd : PySem.W.nsIn K mainGlobals "gcd" = some (some (.builtin "math.gcd")))
    : ∃ fd : FuncData, (∀ (s : Shared) (v : Value), BindsTo s fd ⟨[v], []⟩ [("script", v)]) ∧ ∀ base : Heap, K.In base → base.Ns mainGlobals mg → FnOk l.prog w K mg base CX0 7 fa fd ["script"] (spLaw K) := by
  have e := hfa.symm.trans (PySem.W.mg_of X G a38)
  cases e
  have F1 := fun_mk (st := s_is_whole) l1 c1 k1
  have b1 := F1.binds (ps := ["thing"]) fun _ _ _ _ _ _ us hl => match us, hl with | [_], _ => rfl
  have F2 := fun_mk (st := s_lift_of) l2 c2 k2
  have b2 := F2.binds (ps := ["share", "tries", "points"]) fun _ _ _ _ _ _ us hl => match us, hl with | [_, _, _], _ => rfl
  have F3 := fun_mk (st := s_steps) l3 c3 k3
  have b3 := F3.binds (ps := ["machine", "side", "far_side"]) fun _ _ _ _ _ _ us hl => match us, hl with | [_, _, _], _ => rfl
  have F4 := fun_mk (st := s_spread) l4 c4 k4
  have b4 := F4.binds (ps := ["steps", "start"]) fun _ _ _ _ _ _ us hl => match us, hl with | [_, _], _ => rfl
  have F5 := fun_mk (st := s_inner_events) l5 c5 k5
  have b5 := F5.binds (ps := ["machine", "knot"]) fun _ _ _ _ _ _ us hl => match us, hl with | [_, _], _ => rfl
  have F6 := fun_mk (st := s_total) l6 c6 k6
  have b6 := F6.binds (ps := ["machine", "row"]) fun _ _ _ _ _ _ us hl => match us, hl with | [_, _], _ => rfl
  have F7 := fun_mk (st := s_ways) l7 c7 k7
  have b7 := F7.binds (ps := ["machine", "numbers", "start"]) fun _ _ _ _ _ _ us hl => match us, hl with | [_, _, _], _ => rfl
  have F8 := fun_mk (st := s_without_tries) l8 c8 k8
  have b8 := F8.binds (ps := ["pair", "other"]) fun _ _ _ _ _ _ us hl => match us, hl with | [_, _], _ => rfl
  have F9 := fun_mk (st := s_law_pot) l9 c9 k9
  have b9 := F9.binds (ps := ["script"]) fun _ _ _ _ _ _ us hl => match us, hl with | [_], _ => rfl
  have F10 := fun_mk (st := s_law_draw) l10 c10 k10
  have b10 := F10.binds (ps := ["pot", "many"]) fun _ _ _ _ _ _ us hl => match us, hl with | [_, _], _ => rfl
  have F11 := fun_mk (st := s_law_gcd) l11 c11 k11
  have b11 := F11.binds (ps := ["one", "other"]) fun _ _ _ _ _ _ us hl => match us, hl with | [_, _], _ => rfl
  have F12 := fun_mk (st := s_law_out) l12 c12 k12
  have b12 := F12.binds (ps := ["parts", "standing"]) fun _ _ _ _ _ _ us hl => match us, hl with | [_, _], _ => rfl
  have F13 := fun_mk (st := s_is_between) l13 c13 k13
  have b13 := F13.binds (ps := ["thing", "low", "high"]) fun _ _ _ _ _ _ us hl => match us, hl with | [_, _, _], _ => rfl
  have F14 := fun_mk (st := s_is_pair) l14 c14 k14
  have b14 := F14.binds (ps := ["thing"]) fun _ _ _ _ _ _ us hl => match us, hl with | [_], _ => rfl
  have F15 := fun_mk (st := s_reached) l15 c15 k15
  have b15 := F15.binds (ps := ["machine"]) fun _ _ _ _ _ _ us hl => match us, hl with | [_], _ => rfl
  have F16 := fun_mk (st := s_row_lift) l16 c16 k16
  have b16 := F16.binds (ps := ["machine", "share", "row"]) fun _ _ _ _ _ _ us hl => match us, hl with | [_, _, _], _ => rfl
  have F17 := fun_mk (st := s_round_pairs) l17 c17 k17
  have b17 := F17.binds (ps := ["machine", "numbers", "start"]) fun _ _ _ _ _ _ us hl => match us, hl with | [_, _, _], _ => rfl
  have F18 := fun_mk (st := s_law_low) l18 c18 k18
  have b18 := F18.binds (ps := ["top", "bottom"]) fun _ _ _ _ _ _ us hl => match us, hl with | [_, _], _ => rfl
  have F19 := fun_mk (st := s_law_reached) l19 c19 k19
  have b19 := F19.binds (ps := ["parts"]) fun _ _ _ _ _ _ us hl => match us, hl with | [_], _ => rfl
  have F20 := fun_mk (st := s_law_leads) l20 c20 k20
  have b20 := F20.binds (ps := ["parts", "start"]) fun _ _ _ _ _ _ us hl => match us, hl with | [_, _], _ => rfl
  have F21 := fun_mk (st := s_is_share) l21 c21 k21
  have b21 := F21.binds (ps := ["thing"]) fun _ _ _ _ _ _ us hl => match us, hl with | [_], _ => rfl
  have F22 := fun_mk (st := s_knots) l22 c22 k22
  have b22 := F22.binds (ps := ["machine"]) fun _ _ _ _ _ _ us hl => match us, hl with | [_], _ => rfl
  have F23 := fun_mk (st := s_are_counts) l23 c23 k23
  have b23 := F23.binds (ps := ["tries", "points"]) fun _ _ _ _ _ _ us hl => match us, hl with | [_, _], _ => rfl
  have F24 := fun_mk (st := s_has_event) l24 c24 k24
  have b24 := F24.binds (ps := ["machine", "thing"]) fun _ _ _ _ _ _ us hl => match us, hl with | [_, _], _ => rfl
  have F25 := fun_mk (st := s_net_of) l25 c25 k25
  have b25 := F25.binds (ps := ["machine", "numbers", "start"]) fun _ _ _ _ _ _ us hl => match us, hl with | [_, _, _], _ => rfl
  have F26 := fun_mk (st := s_law_share) l26 c26 k26
  have b26 := F26.binds (ps := ["pot", "most"]) fun _ _ _ _ _ _ us hl => match us, hl with | [_, _], _ => rfl
  have F27 := fun_mk (st := s_check_share) l27 c27 k27
  have b27 := F27.binds (ps := ["thing"]) fun _ _ _ _ _ _ us hl => match us, hl with | [_], _ => rfl
  have F28 := fun_mk (st := s_knot_of) l28 c28 k28
  have b28 := F28.binds (ps := ["machine", "thing"]) fun _ _ _ _ _ _ us hl => match us, hl with | [_, _], _ => rfl
  have F29 := fun_mk (st := s_is_event) l29 c29 k29
  have b29 := F29.binds (ps := ["thing", "standings"]) fun _ _ _ _ _ _ us hl => match us, hl with | [_, _], _ => rfl
  have F30 := fun_mk (st := s_u_net) l30 c30 k30
  have b30 := F30.binds (ps := ["machine", "knot"]) fun _ _ _ _ _ _ us hl => match us, hl with | [_, _], _ => rfl
  have F31 := fun_mk (st := s_Machine___init__) l31 c31 k31
  have b31 := F31.binds (ps := ["self", "standings", "events"]) fun _ _ _ _ _ _ us hl => match us, hl with | [_, _, _], _ => rfl
  have F32 := fun_mk (st := s_lift) l32 c32 k32
  have b32 := F32.binds (ps := ["machine", "share", "event"]) fun _ _ _ _ _ _ us hl => match us, hl with | [_, _, _], _ => rfl
  have F33 := fun_mk (st := s_u_measure) l33 c33 k33
  have b33 := F33.binds (ps := ["machine", "share", "knot"]) fun _ _ _ _ _ _ us hl => match us, hl with | [_, _, _], _ => rfl
  have F34 := fun_mk (st := s_knot) l34 c34 k34
  have b34 := F34.binds (ps := ["machine", "standing"]) fun _ _ _ _ _ _ us hl => match us, hl with | [_, _], _ => rfl
  have F35 := fun_mk (st := s_measure) l35 c35 k35
  have b35 := F35.binds (ps := ["machine", "share", "standing"]) fun _ _ _ _ _ _ us hl => match us, hl with | [_, _, _], _ => rfl
  have F36 := fun_mk (st := s_lead) l36 c36 k36
  have b36 := F36.binds (ps := ["machine", "share", "one", "other"]) fun _ _ _ _ _ _ us hl => match us, hl with | [_, _, _, _], _ => rfl
  have F37 := fun_mk (st := s_net) l37 c37 k37
  have b37 := F37.binds (ps := ["machine", "standing"]) fun _ _ _ _ _ _ us hl => match us, hl with | [_, _], _ => rfl
  have F38 := fun_mk (st := s_law) l38 c38 k38
  have b38 := F38.binds (ps := ["script"]) fun _ _ _ _ _ _ us hl => match us, hl with | [_], _ => rfl
  have T : Txt K mg { f_is_whole := f1, d_is_whole := PySem.W.fnOf "is_whole" "is_whole" (defArgs s_is_whole) (defBody s_is_whole) (defScope s_is_whole) .none kV1 dc1 pm1 an1 cd1 ct1, f_lift_of := f2, d_lift_of := PySem.W.fnOf "lift_of" "lift_of" (defArgs s_lift_of) (defBody s_lift_of) (defScope s_lift_of) .none kV2 dc2 pm2 an2 cd2 ct2, f_steps := f3, d_steps := PySem.W.fnOf "_steps" "_steps" (defArgs s_steps) (defBody s_steps) (defScope s_steps) .none kV3 dc3 pm3 an3 cd3 ct3, f_spread := f4, d_spread := PySem.W.fnOf "_spread" "_spread" (defArgs s_spread) (defBody s_spread) (defScope s_spread) .none kV4 dc4 pm4 an4 cd4 ct4, f_inner_events := f5, d_inner_events := PySem.W.fnOf "inner_events" "inner_events" (defArgs s_inner_events) (defBody s_inner_events) (defScope s_inner_events) .none kV5 dc5 pm5 an5 cd5 ct5, f_total := f6, d_total := PySem.W.fnOf "total" "total" (defArgs s_total) (defBody s_total) (defScope s_total) .none kV6 dc6 pm6 an6 cd6 ct6, f_ways := f7, d_ways := PySem.W.fnOf "ways" "ways" (defArgs s_ways) (defBody s_ways) (defScope s_ways) .none kV7 dc7 pm7 an7 cd7 ct7, f_without_tries := f8, d_without_tries := PySem.W.fnOf "_without_tries" "_without_tries" (defArgs s_without_tries) (defBody s_without_tries) (defScope s_without_tries) .none kV8 dc8 pm8 an8 cd8 ct8, f_law_pot := f9, d_law_pot := PySem.W.fnOf "_law_pot" "_law_pot" (defArgs s_law_pot) (defBody s_law_pot) (defScope s_law_pot) .none kV9 dc9 pm9 an9 cd9 ct9, f_law_draw := f10, d_law_draw := PySem.W.fnOf "_law_draw" "_law_draw" (defArgs s_law_draw) (defBody s_law_draw) (defScope s_law_draw) .none kV10 dc10 pm10 an10 cd10 ct10, f_law_gcd := f11, d_law_gcd := PySem.W.fnOf "_law_gcd" "_law_gcd" (defArgs s_law_gcd) (defBody s_law_gcd) (defScope s_law_gcd) .none kV11 dc11 pm11 an11 cd11 ct11, f_law_out := f12, d_law_out := PySem.W.fnOf "_law_out" "_law_out" (defArgs s_law_out) (defBody s_law_out) (defScope s_law_out) .none kV12 dc12 pm12 an12 cd12 ct12, f_is_between := f13, d_is_between := PySem.W.fnOf "is_between" "is_between" (defArgs s_is_between) (defBody s_is_between) (defScope s_is_between) .none kV13 dc13 pm13 an13 cd13 ct13, f_is_pair := f14, d_is_pair := PySem.W.fnOf "is_pair" "is_pair" (defArgs s_is_pair) (defBody s_is_pair) (defScope s_is_pair) .none kV14 dc14 pm14 an14 cd14 ct14, f_reached := f15, d_reached := PySem.W.fnOf "reached" "reached" (defArgs s_reached) (defBody s_reached) (defScope s_reached) .none kV15 dc15 pm15 an15 cd15 ct15, f_row_lift := f16, d_row_lift := PySem.W.fnOf "row_lift" "row_lift" (defArgs s_row_lift) (defBody s_row_lift) (defScope s_row_lift) .none kV16 dc16 pm16 an16 cd16 ct16, f_round_pairs := f17, d_round_pairs := PySem.W.fnOf "_round_pairs" "_round_pairs" (defArgs s_round_pairs) (defBody s_round_pairs) (defScope s_round_pairs) .none kV17 dc17 pm17 an17 cd17 ct17, f_law_low := f18, d_law_low := PySem.W.fnOf "_law_low" "_law_low" (defArgs s_law_low) (defBody s_law_low) (defScope s_law_low) .none kV18 dc18 pm18 an18 cd18 ct18, f_law_reached := f19, d_law_reached := PySem.W.fnOf "_law_reached" "_law_reached" (defArgs s_law_reached) (defBody s_law_reached) (defScope s_law_reached) .none kV19 dc19 pm19 an19 cd19 ct19, f_law_leads := f20, d_law_leads := PySem.W.fnOf "_law_leads" "_law_leads" (defArgs s_law_leads) (defBody s_law_leads) (defScope s_law_leads) .none kV20 dc20 pm20 an20 cd20 ct20, f_is_share := f21, d_is_share := PySem.W.fnOf "is_share" "is_share" (defArgs s_is_share) (defBody s_is_share) (defScope s_is_share) .none kV21 dc21 pm21 an21 cd21 ct21, f_knots := f22, d_knots := PySem.W.fnOf "knots" "knots" (defArgs s_knots) (defBody s_knots) (defScope s_knots) .none kV22 dc22 pm22 an22 cd22 ct22, f_are_counts := f23, d_are_counts := PySem.W.fnOf "are_counts" "are_counts" (defArgs s_are_counts) (defBody s_are_counts) (defScope s_are_counts) .none kV23 dc23 pm23 an23 cd23 ct23, f_has_event := f24, d_has_event := PySem.W.fnOf "has_event" "has_event" (defArgs s_has_event) (defBody s_has_event) (defScope s_has_event) .none kV24 dc24 pm24 an24 cd24 ct24, f_net_of := f25, d_net_of := PySem.W.fnOf "net_of" "net_of" (defArgs s_net_of) (defBody s_net_of) (defScope s_net_of) .none kV25 dc25 pm25 an25 cd25 ct25, f_law_share := f26, d_law_share := PySem.W.fnOf "_law_share" "_law_share" (defArgs s_law_share) (defBody s_law_share) (defScope s_law_share) .none kV26 dc26 pm26 an26 cd26 ct26, f_check_share := f27, d_check_share := PySem.W.fnOf "check_share" "check_share" (defArgs s_check_share) (defBody s_check_share) (defScope s_check_share) .none kV27 dc27 pm27 an27 cd27 ct27, f_knot_of := f28, d_knot_of := PySem.W.fnOf "knot_of" "knot_of" (defArgs s_knot_of) (defBody s_knot_of) (defScope s_knot_of) .none kV28 dc28 pm28 an28 cd28 ct28, f_is_event := f29, d_is_event := PySem.W.fnOf "_is_event" "_is_event" (defArgs s_is_event) (defBody s_is_event) (defScope s_is_event) .none kV29 dc29 pm29 an29 cd29 ct29, f_u_net := f30, d_u_net := PySem.W.fnOf "_net" "_net" (defArgs s_u_net) (defBody s_u_net) (defScope s_u_net) .none kV30 dc30 pm30 an30 cd30 ct30, f_Machine___init__ := f31, d_Machine___init__ := PySem.W.fnOf "__init__" "Machine.__init__" (defArgs s_Machine___init__) (defBody s_Machine___init__) (defScope s_Machine___init__) .none kV31 dc31 pm31 an31 cd31 ct31, f_lift := f32, d_lift := PySem.W.fnOf "lift" "lift" (defArgs s_lift) (defBody s_lift) (defScope s_lift) .none kV32 dc32 pm32 an32 cd32 ct32, f_u_measure := f33, d_u_measure := PySem.W.fnOf "_measure" "_measure" (defArgs s_u_measure) (defBody s_u_measure) (defScope s_u_measure) .none kV33 dc33 pm33 an33 cd33 ct33, f_knot := f34, d_knot := PySem.W.fnOf "_knot" "_knot" (defArgs s_knot) (defBody s_knot) (defScope s_knot) .none kV34 dc34 pm34 an34 cd34 ct34, f_measure := f35, d_measure := PySem.W.fnOf "measure" "measure" (defArgs s_measure) (defBody s_measure) (defScope s_measure) .none kV35 dc35 pm35 an35 cd35 ct35, f_lead := f36, d_lead := PySem.W.fnOf "lead" "lead" (defArgs s_lead) (defBody s_lead) (defScope s_lead) .none kV36 dc36 pm36 an36 cd36 ct36, f_net := f37, d_net := PySem.W.fnOf "net" "net" (defArgs s_net) (defBody s_net) (defScope s_net) .none kV37 dc37 pm37 an37 cd37 ct37, f_law := fa, d_law := PySem.W.fnOf "law" "law" (defArgs s_law) (defBody s_law) (defScope s_law) .none kV38 dc38 pm38 an38 cd38 ct38, C_Machine := C_Machine, C_NoEvent := C_NoEvent, C_NoKnot := C_NoKnot, C_NoShare := C_NoShare, C_NoStanding := C_NoStanding, t_MOST_EVENTS := t_MOST_EVENTS, t_MOST_POINTS := t_MOST_POINTS, t_MOST_STANDINGS := t_MOST_STANDINGS, t_MOST_TRIES := t_MOST_TRIES } := {
    F_is_whole := F1, B_is_whole := b1,
    m_is_whole := PySem.W.mg_of X G a1,
    F_lift_of := F2, B_lift_of := b2,
    m_lift_of := PySem.W.mg_of X G a2,
    F_steps := F3, B_steps := b3,
    m_steps := PySem.W.mg_of X G a3,
    F_spread := F4, B_spread := b4,
    m_spread := PySem.W.mg_of X G a4,
    F_inner_events := F5, B_inner_events := b5,
    m_inner_events := PySem.W.mg_of X G a5,
    F_total := F6, B_total := b6,
    m_total := PySem.W.mg_of X G a6,
    F_ways := F7, B_ways := b7,
    m_ways := PySem.W.mg_of X G a7,
    F_without_tries := F8, B_without_tries := b8,
    m_without_tries := PySem.W.mg_of X G a8,
    F_law_pot := F9, B_law_pot := b9,
    m_law_pot := PySem.W.mg_of X G a9,
    F_law_draw := F10, B_law_draw := b10,
    m_law_draw := PySem.W.mg_of X G a10,
    F_law_gcd := F11, B_law_gcd := b11,
    m_law_gcd := PySem.W.mg_of X G a11,
    F_law_out := F12, B_law_out := b12,
    m_law_out := PySem.W.mg_of X G a12,
    F_is_between := F13, B_is_between := b13,
    m_is_between := PySem.W.mg_of X G a13,
    F_is_pair := F14, B_is_pair := b14,
    m_is_pair := PySem.W.mg_of X G a14,
    F_reached := F15, B_reached := b15,
    m_reached := PySem.W.mg_of X G a15,
    F_row_lift := F16, B_row_lift := b16,
    m_row_lift := PySem.W.mg_of X G a16,
    F_round_pairs := F17, B_round_pairs := b17,
    m_round_pairs := PySem.W.mg_of X G a17,
    F_law_low := F18, B_law_low := b18,
    m_law_low := PySem.W.mg_of X G a18,
    F_law_reached := F19, B_law_reached := b19,
    m_law_reached := PySem.W.mg_of X G a19,
    F_law_leads := F20, B_law_leads := b20,
    m_law_leads := PySem.W.mg_of X G a20,
    F_is_share := F21, B_is_share := b21,
    m_is_share := PySem.W.mg_of X G a21,
    F_knots := F22, B_knots := b22,
    m_knots := PySem.W.mg_of X G a22,
    F_are_counts := F23, B_are_counts := b23,
    m_are_counts := PySem.W.mg_of X G a23,
    F_has_event := F24, B_has_event := b24,
    m_has_event := PySem.W.mg_of X G a24,
    F_net_of := F25, B_net_of := b25,
    m_net_of := PySem.W.mg_of X G a25,
    F_law_share := F26, B_law_share := b26,
    m_law_share := PySem.W.mg_of X G a26,
    F_check_share := F27, B_check_share := b27,
    m_check_share := PySem.W.mg_of X G a27,
    F_knot_of := F28, B_knot_of := b28,
    m_knot_of := PySem.W.mg_of X G a28,
    F_is_event := F29, B_is_event := b29,
    m_is_event := PySem.W.mg_of X G a29,
    F_u_net := F30, B_u_net := b30,
    m_u_net := PySem.W.mg_of X G a30,
    F_Machine___init__ := F31, B_Machine___init__ := b31,
    F_lift := F32, B_lift := b32,
    m_lift := PySem.W.mg_of X G a32,
    F_u_measure := F33, B_u_measure := b33,
    m_u_measure := PySem.W.mg_of X G a33,
    F_knot := F34, B_knot := b34,
    m_knot := PySem.W.mg_of X G a34,
    F_measure := F35, B_measure := b35,
    m_measure := PySem.W.mg_of X G a35,
    F_lead := F36, B_lead := b36,
    m_lead := PySem.W.mg_of X G a36,
    F_net := F37, B_net := b37,
    m_net := PySem.W.mg_of X G a37,
    F_law := F38, B_law := b38,
    m_law := PySem.W.mg_of X G a38,
    m_Machine := PySem.W.mg_of X G aC_Machine,
    cl_Machine := ⟨pg_Machine, hd_Machine, po_Machine, sa_Machine⟩, mk_Machine := ⟨mk_Machine, a31, i31, kc_Machine⟩,
    n_events := n_events,
    n_standings := n_standings,
    m_NoEvent := PySem.W.mg_of X G aC_NoEvent,
    m_NoKnot := PySem.W.mg_of X G aC_NoKnot,
    m_NoShare := PySem.W.mg_of X G aC_NoShare,
    m_NoStanding := PySem.W.mg_of X G aC_NoStanding,
    x_NoEvent := xx_NoEvent, kp_NoEvent := xk_NoEvent, b_NoEvent := xb_NoEvent, t_NoEvent := xt_NoEvent, e_NoEvent := exm_own xb_NoEvent xi_NoEvent xt_NoEvent xs_NoEvent,
    x_NoKnot := xx_NoKnot, kp_NoKnot := xk_NoKnot, b_NoKnot := xb_NoKnot, t_NoKnot := xt_NoKnot, e_NoKnot := exm_own xb_NoKnot xi_NoKnot xt_NoKnot xs_NoKnot,
    x_NoShare := xx_NoShare, kp_NoShare := xk_NoShare, b_NoShare := xb_NoShare, t_NoShare := xt_NoShare, e_NoShare := exm_own xb_NoShare xi_NoShare xt_NoShare xs_NoShare,
    x_NoStanding := xx_NoStanding, kp_NoStanding := xk_NoStanding, b_NoStanding := xb_NoStanding, t_NoStanding := xt_NoStanding, e_NoStanding := exm_own xb_NoStanding xi_NoStanding xt_NoStanding xs_NoStanding,
    z_abs := PySem.W.mg_none_of X G z_abs,
    z_bool := PySem.W.mg_none_of X G z_bool,
    z_enumerate := PySem.W.mg_none_of X G z_enumerate,
    z_int := PySem.W.mg_none_of X G z_int,
    z_isinstance := PySem.W.mg_none_of X G z_isinstance,
    z_len := PySem.W.mg_none_of X G z_len,
    z_range := PySem.W.mg_none_of X G z_range,
    z_set := PySem.W.mg_none_of X G z_set,
    z_sorted := PySem.W.mg_none_of X G z_sorted,
    z_sum := PySem.W.mg_none_of X G z_sum,
    z_tuple := PySem.W.mg_none_of X G z_tuple,
    c_MOST_EVENTS := PySem.W.mg_of X G v_MOST_EVENTS,
    c_MOST_POINTS := PySem.W.mg_of X G v_MOST_POINTS,
    c_MOST_STANDINGS := PySem.W.mg_of X G v_MOST_STANDINGS,
    c_MOST_TRIES := PySem.W.mg_of X G v_MOST_TRIES,
    m_gcd := PySem.W.mg_of X G v_gcd }
  exact ⟨_, fun s v => .of_eq rfl, fun base _ _ => ok_law T⟩
theorem walk {l : PySem.W.OpenLaw} {q : Program} {loose : List Str} {XP : (Str → Option Value) → Heap → Prop} {YP : World → Heap → Prop} {d : DefRec} {K : Params → PySem.W.Frag} (hn : l.most = some 63) (hdf : d.params.defaults = [])
    (hY : ∀ (w : World) (h : Heap), YP w h → (K w.params).In h)
    (F : ∀ (w : World) (mg : Str → Option Value) (fa : Addr) (h : Heap), (K w.params).In h → h.Ns mainGlobals mg → mg d.name = some (.ref fa) →
      ∃ fd : FuncData, (∀ (s : Shared) (u : Value), BindsTo s fd ⟨[u], []⟩ [("script", u)]) ∧ ∀ base : Heap, (K w.params).In base → base.Ns mainGlobals mg → FnOk l.prog w (K w.params) mg base CX0 7 fa fd ["script"] (spLaw (K w.params))) :
    PySem.W.WalkO q loose XP YP l.row.toRowW d [] (fun f vs => PySem.call f vs) :=
  L2.walk_of (n := 63) (k := 7) (x := "script") (CX := fun _ => CX0) (sp := fun w => spLaw (K w.params)) hn (by decide) hdf ⟨rfl, by decide, by decide⟩ hY F (fun _ _ a ns hl _ hS => ⟨a, ns, rfl, hS, hl, fun _ => rfl⟩) fun _ _ _ _ _ z => z
end Myk33

open PySem PySem.W PyProof.Rows
set_option maxRecDepth 100000 in
set_option maxHeartbeats 0 in
theorem PySem.Challenge.cw_neverleapt_k33_whole_measures_by_nets_holds : PySem.Challenge.rw_neverleapt_k33_whole_measures_by_nets.Holds := by
  w_on; o_law; k_head; (case hw => w_witness2)
  k_fill
  refine Myk33.walk (l := PySem.Challenge.rw_neverleapt_k33_whole_measures_by_nets) rfl rfl (fun w h Y => PySem.W.kIn_of Y) ?F
  case F =>
    intro w mg fa h KX G hmg
    refine' Myk33.all_mk KX G hmg ?aC_Machine ?aC_NoEvent ?aC_NoKnot ?aC_NoShare ?aC_NoStanding ?a1 ?l1 ?c1 ?k1 ?a2 ?l2 ?c2 ?k2 ?a3 ?l3 ?c3 ?k3 ?a4 ?l4 ?c4 ?k4 ?a5 ?l5 ?c5 ?k5 ?a6 ?l6 ?c6 ?k6 ?a7 ?l7 ?c7 ?k7 ?a8 ?l8 ?c8 ?k8 ?a9 ?l9 ?c9 ?k9 ?a10 ?l10 ?c10 ?k10 ?a11 ?l11 ?c11 ?k11 ?a12 ?l12 ?c12 ?k12 ?a13 ?l13 ?c13 ?k13 ?a14 ?l14 ?c14 ?k14 ?a15 ?l15 ?c15 ?k15 ?a16 ?l16 ?c16 ?k16 ?a17 ?l17 ?c17 ?k17 ?a18 ?l18 ?c18 ?k18 ?a19 ?l19 ?c19 ?k19 ?a20 ?l20 ?c20 ?k20 ?a21 ?l21 ?c21 ?k21 ?a22 ?l22 ?c22 ?k22 ?a23 ?l23 ?c23 ?k23 ?a24 ?l24 ?c24 ?k24 ?a25 ?l25 ?c25 ?k25 ?a26 ?l26 ?c26 ?k26 ?a27 ?l27 ?c27 ?k27 ?a28 ?l28 ?c28 ?k28 ?a29 ?l29 ?c29 ?k29 ?a30 ?l30 ?c30 ?k30 ?a31 ?i31 ?l31 ?c31 ?k31 ?a32 ?l32 ?c32 ?k32 ?a33 ?l33 ?c33 ?k33 ?a34 ?l34 ?c34 ?k34 ?a35 ?l35 ?c35 ?k35 ?a36 ?l36 ?c36 ?k36 ?a37 ?l37 ?c37 ?k37 ?a38 ?l38 ?c38 ?k38 ?pg_Machine ?hd_Machine ?po_Machine ?sa_Machine ?mk_Machine ?kc_Machine ?n_events ?n_standings ?xx_NoEvent ?xk_NoEvent ?xb_NoEvent ?xt_NoEvent ?xi_NoEvent ?xs_NoEvent ?xx_NoKnot ?xk_NoKnot ?xb_NoKnot ?xt_NoKnot ?xi_NoKnot ?xs_NoKnot ?xx_NoShare ?xk_NoShare ?xb_NoShare ?xt_NoShare ?xi_NoShare ?xs_NoShare ?xx_NoStanding ?xk_NoStanding ?xb_NoStanding ?xt_NoStanding ?xi_NoStanding ?xs_NoStanding ?z_abs ?z_bool ?z_enumerate ?z_int ?z_isinstance ?z_len ?z_range ?z_set ?z_sorted ?z_sum ?z_tuple ?v_MOST_EVENTS ?v_MOST_POINTS ?v_MOST_STANDINGS ?v_MOST_TRIES ?v_gcd
    (case aC_Machine => k_is)
    (case aC_NoEvent => k_is)
    (case aC_NoKnot => k_is)
    (case aC_NoShare => k_is)
    (case aC_NoStanding => k_is)
    (case a1 => k_is)
    (case l1 => k_is)
    (case c1 => k_is)
    (case k1 => k_is)
    (case a2 => k_is)
    (case l2 => k_is)
    (case c2 => k_is)
    (case k2 => k_is)
    (case a3 => k_is)
    (case l3 => k_is)
    (case c3 => k_is)
    (case k3 => k_is)
    (case a4 => k_is)
    (case l4 => k_is)
    (case c4 => k_is)
    (case k4 => k_is)
    (case a5 => k_is)
    (case l5 => k_is)
    (case c5 => k_is)
    (case k5 => k_is)
    (case a6 => k_is)
    (case l6 => k_is)
    (case c6 => k_is)
    (case k6 => k_is)
    (case a7 => k_is)
    (case l7 => k_is)
    (case c7 => k_is)
    (case k7 => k_is)
    (case a8 => k_is)
    (case l8 => k_is)
    (case c8 => k_is)
    (case k8 => k_is)
    (case a9 => k_is)
    (case l9 => k_is)
    (case c9 => k_is)
    (case k9 => k_is)
    (case a10 => k_is)
    (case l10 => k_is)
    (case c10 => k_is)
    (case k10 => k_is)
    (case a11 => k_is)
    (case l11 => k_is)
    (case c11 => k_is)
    (case k11 => k_is)
    (case a12 => k_is)
    (case l12 => k_is)
    (case c12 => k_is)
    (case k12 => k_is)
    (case a13 => k_is)
    (case l13 => k_is)
    (case c13 => k_is)
    (case k13 => k_is)
    (case a14 => k_is)
    (case l14 => k_is)
    (case c14 => k_is)
    (case k14 => k_is)
    (case a15 => k_is)
    (case l15 => k_is)
    (case c15 => k_is)
    (case k15 => k_is)
    (case a16 => k_is)
    (case l16 => k_is)
    (case c16 => k_is)
    (case k16 => k_is)
    (case a17 => k_is)
    (case l17 => k_is)
    (case c17 => k_is)
    (case k17 => k_is)
    (case a18 => k_is)
    (case l18 => k_is)
    (case c18 => k_is)
    (case k18 => k_is)
    (case a19 => k_is)
    (case l19 => k_is)
    (case c19 => k_is)
    (case k19 => k_is)
    (case a20 => k_is)
    (case l20 => k_is)
    (case c20 => k_is)
    (case k20 => k_is)
    (case a21 => k_is)
    (case l21 => k_is)
    (case c21 => k_is)
    (case k21 => k_is)
    (case a22 => k_is)
    (case l22 => k_is)
    (case c22 => k_is)
    (case k22 => k_is)
    (case a23 => k_is)
    (case l23 => k_is)
    (case c23 => k_is)
    (case k23 => k_is)
    (case a24 => k_is)
    (case l24 => k_is)
    (case c24 => k_is)
    (case k24 => k_is)
    (case a25 => k_is)
    (case l25 => k_is)
    (case c25 => k_is)
    (case k25 => k_is)
    (case a26 => k_is)
    (case l26 => k_is)
    (case c26 => k_is)
    (case k26 => k_is)
    (case a27 => k_is)
    (case l27 => k_is)
    (case c27 => k_is)
    (case k27 => k_is)
    (case a28 => k_is)
    (case l28 => k_is)
    (case c28 => k_is)
    (case k28 => k_is)
    (case a29 => k_is)
    (case l29 => k_is)
    (case c29 => k_is)
    (case k29 => k_is)
    (case a30 => k_is)
    (case l30 => k_is)
    (case c30 => k_is)
    (case k30 => k_is)
    (case a31 => k_is)
    (case i31 => k_is)
    (case l31 => k_is)
    (case c31 => k_is)
    (case k31 => k_is)
    (case a32 => k_is)
    (case l32 => k_is)
    (case c32 => k_is)
    (case k32 => k_is)
    (case a33 => k_is)
    (case l33 => k_is)
    (case c33 => k_is)
    (case k33 => k_is)
    (case a34 => k_is)
    (case l34 => k_is)
    (case c34 => k_is)
    (case k34 => k_is)
    (case a35 => k_is)
    (case l35 => k_is)
    (case c35 => k_is)
    (case k35 => k_is)
    (case a36 => k_is)
    (case l36 => k_is)
    (case c36 => k_is)
    (case k36 => k_is)
    (case a37 => k_is)
    (case l37 => k_is)
    (case c37 => k_is)
    (case k37 => k_is)
    (case a38 => k_is)
    (case l38 => k_is)
    (case c38 => k_is)
    (case k38 => k_is)
    (case pg_Machine => k_is)
    (case hd_Machine => k_is)
    (case po_Machine => k_is)
    (case sa_Machine => k_is)
    (case mk_Machine => k_is)
    (case kc_Machine => k_is)
    (case n_events => k_is)
    (case n_standings => k_is)
    (case xx_NoEvent => k_exc)
    (case xk_NoEvent => k_is)
    (case xb_NoEvent => k_is)
    (case xt_NoEvent => k_is)
    (case xi_NoEvent => k_is)
    (case xs_NoEvent => first | rfl | k_is)
    (case xx_NoKnot => k_exc)
    (case xk_NoKnot => k_is)
    (case xb_NoKnot => k_is)
    (case xt_NoKnot => k_is)
    (case xi_NoKnot => k_is)
    (case xs_NoKnot => first | rfl | k_is)
    (case xx_NoShare => k_exc)
    (case xk_NoShare => k_is)
    (case xb_NoShare => k_is)
    (case xt_NoShare => k_is)
    (case xi_NoShare => k_is)
    (case xs_NoShare => first | rfl | k_is)
    (case xx_NoStanding => k_exc)
    (case xk_NoStanding => k_is)
    (case xb_NoStanding => k_is)
    (case xt_NoStanding => k_is)
    (case xi_NoStanding => k_is)
    (case xs_NoStanding => first | rfl | k_is)
    (case z_abs => k_is)
    (case z_bool => k_is)
    (case z_enumerate => k_is)
    (case z_int => k_is)
    (case z_isinstance => k_is)
    (case z_len => k_is)
    (case z_range => k_is)
    (case z_set => k_is)
    (case z_sorted => k_is)
    (case z_sum => k_is)
    (case z_tuple => k_is)
    (case v_MOST_EVENTS => k_is)
    (case v_MOST_POINTS => k_is)
    (case v_MOST_STANDINGS => k_is)
    (case v_MOST_TRIES => k_is)
    (case v_gcd => k_is)
