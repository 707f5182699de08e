import PyProof.Rows.All
import Wide.All
import OpenK.AllK
import Wide.FinOn
import HandS.ForMost
import HandS.Iter
import HandS.Wide
import HandS.Gcd
import HandS.Evl
import HandS.TupAny
import HandS.TupMul
import HandS.IsInst
import KE.GoesEnum
import HandS.WideBits
import HandS.Style
import HandS.SortRule
import HandS.More
import HandS.Strs
import HandS.Deep
import PySem.Challenge.RW_neverleapt_k05_whole_standings_reached_a
set_option Elab.async false
set_option linter.all false
set_option maxRecDepth 100000
set_option maxHeartbeats 4000000
/-! enumerate over a tuple (of mine) -/
namespace EnT
open PySem L2 PyProof.Rows
open AutoSeq1 (wpAny_loadPart')

theorem made_tup (t : Addr) (its : Array Value) (n : Nat) (dd : Option Addr) (sl : Array (Option Value)) :
    Meets (Builtin.«enumerate.__new__» ⟨[.type "enumerate", .ref t], []⟩) (fun _ R s =>
      s.heap.get? t = some { cls := .type "tuple", dict := dd, data := .seq its n, slots := sl } ∧
      R (.ok (.ret (.ref (s.heap.push { cls := .type "tuple_iterator", data := .fields #[.ref t, .int 0 0] }).objs.size)))
        { s with heap := ((s.heap.push { cls := .type "tuple_iterator", data := .fields #[.ref t, .int 0 0] }).push ({ cls := .type "enumerate", data := .fields #[.none, .bool false, .ref s.heap.objs.size, rawInt 0, .none, .none] })) }) :=
  .of_wp fun P w A R s h => by
    obtain ⟨h0, g0, d0, t0, o0⟩ := s
    obtain ⟨ht, h⟩ := h
    have sub := sub_enumerate
    have isT : Heap.IsTuple (Shared.heap ⟨h0, g0, d0, t0, o0⟩) t its := ⟨_, ht, rfl, n, rfl⟩
    wp_walk using wpAny_loadPart' ht
    refine wpAny_stack_any fun z => wpAny_pure ?_
    split
    · rename_i c _ _ _ _ _
      cases (c == Value.type "enumerate") <;>
      · wp_walk using wpAny_loadPart' ht, wpAny_pyIter_tuple isT
        exact ⟨_, rfl, h⟩
    · wp_walk using wpAny_loadPart' ht, wpAny_pyIter_tuple isT
      exact ⟨_, rfl, h⟩

section
variable {prog : Program} {w : World} {A : Around} {E : Value → Shared → Prop} {s : Shared}
theorem call_tup {t : Addr} {its : Array Value} {Q : Value → Shared → Prop} (hT : s.heap.IsTuple t its)
    (h : ∀ h', IsEnum h' (s.heap.objs.size + 1) s.heap.objs.size 0 .none → h'.IsTupleIter s.heap.objs.size t 0 →
      (∀ b o, s.heap.get? b = some o → h'.get? b = some o) → Q (.ref (s.heap.objs.size + 1)) { s with heap := h' }) :
    wpAny (model prog w) A (call (.type "enumerate") [.ref t]) Q E s := by
  obtain ⟨⟨c, dd, dt, sl⟩, ht, hc, n, hd⟩ := hT
  have hc' : c = .type "tuple" := hc
  have hd' : dt = .seq its n := hd
  subst hc' hd'
  refine callType_new F.called_enumerate (by decide) (F.typeCall_enumerate_1 _) (F.newCall_enumerate_1 _) (fun o => F.args_object_init_2 o _) F.entry_enumerate_new
    (made_tup t its n dd sl) ⟨ht, ?_⟩
  have z : (s.heap.push { cls := .type "tuple_iterator", data := .fields #[.ref t, .int 0 0] }).objs.size = s.heap.objs.size + 1 := Heap.size_push ..
  show _ ∧ _
  rw [z]
  have e : IsEnum ((s.heap.push { cls := .type "tuple_iterator", data := .fields #[.ref t, .int 0 0] }).push
      { cls := .type "enumerate", data := .fields #[.none, .bool false, .ref s.heap.objs.size, rawInt 0, .none, .none] }) (s.heap.objs.size + 1) s.heap.objs.size 0 .none := by
    have q := Heap.get?_push_size (s.heap.push { cls := .type "tuple_iterator", data := .fields #[.ref t, .int 0 0] })
      (o := { cls := .type "enumerate", data := .fields #[.none, .bool false, .ref s.heap.objs.size, rawInt 0, .none, .none] }) rfl
    rw [z] at q
    exact q
  exact ⟨⟨_, e, rfl⟩, h _ e ⟨_, Heap.get?_push_of_some _ (Heap.get?_push_size _ rfl), rfl, rfl⟩ fun b o x => Heap.get?_push_of_some _ (Heap.get?_push_of_some _ x)⟩
end

/-- the items of the tuple at a, each in a new pair with its place -/
def Ett (K : PySem.W.Frag) (a : Addr) : It where
  go i H := ∃ (xs : List V) (x : V), SqT K H a xs ∧ xs[i]? = some x
  yld i H v H' := ∃ T x, v = .ref T ∧ H T = none ∧ H' = upd H T (.tup [.int (i : Nat), x]) ∧ ∀ xs, SqT K H a xs → xs[i]? = some x
  stop i H := ∃ xs : List V, SqT K H a xs ∧ xs.length = i

def St (a e it : Addr) (i : Nat) (h : Heap) : Prop := (∃ old, IsEnum h e it ((i : Nat) : Int) old) ∧ h.IsTupleIter it a i ∧ e ≠ it

theorem apart {h : Heap} {it a : Addr} {i : Nat} {its : Array Value} (h1 : h.IsTupleIter it a i) (h2 : h.IsTuple a its) : a ≠ it := by
  obtain ⟨o, e, c, _⟩ := h1
  obtain ⟨o', e', c', _⟩ := h2
  intro z
  rw [z, e] at e'
  cases e'
  rw [c] at c'
  exact absurd c' (by decide)

theorem turn {P : Program} {w : World} {K : PySem.W.Frag} {elts : List Expr} {kk : Nat} {tpos : Pos} (a e it : Addr) :
    Turn P w K (.Tuple elts kk tpos) (Ett K a) [e, it] e (St a e it) where
  mem := by simp
  obj := fun i h st b hb => by
    obtain ⟨⟨old, he⟩, ⟨o, ho, hc, hd⟩, _⟩ := st
    rcases (by simpa using hb : b = e ∨ b = it) with z | z
    · subst z; exact ⟨_, he, fun v q => nomatch q⟩
    · subst z; exact ⟨o, ho, fun v q => by rw [hd] at q; cases q⟩
  keep := fun i h h' st k => by
    obtain ⟨⟨old, he⟩, hi, hne⟩ := st
    exact ⟨⟨old, k e (by simp) _ he⟩, hi.at fun o q => k it (by simp) o q, hne⟩
  item := by
    intro X hP hw hK hc i pins s σ H E I hf st hg
    subst hP hw hK
    obtain ⟨⟨old, he⟩, hit, hne⟩ := st
    obtain ⟨xs, x, hq, hx⟩ := hg
    obtain ⟨its, rv, p, hz⟩ := I.tuple hq
    have isT : s.heap.IsTuple a its.toArray := p
    obtain ⟨u, hu, ru⟩ := rv.get hx
    have hu' : its.toArray[i]? = some u := by simpa using hu
    have hlt : i < its.toArray.size := by
      obtain ⟨q, _⟩ := Array.getElem?_eq_some_iff.mp hu'
      exact q
    have hai := apart hit isT
    have hae : a ≠ e := by
      intro z
      obtain ⟨o', e', c', _⟩ := isT
      have he' : s.heap.get? e = some _ := he
      rw [z, he'] at e'
      cases e'
      exact absurd (show Value.type "enumerate" = Value.type "tuple" from c') (by decide)
    have hel : e < s.heap.objs.size := Heap.lt_size he
    have hil : it < s.heap.objs.size := by obtain ⟨_, q, _⟩ := hit; exact Heap.lt_size q
    refine wpAny_pyNext_enum_itemD (Draws.tuple (prog := X.prog) (w := X.w) (A := X.A.in1) (I.ok.hd hc) it a hai its.toArray) he ⟨hit, isT⟩ hlt hne
      (by simp only [List.mem_cons, List.not_mem_nil, or_false, not_or]; exact ⟨hne, fun z => hae z.symm⟩) fun v h' tk hv ho st' hT hsz hk => ?_
    have ev : v = u := by
      have q : its.toArray[i]? = some v := hv
      rw [hu'] at q
      exact (Option.some.inj q).symm
    subst ev
    refine ⟨_, rfl, wpAny_letOwnedTupleGo_enum (s := { s with heap := h', toks := tk + 1 }) ho fun h'' he' sb => ?_⟩
    have hT2 : h''.get? s.heap.objs.size = some { cls := .type "tuple", data := .seq #[.int i tk, v] } := (sb.2 _ (Nat.ne_of_gt hel)).trans hT
    have new : ObjOk X.prog X.w (upd H s.heap.objs.size (.tup [.int (i : Nat), x])) h'' s.heap.objs.size (.tup [.int (i : Nat), x]) :=
      ⟨(by show 2 ≤ sizeLine; decide), [.int i tk, v], .cons ⟨_, rfl⟩ (.cons ru .nil), ⟨_, hT2, rfl, _, rfl⟩⟩
    have J : Inv X pins σ (upd H s.heap.objs.size (.tup [.int (i : Nat), x])) { s with heap := h'', toks := tk + 1 } :=
      I.turnedNew (ch := [e, it]) (fun b ob hb q => (sb.2 b (fun z => hb (by simp [z]))).trans (hk b ob (fun z => hb (by simp [z])) (fun z => hb (by simp [z])) q)) hf (Nat.le_refl _) new
    refine ⟨.ref s.heap.objs.size, _, J, rfl, ⟨_, x, rfl, I.hok.fresh (Nat.le_refl _), rfl, fun ys hy => by rw [I.tuple_inj hy hq]; exact hx⟩, ⟨⟨v, ?_⟩, st'.1.at fun o q => (sb.2 it (Ne.symm hne)).trans q, hne⟩, fun b hb => ?_⟩
    · have e1 : ((i + 1 : Nat) : Int) = (i : Int) + 1 := by omega
      rw [e1]
      exact he'
    · have hb' : b < s.heap.objs.size := by
        rcases (by simpa using hb : b = e ∨ b = it) with z | z
        · rw [z]; exact hel
        · rw [z]; exact hil
      rw [upd_ne (Nat.ne_of_lt hb')]
      exact (hf b hb).1
  done := by
    intro X hP hw hK hc i pins s σ H E I hf st hg
    subst hP hw hK
    obtain ⟨⟨old, he⟩, hit, hne⟩ := st
    obtain ⟨xs, hq, hx⟩ := hg
    obtain ⟨its, rv, p, hz⟩ := I.tuple hq
    have isT : s.heap.IsTuple a its.toArray := p
    obtain ⟨f0, f1, f2, f3, f4, f5⟩ := hf it (by simp)
    have hl := rv.length
    have hai := apart hit isT
    have hn : i = its.toArray.size := by simp; omega
    subst hn
    exact wpAny_pyNext_enum_endD (Draws.tuple (prog := X.prog) (w := X.w) (A := X.A.in1) (I.ok.hd hc) it a hai its.toArray) he ⟨hit, isT⟩ fun h' eb =>
      ⟨rfl, I.turned (t' := s.toks) (fun b o hb q => eb b o hb q) f0 f1 f3 f4 f5⟩
  self := fun A i s Q E st h => by
    obtain ⟨⟨_, he⟩, _⟩ := st
    exact wpAny_pyIter_enum he h
def iEnT (K : PySem.W.Frag) (ta : TA) : TI := fun σ H R => ta σ H fun vs H1 => ∃ a xs, vs = [.ref a] ∧ SqT K H1 a xs ∧ R (Ett K a) H1
theorem pi_enumT {X : Cx} {e : Expr} {ta : TA} {p pos tpos : Pos} {elts : List Expr} {kk : Nat} (hg : Gl X "enumerate") (hm : X.mg "enumerate" = none) (ha : PA X [e] ta)
    (hs : starEach [e] X.env = [(false, eval e X.env)] := by rfl) : PI X (.Tuple elts kk tpos) (.Call (.Name "enumerate" p) [e] [] pos) (iEnT X.K ta) := by
  refine ⟨fun pins s σ H R I h => ?_⟩
  refine Call_ (ld_blt I hg hm boot_enumerate (PyProof.Rows.callWith_type1 (thn (ha.run pos pins s σ H _ I h) fun us s1 z => ?_) hs rfl))
  obtain ⟨vs, H1, I1, r1, a, xs, ex, hq, q⟩ := z
  subst ex
  cases r1 with
  | cons r rr =>
    cases rr
    cases r
    obtain ⟨its, rv, p', hz⟩ := I1.tuple hq
    refine call_tup (show s1.heap.IsTuple a its.toArray from p') fun h' he hit hk => wpAny_pyIter_enum he ?_
    have J : Inv X pins σ H1 { s1 with heap := h' } := I1.kept (t' := s1.toks) hk
    refine ⟨s1.heap.objs.size + 1, [s1.heap.objs.size + 1, s1.heap.objs.size], _, _, H1, rfl, J, turn a (s1.heap.objs.size + 1) s1.heap.objs.size, ⟨⟨.none, he⟩, hit, Nat.succ_ne_self _⟩, fun b hb => ?_, q⟩
    have le : s1.heap.objs.size ≤ b := by
      rcases (by simpa using hb : b = s1.heap.objs.size + 1 ∨ b = s1.heap.objs.size) with z | z
      · rw [z]; exact Nat.le_succ _
      · rw [z]; exact Nat.le_refl _
    exact I1.fpOk le (I1.hok.fresh le)
/-- for i, x in enumerate(t): an invariant by the turn -/
theorem for_enT {K : PySem.W.Frag} {a : Addr} {xs : List V} {g : TG} {tb : TS} {D : Ends} {σ : L2.St} {H : Hp} (Pv : Nat → L2.St → Hp → Prop) (h0 : Pv 0 σ H) (hl : ∀ i σ H, i ≤ xs.length → Pv i σ H → SqT K H a xs)
    (hs : ∀ i x σ H T, xs[i]? = some x → Pv i σ H → H T = none → g (.ref T) σ (upd H T (.tup [.int (i : Nat), x])) fun σ2 H2 => tb { D with nx := Pv (i + 1), ct := Pv (i + 1), bk := D.nx } σ2 H2) (hd : ∀ σ H, Pv xs.length σ H → D.nx σ H) :
    ∃ W : Nat → Nat → L2.St → Hp → Prop, (∃ m, W 0 m σ H) ∧ ∀ i m σ H, W i m σ H →
      ((Ett K a).stop i H ∧ D.nx σ H) ∨ ((Ett K a).go i H ∧ ∃ N : L2.St → Hp → Prop, (∀ σ' H', N σ' H' → ∃ m', m' < m ∧ W (i + 1) m' σ' H') ∧ ∀ x H', (Ett K a).yld i H x H' → g x σ H' fun σ2 H2 => tb { D with nx := N, ct := N, bk := D.nx } σ2 H2) := by
  refine ⟨fun i m σ H => m = xs.length - i ∧ i ≤ xs.length ∧ Pv i σ H, ⟨xs.length, by simp, Nat.zero_le _, h0⟩, ?_⟩
  rintro i m σ H ⟨rfl, hi, p⟩
  have q := hl i σ H hi p
  by_cases hlt : i < xs.length
  · refine .inr ⟨⟨xs, xs[i], q, by simp [hlt]⟩, Pv (i + 1), fun σ' H' p' => ⟨xs.length - (i + 1), by omega, rfl, hlt, p'⟩, ?_⟩
    rintro v H' ⟨T, x, rfl, hT, rfl, hx⟩
    exact hs i x σ H T (hx xs q) p hT
  · have e : i = xs.length := by omega
    subst e
    exact .inl ⟨⟨xs, q, rfl⟩, hd σ H p⟩
end EnT

/-! what all my proofs use: frames, tuples of ints, the pot -/
namespace My
open PySem L2

theorem hu64 {k : Nat} {A : Around} (hr : Room k A) : A.units + 64 < cLine := by have := hr.un; omega

/-! ### frames -/
/-- an object that never changes in these programs -/
def Im : HO → Bool
  | .tup _ => true
  | .ins _ _ _ => true
  | .frz _ _ => true
  | _ => false
def Keep (H H' : Hp) : Prop := ∀ b o, Im o = true → H b = some o → H' b = some o
/-- all but these addresses is kept -/
def But (l : List Addr) (H H' : Hp) : Prop := ∀ b o, b ∉ l → H b = some o → H' b = some o
theorem Keep.refl (H : Hp) : Keep H H := fun _ _ _ h => h
theorem Keep.trans {H H1 H2 : Hp} (a : Keep H H1) (b : Keep H1 H2) : Keep H H2 := fun c o i h => b c o i (a c o i h)
theorem But.refl (l : List Addr) (H : Hp) : But l H H := fun _ _ _ h => h
theorem But.trans {l : List Addr} {H H1 H2 : Hp} (a : But l H H1) (b : But l H1 H2) : But l H H2 := fun c o i h => b c o i (a c o i h)
theorem But.of {l : List Addr} {H H' : Hp} (a : Same H H') : But l H H' := fun c o _ h => a c o h
theorem Keep.of {H H' : Hp} (a : Same H H') : Keep H H' := fun c o _ h => a c o h
theorem Same.new {H : Hp} {p : Addr} {o : HO} (h : H p = none) : Same H (upd H p o) := fun b u e => by
  rw [upd_ne (ne_of_none e h)]
  exact e
/-- a list may change -/
theorem Keep.lst {H : Hp} {p : Addr} {xs : List V} {o : HO} (h : H p = some (.lst xs)) : Keep H (upd H p o) := fun b u i e => by
  have n : b ≠ p := fun z => by
    rw [z, h] at e
    cases e
    cases i
  rw [upd_ne n]
  exact e
theorem Keep.new {H : Hp} {p : Addr} {o : HO} (h : H p = none) : Keep H (upd H p o) := Keep.of (Same.new h)
theorem But.at {l : List Addr} {H : Hp} {p : Addr} {o : HO} (h : p ∈ l) : But l H (upd H p o) := fun b u i e => by
  rw [upd_ne (fun z => i (by rw [z]; exact h))]
  exact e
theorem But.new {l : List Addr} {H : Hp} {p : Addr} {o : HO} (h : H p = none) : But l H (upd H p o) := But.of (Same.new h)

theorem But.chg {l : List Addr} {H H' : Hp} {p : Addr} {o : HO} (e : But l H H') (h : H p = none) : But l H (upd H' p o) := fun b u i z => by
  rw [upd_ne (ne_of_none z h)]
  exact e b u i z
theorem Same.chg {H H' : Hp} {p : Addr} {o : HO} (e : Same H H') (h : H p = none) : Same H (upd H' p o) := fun b u z => by
  rw [upd_ne (ne_of_none z h)]
  exact e b u z

variable {K : PySem.W.Frag}
theorem SqT.keep {H H' : Hp} {a : Addr} {xs : List V} (e : Keep H H') (h : SqT K H a xs) : SqT K H' a xs := by
  rcases h with (h | ⟨o, h⟩) | h
  · exact .inl (.inl (e _ _ rfl h))
  · exact .inl (.inr ⟨o, e _ _ rfl h⟩)
  · exact .inr h
theorem SqT.lt {H : Hp} {a : Addr} {xs : List V} (h : H a = some (.tup xs)) : SqT K H a xs := .inl (.inl h)
theorem SqL.lt {H : Hp} {a : Addr} {xs : List V} (h : H a = some (.lst xs)) : SqL K H a xs := .inl (.inl h)

/-! ### two lists place by place -/
inductive All2 {α β : Type} (R : α → β → Prop) : List α → List β → Prop
  | nil : All2 R [] []
  | cons {a b as bs} : R a b → All2 R as bs → All2 R (a :: as) (b :: bs)
theorem All2.len {α β : Type} {R : α → β → Prop} {as : List α} {bs : List β} (h : All2 R as bs) : as.length = bs.length := by
  induction h with
  | nil => rfl
  | cons _ _ ih => simp [ih]
theorem All2.get {α β : Type} {R : α → β → Prop} {as : List α} {bs : List β} (h : All2 R as bs) : ∀ {i : Nat} {b : β}, bs[i]? = some b → ∃ a, as[i]? = some a ∧ R a b := by
  induction h with
  | nil => intro i b e; simp at e
  | @cons a b as bs r t ih =>
    intro i y e
    cases i with
    | zero =>
      have e' : b = y := by simpa using e
      subst e'
      exact ⟨a, by simp, r⟩
    | succ i =>
      obtain ⟨x, h1, h2⟩ := ih (i := i) (b := y) (by simpa using e)
      exact ⟨x, by simpa using h1, h2⟩
theorem All2.getL {α β : Type} {R : α → β → Prop} {as : List α} {bs : List β} (h : All2 R as bs) : ∀ {i : Nat} {a : α}, as[i]? = some a → ∃ b, bs[i]? = some b ∧ R a b := by
  induction h with
  | nil => intro i b e; simp at e
  | @cons a b as bs r t ih =>
    intro i y e
    cases i with
    | zero =>
      have e' : a = y := by simpa using e
      subst e'
      exact ⟨b, by simp, r⟩
    | succ i =>
      obtain ⟨x, h1, h2⟩ := ih (i := i) (a := y) (by simpa using e)
      exact ⟨x, by simpa using h1, h2⟩
theorem All2.imp {α β : Type} {R S : α → β → Prop} {as : List α} {bs : List β} (h : All2 R as bs) (f : ∀ a b, R a b → S a b) : All2 S as bs := by
  induction h with
  | nil => exact .nil
  | cons r _ ih => exact .cons (f _ _ r) ih
theorem All2.app {α β : Type} {R : α → β → Prop} {as cs : List α} {bs ds : List β} (h : All2 R as bs) (g : All2 R cs ds) : All2 R (as ++ cs) (bs ++ ds) := by
  induction h with
  | nil => exact g
  | cons r _ ih => exact .cons r ih
theorem All2.snoc {α β : Type} {R : α → β → Prop} {as : List α} {bs : List β} {a : α} {b : β} (h : All2 R as bs) (r : R a b) : All2 R (as ++ [a]) (bs ++ [b]) := h.app (.cons r .nil)
theorem All2.take {α β : Type} {R : α → β → Prop} {as : List α} {bs : List β} (h : All2 R as bs) : ∀ n : Nat, All2 R (as.take n) (bs.take n) := by
  induction h with
  | nil => intro n; simp; exact .nil
  | cons r _ ih =>
    intro n
    cases n with
    | zero => simp; exact .nil
    | succ n => simpa using .cons r (ih n)
theorem All2.map {α β γ : Type} {R : α → β → Prop} (f : γ → α) (g : γ → β) : ∀ (l : List γ), (∀ x ∈ l, R (f x) (g x)) → All2 R (l.map f) (l.map g)
  | [], _ => .nil
  | x :: l, h => .cons (h x (by simp)) (All2.map f g l fun y hy => h y (by simp [hy]))
theorem take_succ {α : Type} {l : List α} {i : Nat} {x : α} (h : l[i]? = some x) : l.take (i + 1) = l.take i ++ [x] := by
  rw [List.take_add_one, h]
  rfl

/-! ### tuples of ints, tuples of such -/
def IT (K : PySem.W.Frag) (H : Hp) (v : V) (ns : List Int) : Prop := ∃ q, v = .ref q ∧ SqT K H q (ns.map V.int)
theorem IT.keep {H H' : Hp} {v : V} {ns : List Int} (e : Keep H H') (h : IT K H v ns) : IT K H' v ns := by
  obtain ⟨q, h1, h2⟩ := h
  exact ⟨q, h1, SqT.keep e h2⟩
theorem IT.new {H : Hp} {p : Addr} {ns : List Int} {xs : List V} (e : xs = ns.map V.int) : IT K (upd H p (.tup xs)) (.ref p) ns := ⟨p, rfl, by
  rw [← e]
  exact SqT.lt upd_same⟩
def ITs (K : PySem.W.Frag) (H : Hp) (v : V) (nss : List (List Int)) : Prop := ∃ q xs, v = .ref q ∧ SqT K H q xs ∧ All2 (IT K H) xs nss
theorem ITs.keep {H H' : Hp} {v : V} {ns : List (List Int)} (e : Keep H H') (h : ITs K H v ns) : ITs K H' v ns := by
  obtain ⟨q, xs, h1, h2, h3⟩ := h
  exact ⟨q, xs, h1, SqT.keep e h2, h3.imp fun _ _ z => z.keep e⟩

/-! ### readings of an item -/
theorem at_ge {α : Type} {xs : List α} {i : Int} {v : α} (h0 : 0 ≤ i) (h : xs[i.toNat]? = some v) : atI xs i = some v := by
  have e := atI_nat h
  rw [Int.toNat_of_nonneg h0] at e
  exact e
/-- an int of a tuple of ints -/
theorem ixI {H : Hp} {x : V} {ns : List Int} {i n : Int} {Q : V → Prop} (h : IT K H x ns) (h0 : 0 ≤ i) (hn : ns[i.toNat]? = some n) (q : Q (.int n)) :
    ∃ p xs j v, x = .ref p ∧ (V.int i) = .int j ∧ SqT K H p xs ∧ atI xs j = some v ∧ Q v := by
  obtain ⟨a, e, s⟩ := h
  exact ⟨a, _, i, .int n, e, rfl, s, at_ge h0 (by rw [List.getElem?_map, hn]; rfl), q⟩
/-- a tuple of a tuple of such -/
theorem ixT {H : Hp} {x : V} {nss : List (List Int)} {i : Int} {ns : List Int} {Q : V → Prop} (h : ITs K H x nss) (h0 : 0 ≤ i) (hn : nss[i.toNat]? = some ns) (q : ∀ v, IT K H v ns → Q v) :
    ∃ p xs j v, x = .ref p ∧ (V.int i) = .int j ∧ SqT K H p xs ∧ atI xs j = some v ∧ Q v := by
  obtain ⟨a, xs, e, s, al⟩ := h
  obtain ⟨v, hv, r⟩ := al.get hn
  exact ⟨a, _, i, v, e, rfl, s, at_ge h0 hv, q v r⟩
/-- len -/
theorem lenT {H : Hp} {x : V} {nss : List (List Int)} {Q : List V → Prop} (h : ITs K H x nss) (q : ∀ ys : List V, ys.length = nss.length → Q ys) : ∃ p ys, [x] = [V.ref p] ∧ (SqL K H p ys ∨ SqT K H p ys) ∧ Q ys := by
  obtain ⟨a, xs, e, s, al⟩ := h
  exact ⟨a, xs, by rw [e], .inr s, q _ al.len⟩
theorem lenI {H : Hp} {x : V} {ns : List Int} {Q : List V → Prop} (h : IT K H x ns) (q : ∀ ys : List V, ys.length = ns.length → Q ys) : ∃ p ys, [x] = [V.ref p] ∧ (SqL K H p ys ∨ SqT K H p ys) ∧ Q ys := by
  obtain ⟨a, e, s⟩ := h
  exact ⟨a, _, by rw [e], .inr s, q _ (List.length_map _)⟩

/-! ### the pot -/
structure Pt where
  a : Addr
  g : Addr
  s : Addr
def Pt.At (p : Pt) (H : Hp) : Prop := p.g ≠ p.s ∧ ∃ (gs ss : List Int) (t n : Int), H p.a = some (.lst [.ref p.g, .ref p.s, .int t, .int n]) ∧ H p.g = some (.lst (gs.map V.int)) ∧ H p.s = some (.lst (ss.map V.int)) ∧ ss ≠ []
def Pt.l (p : Pt) : List Addr := [p.a, p.g]
theorem Pt.At.same {p : Pt} {H H' : Hp} (h : p.At H) (e : Same H H') : p.At H' := by
  obtain ⟨h1, gs, ss, t, n, h2, h3, h4, h5⟩ := h
  exact ⟨h1, gs, ss, t, n, e _ _ h2, e _ _ h3, e _ _ h4, h5⟩
/-- what the pot isn't may change too -/
theorem Pt.At.but {p : Pt} {H H' : Hp} {l : List Addr} (h : p.At H) (e : But l H H') (ha : p.a ∉ l) (hg : p.g ∉ l) (hs : p.s ∉ l) : p.At H' := by
  obtain ⟨h1, gs, ss, t, n, h2, h3, h4, h5⟩ := h
  exact ⟨h1, gs, ss, t, n, e _ _ ha h2, e _ _ hg h3, e _ _ hs h4, h5⟩
theorem Pt.At.keep {p : Pt} {H H' : Hp} (h : p.At H) (e : But p.l H H') : Keep H H' := fun b o i hb => by
  obtain ⟨h1, gs, ss, t, n, h2, h3, h4, h5⟩ := h
  refine e b o (fun z => ?_) hb
  have z' : b = p.a ∨ b = p.g := by simpa [Pt.l] using z
  rcases z' with z | z
  · rw [z, h2] at hb
    cases hb
    cases i
  · rw [z, h3] at hb
    cases hb
    cases i
/-- a new object isn't of the pot -/
theorem Pt.At.fresh {p : Pt} {H : Hp} (h : p.At H) {D : Addr} (n : H D = none) : D ≠ p.a ∧ D ≠ p.g ∧ D ≠ p.s := by
  obtain ⟨h1, gs, ss, t, n', h2, h3, h4, h5⟩ := h
  refine ⟨fun z => ?_, fun z => ?_, fun z => ?_⟩
  · rw [z, h2] at n; cases n
  · rw [z, h3] at n; cases n
  · rw [z, h4] at n; cases n
theorem Pt.out {p : Pt} {D : Addr} (h : D ≠ p.a ∧ D ≠ p.g ∧ D ≠ p.s) : D ∉ p.l := by
  simp [Pt.l]
  exact ⟨h.1, h.2.1⟩
def small (n : Int) : Prop := n.natAbs < 2 ^ 200
/-- a draw: some number below many, whatever the script -/
def spDraw : Sp := fun vs H Q _ => ∃ (p : Pt) (many : Int), vs = [.ref p.a, .int many] ∧ p.At H ∧ 0 < many ∧ small many ∧
  ∀ (r : Int) (H' : Hp), 0 ≤ r → r < many → p.At H' → But p.l H H' → Q (.int r) H'
/-- the pot of a script -/
def spPot (K : PySem.W.Frag) : Sp := fun vs H Q _ => ∃ (a : Addr) (ns : List Int), vs = [.ref a] ∧ SqL K H a (ns.map V.int) ∧ ns.length ≤ 63 ∧
  ∀ (p : Pt) (H' : Hp), p.At H' → Same H H' → H p.a = none → Q (.ref p.a) H'
/-! ### comprehensions from ints to ints -/
theorem lcI {K : PySem.W.Frag} {a D : Addr} {ns : List Int} {g : TG} {tt : L2.TT} {te : TE} {vs : List Nat} {σ : L2.St} {H1 : Hp} {Qd : Hp → Prop} (f : Int → Bool) (e : Int → Int)
    (hS : SqL K H1 a (ns.map V.int)) (hD : H1 D = none) (hl : ns.length < sizeLine)
    (hs : ∀ (n : Int) (H : Hp) (Q1 : Hp → Prop) (Q2 : V → Hp → Prop), n ∈ ns → (f n = true → Q2 (.int (e n)) H) → (f n = false → Q1 H) → g (.int n) (wipe σ vs) H fun σ2 H2 => wipe σ2 vs = wipe σ vs ∧ tt σ2 H2 fun b H3 => if b = true then te σ2 H3 Q2 else Q1 H3)
    (hd : Qd (upd H1 D (.lst (((ns.filter f).map e).map V.int)))) :
    ∃ W : Nat → Nat → Hp → Prop, (∃ m, W 0 m (upd H1 D (.lst []))) ∧ ∀ i m H, W i m H →
      ((Itl K a).stop i H ∧ Qd H) ∨ ((Itl K a).go i H ∧ ∃ Nx : Hp → Prop, (∀ H', Nx H' → ∃ m', m' < m ∧ W (i + 1) m' H') ∧ ∀ x H', (Itl K a).yld i H x H' → g x (wipe σ vs) H' fun σ2 H2 => wipe σ2 vs = wipe σ vs ∧ tt σ2 H2 fun b H3 =>
        if b = true then te σ2 H3 fun y H4 => ∃ acc, H4 D = some (.lst acc) ∧ acc.length < sizeLine ∧ Nx (upd H4 D (.lst (acc ++ [y]))) else Nx H3) := by
  have sub : ∀ (H : Hp) (l : List V), H = upd H1 D (.lst l) → SqL K H a (ns.map V.int) := fun H l q => by
    rw [q]
    exact Same.seq (Same.new hD) hS
  refine lc_list (K := K) (a := a) (xs := ns.map V.int) (fun i H => H = upd H1 D (.lst ((((ns.take i).filter f).map e).map V.int))) rfl (fun i H _ q => sub H _ q) ?_ (fun H q => ?_)
  · intro i x H hi q
    obtain ⟨n, hn, rfl⟩ : ∃ n, ns[i]? = some n ∧ x = V.int n := by
      rw [List.getElem?_map] at hi
      cases z : ns[i]? with
      | none => rw [z] at hi; cases hi
      | some n => rw [z] at hi; exact ⟨n, rfl, (Option.some.inj hi).symm⟩
    have tk := take_succ hn
    have len : (((ns.take i).filter f).map e).length < sizeLine := by
      rw [List.length_map]
      have q1 := List.length_filter_le f (ns.take i)
      have q2 := List.length_take_le i ns
      rw [List.length_take] at q1
      omega
    refine hs n H _ _ (List.mem_of_getElem? hn) (fun c => ⟨_, by rw [q]; exact upd_same, by rw [List.length_map]; exact len, ?_⟩) (fun c => ?_)
    · show upd H D _ = _
      rw [tk, q, upd_upd, List.filter_append, List.map_append, List.map_append]
      simp [c]
    · show H = _
      rw [tk, q, List.filter_append]
      simp [c]
  · rw [List.length_map, List.take_length] at q
    rw [q]
    exact hd
/-! ### events, machines, runs -/
def Four (e : List Int) : Prop := ∃ b a t p, e = [b, a, t, p]
def okEv (n : Int) (e : List Int) : Prop := ∃ b a t p, e = [b, a, t, p] ∧ 0 ≤ b ∧ b < n ∧ 0 ≤ a ∧ a < n ∧ 1 ≤ t ∧ t ≤ 40 ∧ -400 ≤ p ∧ p ≤ 400
theorem okEv.four {n : Int} {e : List Int} (h : okEv n e) : Four e := by
  obtain ⟨b, a, t, p, h, _⟩ := h
  exact ⟨b, a, t, p, h⟩
def evB (e : List Int) : Int := e.getD 0 0
def evA (e : List Int) : Int := e.getD 1 0
def evT (e : List Int) : Int := e.getD 2 0
def evP (e : List Int) : Int := e.getD 3 0
def mf (n : Int) (w : V) : List (Str × V) := putF "events" w (putF "standings" (.int n) [])
theorem es_ : ¬ (("events" : Str) = "standings") := by decide +kernel
theorem se_ : ¬ (("standings" : Str) = "events") := by decide +kernel
theorem mf_st (n : Int) (w : V) : (mf n w).lookup ("standings" : Str) = some (.int n) := by
  unfold mf
  rw [lookup_putF, if_neg se_, lookup_putF, if_pos rfl]
theorem mf_ev (n : Int) (w : V) : (mf n w).lookup ("events" : Str) = some w := by
  unfold mf
  rw [lookup_putF, if_pos rfl]
def MachAt (K : PySem.W.Frag) (C : Addr) (H : Hp) (v : V) (n : Int) (evs : List (List Int)) : Prop :=
  ∃ m dx w, v = .ref m ∧ H m = some (.ins C dx (mf n w)) ∧ ITs K H w evs
theorem MachAt.keep {C : Addr} {H H' : Hp} {v : V} {n : Int} {evs : List (List Int)} (e : Keep H H') (h : MachAt K C H v n evs) : MachAt K C H' v n evs := by
  obtain ⟨m, dx, w, h1, h2, h3⟩ := h
  exact ⟨m, dx, w, h1, e _ _ rfl h2, h3.keep e⟩
/-- machine.events, machine.standings -/
theorem fldE {C : Addr} {H : Hp} {x : V} {n : Int} {evs : List (List Int)} {Q : V → Prop} (h : MachAt K C H x n evs) (c : Cls K C) (na : NoAttr K C "events") (q : ∀ w, ITs K H w evs → Q w) :
    ∃ a C' dx fs v, x = .ref a ∧ H a = some (.ins C' dx fs) ∧ Cls K C' ∧ NoAttr K C' "events" ∧ fs.lookup ("events" : Str) = some v ∧ Q v := by
  obtain ⟨m, dx, w, h1, h2, h3⟩ := h
  exact ⟨m, C, dx, _, w, h1, h2, c, na, mf_ev n w, q w h3⟩
theorem fldS {C : Addr} {H : Hp} {x : V} {n : Int} {evs : List (List Int)} {Q : V → Prop} (h : MachAt K C H x n evs) (c : Cls K C) (na : NoAttr K C "standings") (q : Q (.int n)) :
    ∃ a C' dx fs v, x = .ref a ∧ H a = some (.ins C' dx fs) ∧ Cls K C' ∧ NoAttr K C' "standings" ∧ fs.lookup ("standings" : Str) = some v ∧ Q v := by
  obtain ⟨m, dx, w, h1, h2, h3⟩ := h
  exact ⟨m, C, dx, _, _, h1, h2, c, na, mf_st n w, q⟩
/-- where a row of events leads from a standing, if it is one -/
def walkTo (evs : List (List Int)) : Int → List Int → Option Int
  | s, [] => some s
  | s, k :: r => if 0 ≤ k ∧ k < (evs.length : Int) ∧ evB (evs.getD k.toNat []) = s then walkTo evs (evA (evs.getD k.toNat [])) r else none
theorem walkTo_app (evs : List (List Int)) : ∀ (r q : List Int) (s : Int), walkTo evs s (r ++ q) = (walkTo evs s r).bind fun t => walkTo evs t q
  | [], q, s => rfl
  | k :: r, q, s => by
    show (if _ then walkTo evs _ (r ++ q) else none) = (if _ then walkTo evs _ r else none).bind _
    split
    · exact walkTo_app evs r q _
    · rfl
/-! ### types -/
theorem tyT {H : Hp} {a : Addr} {xs : List V} (h : SqT K H a xs) : TyX K H (.ref a) (.type "tuple") := by
  rcases h with (h | ⟨o, h⟩) | ⟨o, its, n, h, c, _⟩
  · exact .base (.tup h)
  · exact .fTuple h
  · exact .kTuple h c
theorem isT {H : Hp} {x : V} {a : Addr} {xs : List V} {Q : Bool → Prop} (e : x = .ref a) (h : SqT K H a xs) (q : Q true) :
    ∃ (y c : V) (s u : Value) (b : Bool), [x, V.ty "tuple"] = [y, c] ∧ ClsV c u ∧ TyX K H y s ∧ PySem.W.kitOne K s u = some b ∧ Q b := ⟨x, .ty "tuple", .type "tuple", .type "tuple", true, rfl, .ty _, (by rw [e]; exact tyT h), kit_ty (by decide +kernel), q⟩
theorem isI {H : Hp} {n : Int} {Q : Bool → Prop} (q : Q true) : ∃ (y c : V) (s u : Value) (b : Bool), [V.int n, V.ty "int"] = [y, c] ∧ ClsV c u ∧ TyX K H y s ∧ PySem.W.kitOne K s u = some b ∧ Q b := ⟨_, _, _, _, true, rfl, .ty _, .base (.int _), kit_ty (by decide +kernel), q⟩
theorem niB {H : Hp} {n : Int} {Q : Bool → Prop} (q : Q false) : ∃ (y c : V) (s u : Value) (b : Bool), [V.int n, V.ty "bool"] = [y, c] ∧ ClsV c u ∧ TyX K H y s ∧ PySem.W.kitOne K s u = some b ∧ Q b := ⟨_, _, _, _, false, rfl, .ty _, .base (.int _), kit_ty (by decide +kernel), q⟩
theorem isLs {H : Hp} {x : V} {a : Addr} {xs : List V} {Q : Bool → Prop} (e : x = .ref a) (h : H a = some (.lst xs)) (q : Q true) :
    ∃ (y c : V) (s u : Value) (b : Bool), [x, V.ty "list"] = [y, c] ∧ ClsV c u ∧ TyX K H y s ∧ PySem.W.kitOne K s u = some b ∧ Q b := ⟨x, .ty "list", .type "list", .type "list", true, rfl, .ty _, (by rw [e]; exact .base (.lst h)), kit_ty (by decide +kernel), q⟩
/-- a comprehension over a tuple, without a test, each item's value told by a list -/
theorem lcGT {β : Type} {K : PySem.W.Frag} {a D : Addr} {xs : List V} {bs : List β} {R : Hp → V → β → Prop} {g : TG} {tt : L2.TT} {te : TE} {vs : List Nat} {σ : L2.St} {H1 : Hp} {Qd : Hp → Prop}
    (hS : SqT K H1 a xs) (hD : H1 D = none) (hl : bs.length < sizeLine) (el : xs.length = bs.length) (mono : ∀ H H' v b, Keep H H' → R H v b → R H' v b)
    (hs : ∀ (i : Nat) (x : V) (b : β) (H : Hp) (Q1 : Hp → Prop) (Q2 : V → Hp → Prop), xs[i]? = some x → bs[i]? = some b → Same H1 H → (∀ y H', Same H H' → R H' y b → Q2 y H') →
      g x (wipe σ vs) H fun σ2 H2 => wipe σ2 vs = wipe σ vs ∧ tt σ2 H2 fun b H3 => if b = true then te σ2 H3 Q2 else Q1 H3)
    (hd : ∀ H acc, Same H1 H → H D = some (.lst acc) → All2 (R H) acc bs → Qd H) :
    ∃ W : Nat → Nat → Hp → Prop, (∃ m, W 0 m (upd H1 D (.lst []))) ∧ ∀ i m H, W i m H →
      ((Itt K a).stop i H ∧ Qd H) ∨ ((Itt K a).go i H ∧ ∃ Nx : Hp → Prop, (∀ H', Nx H' → ∃ m', m' < m ∧ W (i + 1) m' H') ∧ ∀ x H', (Itt K a).yld i H x H' → g x (wipe σ vs) H' fun σ2 H2 => wipe σ2 vs = wipe σ vs ∧ tt σ2 H2 fun b H3 =>
        if b = true then te σ2 H3 fun y H4 => ∃ acc, H4 D = some (.lst acc) ∧ acc.length < sizeLine ∧ Nx (upd H4 D (.lst (acc ++ [y]))) else Nx H3) := by
  have chg : ∀ {H : Hp} {o : HO}, Same H1 H → Same H1 (upd H D o) := fun {H o} s b u e => by
    rw [upd_ne (ne_of_none e hD)]
    exact s _ _ e
  refine lc_tup (K := K) (a := a) (xs := xs) (fun i H => Same H1 H ∧ ∃ acc, H D = some (.lst acc) ∧ All2 (R H) acc (bs.take i)) ⟨chg (Same.refl _), [], upd_same, .nil⟩ (fun i H _ q => SqT.keep (Keep.of q.1) hS) ?_ (fun H q => ?_)
  · rintro i x H hi ⟨s1, acc, hA, al⟩
    have hb : i < bs.length := by rw [← el]; exact (List.getElem?_eq_some_iff.mp hi).1
    have tk := take_succ (List.getElem?_eq_getElem hb)
    have la := al.len
    rw [List.length_take] at la
    refine hs i x (bs[i]) H _ _ hi (List.getElem?_eq_getElem hb) s1 fun y H' s2 r => ⟨acc, s2 _ _ hA, by omega, chg (s1.trans s2), acc ++ [y], upd_same, ?_⟩
    rw [tk]
    have kp : Keep H' (upd H' D (.lst (acc ++ [y]))) := Keep.lst (s2 _ _ hA)
    exact (al.imp fun v b z => mono _ _ _ _ kp (mono _ _ _ _ (Keep.of s2) z)).snoc (mono _ _ _ _ kp r)
  · obtain ⟨s1, acc, hA, al⟩ := q
    rw [el, List.take_length] at al
    exact hd H acc s1 hA al
/-- a comprehension over a list, without a test, each item's value told by a list -/
theorem lcGL {β : Type} {K : PySem.W.Frag} {a D : Addr} {xs : List V} {bs : List β} {R : Hp → V → β → Prop} {g : TG} {tt : L2.TT} {te : TE} {vs : List Nat} {σ : L2.St} {H1 : Hp} {Qd : Hp → Prop}
    (hS : SqL K H1 a xs) (hD : H1 D = none) (hl : bs.length < sizeLine) (el : xs.length = bs.length) (mono : ∀ H H' v b, Keep H H' → R H v b → R H' v b)
    (hs : ∀ (i : Nat) (x : V) (b : β) (H : Hp) (Q1 : Hp → Prop) (Q2 : V → Hp → Prop), xs[i]? = some x → bs[i]? = some b → Same H1 H → (∀ y H', Same H H' → R H' y b → Q2 y H') →
      g x (wipe σ vs) H fun σ2 H2 => wipe σ2 vs = wipe σ vs ∧ tt σ2 H2 fun b H3 => if b = true then te σ2 H3 Q2 else Q1 H3)
    (hd : ∀ H acc, Same H1 H → H D = some (.lst acc) → All2 (R H) acc bs → Qd H) :
    ∃ W : Nat → Nat → Hp → Prop, (∃ m, W 0 m (upd H1 D (.lst []))) ∧ ∀ i m H, W i m H →
      ((Itl K a).stop i H ∧ Qd H) ∨ ((Itl K a).go i H ∧ ∃ Nx : Hp → Prop, (∀ H', Nx H' → ∃ m', m' < m ∧ W (i + 1) m' H') ∧ ∀ x H', (Itl K a).yld i H x H' → g x (wipe σ vs) H' fun σ2 H2 => wipe σ2 vs = wipe σ vs ∧ tt σ2 H2 fun b H3 =>
        if b = true then te σ2 H3 fun y H4 => ∃ acc, H4 D = some (.lst acc) ∧ acc.length < sizeLine ∧ Nx (upd H4 D (.lst (acc ++ [y]))) else Nx H3) := by
  have chg : ∀ {H : Hp} {o : HO}, Same H1 H → Same H1 (upd H D o) := fun {H o} s b u e => by
    rw [upd_ne (ne_of_none e hD)]
    exact s _ _ e
  refine lc_list (K := K) (a := a) (xs := xs) (fun i H => Same H1 H ∧ ∃ acc, H D = some (.lst acc) ∧ All2 (R H) acc (bs.take i)) ⟨chg (Same.refl _), [], upd_same, .nil⟩ (fun i H _ q => Same.seq q.1 hS) ?_ (fun H q => ?_)
  · rintro i x H hi ⟨s1, acc, hA, al⟩
    have hb : i < bs.length := by rw [← el]; exact (List.getElem?_eq_some_iff.mp hi).1
    have tk := take_succ (List.getElem?_eq_getElem hb)
    have la := al.len
    rw [List.length_take] at la
    refine hs i x (bs[i]) H _ _ hi (List.getElem?_eq_getElem hb) s1 fun y H' s2 r => ⟨acc, s2 _ _ hA, by omega, chg (s1.trans s2), acc ++ [y], upd_same, ?_⟩
    rw [tk]
    have kp : Keep H' (upd H' D (.lst (acc ++ [y]))) := Keep.lst (s2 _ _ hA)
    exact (al.imp fun v b z => mono _ _ _ _ kp (mono _ _ _ _ (Keep.of s2) z)).snoc (mono _ _ _ _ kp r)
  · obtain ⟨s1, acc, hA, al⟩ := q
    rw [el, List.take_length] at al
    exact hd H acc s1 hA al
/-- a comprehension over a range, without a test, each item's value told by a list -/
theorem lcGR {β : Type} {K : PySem.W.Frag} {D : Addr} {lo : Int} {bs : List β} {R : Hp → V → β → Prop} {g : TG} {tt : L2.TT} {te : TE} {vs : List Nat} {σ : L2.St} {H1 : Hp} {Qd : Hp → Prop}
    (hD : H1 D = none) (hl : bs.length < sizeLine) (mono : ∀ H H' v b, Keep H H' → R H v b → R H' v b)
    (hs : ∀ (i : Nat)  (b : β) (H : Hp) (Q1 : Hp → Prop) (Q2 : V → Hp → Prop), bs[i]? = some b → Same H1 H → (∀ y H', Same H H' → R H' y b → Q2 y H') →
      g (.int (lo + i)) (wipe σ vs) H fun σ2 H2 => wipe σ2 vs = wipe σ vs ∧ tt σ2 H2 fun b H3 => if b = true then te σ2 H3 Q2 else Q1 H3)
    (hd : ∀ H acc, Same H1 H → H D = some (.lst acc) → All2 (R H) acc bs → Qd H) :
    ∃ W : Nat → Nat → Hp → Prop, (∃ m, W 0 m (upd H1 D (.lst []))) ∧ ∀ i m H, W i m H →
      ((Itr lo bs.length).stop i H ∧ Qd H) ∨ ((Itr lo bs.length).go i H ∧ ∃ Nx : Hp → Prop, (∀ H', Nx H' → ∃ m', m' < m ∧ W (i + 1) m' H') ∧ ∀ x H', (Itr lo bs.length).yld i H x H' → g x (wipe σ vs) H' fun σ2 H2 => wipe σ2 vs = wipe σ vs ∧ tt σ2 H2 fun b H3 =>
        if b = true then te σ2 H3 fun y H4 => ∃ acc, H4 D = some (.lst acc) ∧ acc.length < sizeLine ∧ Nx (upd H4 D (.lst (acc ++ [y]))) else Nx H3) := by
  have chg : ∀ {H : Hp} {o : HO}, Same H1 H → Same H1 (upd H D o) := fun {H o} s b u e => by
    rw [upd_ne (ne_of_none e hD)]
    exact s _ _ e
  refine lc_range (fun i H => Same H1 H ∧ ∃ acc, H D = some (.lst acc) ∧ All2 (R H) acc (bs.take i)) ⟨chg (Same.refl _), [], upd_same, .nil⟩ ?_ (fun H q => ?_)
  · rintro i H hi ⟨s1, acc, hA, al⟩
    have hb : i < bs.length := by exact hi
    have tk := take_succ (List.getElem?_eq_getElem hb)
    have la := al.len
    rw [List.length_take] at la
    refine hs i  (bs[i]) H _ _ (List.getElem?_eq_getElem hb) s1 fun y H' s2 r => ⟨acc, s2 _ _ hA, by omega, chg (s1.trans s2), acc ++ [y], upd_same, ?_⟩
    rw [tk]
    have kp : Keep H' (upd H' D (.lst (acc ++ [y]))) := Keep.lst (s2 _ _ hA)
    exact (al.imp fun v b z => mono _ _ _ _ kp (mono _ _ _ _ (Keep.of s2) z)).snoc (mono _ _ _ _ kp r)
  · obtain ⟨s1, acc, hA, al⟩ := q
    rw [List.take_length] at al
    exact hd H acc s1 hA al
theorem all2_int {as : List V} {ns : List Int} (h : All2 (fun v n => v = .int n) as ns) : as = ns.map V.int := by
  induction h with
  | nil => rfl
  | cons e _ ih => rw [e, ih]; rfl
/-- a comprehension over a range, from places to ints, with a test -/
theorem lcFR {D : Addr} {lo : Int} {n : Nat} {g : TG} {tt : L2.TT} {te : TE} {vs : List Nat} {σ : L2.St} {H1 : Hp} {Qd : Hp → Prop} (f : Nat → Bool) (e : Nat → Int) (hD : H1 D = none) (hl : n < sizeLine)
    (hs : ∀ (i : Nat) (H : Hp) (Q1 : Hp → Prop) (Q2 : V → Hp → Prop), i < n → Same H1 H → (f i = true → Q2 (.int (e i)) H) → (f i = false → Q1 H) →
      g (.int (lo + i)) (wipe σ vs) H fun σ2 H2 => wipe σ2 vs = wipe σ vs ∧ tt σ2 H2 fun b H3 => if b = true then te σ2 H3 Q2 else Q1 H3)
    (hd : Qd (upd H1 D (.lst ((((List.range n).filter f).map e).map V.int)))) :
    ∃ W : Nat → Nat → Hp → Prop, (∃ m, W 0 m (upd H1 D (.lst []))) ∧ ∀ i m H, W i m H →
      ((Itr lo n).stop i H ∧ Qd H) ∨ ((Itr lo n).go i H ∧ ∃ Nx : Hp → Prop, (∀ H', Nx H' → ∃ m', m' < m ∧ W (i + 1) m' H') ∧ ∀ x H', (Itr lo n).yld i H x H' → g x (wipe σ vs) H' fun σ2 H2 => wipe σ2 vs = wipe σ vs ∧ tt σ2 H2 fun b H3 =>
        if b = true then te σ2 H3 fun y H4 => ∃ acc, H4 D = some (.lst acc) ∧ acc.length < sizeLine ∧ Nx (upd H4 D (.lst (acc ++ [y]))) else Nx H3) := by
  refine lc_range (fun i H => H = upd H1 D (.lst ((((List.range i).filter f).map e).map V.int))) rfl ?_ (fun H q => by rw [q]; exact hd)
  intro i H hi q
  have len : (((List.range i).filter f).map e).length < sizeLine := by
    rw [List.length_map]
    have q1 := List.length_filter_le f (List.range i)
    rw [List.length_range] at q1
    omega
  refine hs i H _ _ hi (by rw [q]; exact Same.new hD) (fun c => ⟨_, by rw [q]; exact upd_same, by rw [List.length_map]; exact len, ?_⟩) (fun c => ?_)
  · show upd H D _ = _
    rw [List.range_succ, q, upd_upd, List.filter_append, List.map_append, List.map_append]
    simp [c]
  · show H = _
    rw [List.range_succ, q, List.filter_append]
    simp [c]
/-! ### rules whose readings name K itself (in a comprehension X is the block's) -/
section
variable {X : Cx} (K' : PySem.W.Frag) (hK : X.K = K')
include hK
theorem ix_tupK : IxR X (rIxT K') := by subst hK; exact ix_tup
theorem ix_listK : IxR X (rIxL K') := by subst hK; exact ix_list
theorem ix_seqK : IxR X (rIx K') := by subst hK; exact ix_seq
theorem sl_listK : SlR X (rSlL K') := by subst hK; exact sl_list
theorem sl_tupK : SlR X (rSlA K') := by subst hK; exact sl_tupA
theorem op_inK : OpR X (compareOp .In) (rIn K' false) := by subst hK; exact op_in_seq
theorem op_notInK : OpR X (compareOp .NotIn) (rIn K' true) := by subst hK; exact op_notIn_seq
theorem op_catTK : OpR X (binaryOp .Add) (rCatA K') := by subst hK; exact op_catA
theorem op_repTK : OpR X (binaryOp .Mult) (rRepT K') := by subst hK; exact op_repT
theorem op_eqDK (hu : X.A.units + 64 < cLine) : OpR X (compareOp .Eq) (rEqD K') := by subst hK; exact op_eqD hu
theorem op_neDK (hu : X.A.units + 64 < cLine) : OpR X (compareOp .NotEq) (rNeD K') := by subst hK; exact op_neD hu
def rLn (K' : PySem.W.Frag) : List V → Hp → VK → Prop := fun xs H Q => ∃ p ys, xs = [.ref p] ∧ (SqL K' H p ys ∨ SqT K' H p ys) ∧ Q (.int ys.length) H
theorem call_lenK : CallR X (.builtin "len") (rLn K') := by subst hK; exact call_len_seq
def rLi (K' : PySem.W.Frag) : List V → Hp → VK → Prop := fun xs H Q => ∃ p ys, xs = [.ref p] ∧ (SqL K' H p ys ∨ SqT K' H p ys) ∧ ∀ l, H l = none → Q (.ref l) (upd H l (.lst ys))
theorem call_listK : CallR X (.type "list") (rLi K') := by subst hK; exact call_list_of
def rTu (K' : PySem.W.Frag) : List V → Hp → VK → Prop := fun xs H Q => ∃ p ys, xs = [.ref p] ∧ ((SqL K' H p ys ∧ ∀ l, H l = none → Q (.ref l) (upd H l (.tup ys))) ∨ (SqT K' H p ys ∧ Q (.ref p) H))
theorem call_tupleK : CallR X (.type "tuple") (rTu K') := by subst hK; exact call_tuple_of
theorem call_isK : CallR X (.builtin "isinstance") (rIsi K') := by subst hK; exact call_isi
theorem cr_sumK (hc : X.calm = true) : CallR X (.builtin "sum") (rSum K') := by subst hK; exact cr_sum hc
theorem cr_anyK (hc : X.calm = true) : CallR X (.builtin "any") (rAny K') := by subst hK; exact cr_any hc
theorem cr_allK (hc : X.calm = true) : CallR X (.builtin "all") (rAll K') := by subst hK; exact cr_all hc
theorem cr_sortedK : CallR X (.builtin "sorted") (rSorted K') := by subst hK; exact cr_sorted
theorem pe_fldK {e : Expr} {f : Str} {pos : Pos} {ta : TE} (he : PE X e ta) (hb : attributeBase e f X.env (eval e X.env) = eval e X.env) : PE X (.Attribute e f pos) (tFld K' ta f) := by subst hK; exact pe_fld he hb
theorem pg_tupK {es : List Expr} {k : Nat} {pos : Pos} {t : TGs} (n : Nat) (hc : X.calm = true) (h : PGs X es t) (hn : (assignEach es X.env).length = n) (hst : (assignEach es X.env).findIdx? (·.1) = none) : PG X (.Tuple es k pos) (gTup K' n t) := by subst hK; exact pg_tup hc h hn hst
end
end My

/-! what steps by themselves want: frames from behind, tests, draws -/
namespace My
open PySem L2
theorem Keep.back {H0 H1 H2 : Hp} (b : Keep H1 H2) (a : Keep H0 H1) : Keep H0 H2 := a.trans b
theorem Same.back {H0 H1 H2 : Hp} (b : Same H1 H2) (a : Same H0 H1) : Same H0 H2 := a.trans b
theorem But.back {l : List Addr} {H0 H1 H2 : Hp} (b : But l H1 H2) (a : But l H0 H1) : But l H0 H2 := a.trans b
theorem Pt.At.back {p : Pt} {H H' : Hp} (e : Same H H') (h : p.At H) : p.At H' := h.same e
theorem iteD {c A B : Prop} [Decidable c] (h1 : c → A) (h2 : ¬ c → B) : if decide c = true then A else B := by
  by_cases h : c
  · rw [decide_eq_true h, if_pos rfl]; exact h1 h
  · rw [decide_eq_false h, if_neg (by decide)]; exact h2 h
theorem iteI {x y : Int} {A B : Prop} (h1 : x = y → A) (h2 : x ≠ y → B) : if decide (V.int x = V.int y) = true then A else B :=
  iteD (fun h => h1 (V.int.inj h)) fun h => h2 fun z => h (congrArg V.int z)
/-- != -/
theorem iteNI {x y : Int} {A B : Prop} (h1 : x ≠ y → A) (h2 : x = y → B) : if (!decide (V.int x = V.int y)) = true then A else B := by
  by_cases h : x = y
  · rw [h, decide_eq_true rfl]; exact iteF (h2 h)
  · rw [decide_eq_false (fun z => h (V.int.inj z))]; exact iteT (h1 h)
theorem IT.new1 {K : PySem.W.Frag} {H : Hp} {p : Addr} {a : Int} : IT K (upd H p (.tup [.int a])) (.ref p) [a] := IT.new rfl
theorem IT.new2 {K : PySem.W.Frag} {H : Hp} {p : Addr} {a b : Int} : IT K (upd H p (.tup [.int a, .int b])) (.ref p) [a, b] := IT.new rfl
theorem IT.new3 {K : PySem.W.Frag} {H : Hp} {p : Addr} {a b c : Int} : IT K (upd H p (.tup [.int a, .int b, .int c])) (.ref p) [a, b, c] := IT.new rfl
theorem IT.new4 {K : PySem.W.Frag} {H : Hp} {p : Addr} {a b c d : Int} : IT K (upd H p (.tup [.int a, .int b, .int c, .int d])) (.ref p) [a, b, c, d] := IT.new rfl
theorem IT.sq {K : PySem.W.Frag} {H : Hp} {p : Addr} {ns : List Int} (h : IT K H (.ref p) ns) : SqT K H p (ns.map V.int) := by
  obtain ⟨q, e, s⟩ := h
  cases e
  exact s
theorem use_draw {p : Pt} {many : Int} {H : Hp} {Q : VK} {E : XK} (hp : p.At H) (hm : 0 < many) (hs : small many)
    (k : ∀ (r : Int) (H' : Hp), 0 ≤ r → r < many → p.At H' → But p.l H H' → Keep H H' → Q (.int r) H') : spDraw [.ref p.a, .int many] H Q E :=
  ⟨p, many, rfl, hp, hm, hs, fun r H' r0 r1 hp' b => k r H' r0 r1 hp' b (hp.keep b)⟩
theorem iteST {a b : Str} {A B : Prop} (h : a = b) (k : A) : if decide (V.str a = V.str b) = true then A else B := by
  rw [decide_eq_true (congrArg V.str h), if_pos rfl]; exact k
theorem iteSF {a b : Str} {A B : Prop} (h : ¬ (a = b)) (k : B) : if decide (V.str a = V.str b) = true then A else B := by
  rw [decide_eq_false (fun z => h (V.str.inj z)), if_neg (by decide)]; exact k
theorem divp_small {i j : Int} (hj : 0 < j) (h : i.natAbs < 2 ^ 1000) : CDivP i j := by
  refine divp_ok hj ?_
  have b : Builtin.Int.intBits i ≤ i.natAbs.log2 + 1 := by
    unfold Builtin.Int.intBits
    split <;> omega
  have := PySem.Flt.log2_lt_of (by decide : 0 < 1000) h
  omega
theorem CMul.l {i j : Int} (h0 : -(2 ^ 64) < i) (h1 : i < 2 ^ 64) : CMul i j := .inl ⟨h0, h1⟩
theorem CMul.r {i j : Int} (h0 : -(2 ^ 64) < j) (h1 : j < 2 ^ 64) : CMul i j := .inr ⟨h0, h1⟩
theorem CMulW.of {i j : Int} (hi : i.natAbs < 2 ^ 400) (hj : j.natAbs < 2 ^ 400) : CMulW i j := wide_mul hi hj (by decide) (by decide) (by decide)
theorem bl_true {Q : VK} {H : Hp} {c : Prop} [Decidable c] (q : Q (.bl true) H) (h : c) : Q (.bl (decide c)) H := by
  rw [decide_eq_true h]; exact q
theorem bl_false {Q : VK} {H : Hp} {c : Prop} [Decidable c] (q : Q (.bl false) H) (h : ¬ c) : Q (.bl (decide c)) H := by
  rw [decide_eq_false h]; exact q
theorem tC_i {v : V} {σ : L2.St} {H : Hp} {Q : VK} (q : Q v H) : tC v σ H Q := q
theorem tNil_i {σ : L2.St} {H : Hp} {Q : List V → Hp → Prop} (q : Q [] H) : tNil σ H Q := q
theorem tCons_i {ta : TE} {t : TA} {σ : L2.St} {H : Hp} {Q : List V → Hp → Prop} (q : ta σ H fun x H1 => t σ H1 fun xs H2 => Q (x :: xs) H2) : tCons ta t σ H Q := q
theorem tCall_i {sp : Sp} {dvs : List V} {E : XK} {t : TA} {σ : L2.St} {H : Hp} {Q : VK} (q : t σ H fun vs H1 => sp (vs ++ dvs) H1 Q E) : tCall sp dvs E t σ H Q := q
theorem tOp_i {r : R2} {ta tb : TE} {σ : L2.St} {H : Hp} {Q : VK} (q : ta σ H fun x H1 => tb σ H1 fun y H2 => r x y H2 Q) : tOp r ta tb σ H Q := q
theorem tVar_i {i : Nat} {v : V} {σ : L2.St} {H : Hp} {Q : VK} (e : σ[i]? = some (some v)) (q : Q v H) : tVar i σ H Q := ⟨v, e, q⟩
theorem iteNEq {x y : Int} {A B : Prop} (h : x = y) (k : B) : if (!decide (V.int x = V.int y)) = true then A else B := iteNI (fun c => absurd h c) fun _ => k
theorem iteFb {c : Bool} {A B : Prop} (h : c = false) (k : B) : if c = true then A else B := by rw [h]; exact iteF k
theorem iteTb {c : Bool} {A B : Prop} (h : c = true) (k : A) : if c = true then A else B := by rw [h]; exact iteT k
theorem IT.flip {K : PySem.W.Frag} {H H' : Hp} {v : V} {ns : List Int} (h : IT K H v ns) (e : Keep H H') : IT K H' v ns := h.keep e
theorem ITs.flip {K : PySem.W.Frag} {H H' : Hp} {v : V} {ns : List (List Int)} (h : ITs K H v ns) (e : Keep H H') : ITs K H' v ns := h.keep e
theorem SqT.flip {K : PySem.W.Frag} {H H' : Hp} {a : Addr} {xs : List V} (h : SqT K H a xs) (e : Keep H H') : SqT K H' a xs := SqT.keep e h
theorem SqL.flip {K : PySem.W.Frag} {H H' : Hp} {a : Addr} {xs : List V} (h : SqL K H a xs) (e : Same H H') : SqL K H' a xs := Same.seq e h
theorem At.flip {H H' : Hp} {a : Addr} {o : HO} (h : H a = some o) (e : Same H H') : H' a = some o := e _ _ h
theorem CDivW.of {i j : Int} (h : 0 < j) (hj : j.natAbs < 2 ^ 400) : CDivW i j := wide_div h hj (by decide) (by decide)
section
variable {K : PySem.W.Frag}
def Parts (K : PySem.W.Frag) (H : Hp) (v : V) (n : Int) (evs : List (List Int)) : Prop := ∃ q w, v = .ref q ∧ SqT K H q [.int n, w] ∧ ITs K H w evs
theorem Parts.keep {H H' : Hp} {v : V} {n : Int} {evs : List (List Int)} (e : Keep H H') (h : Parts K H v n evs) : Parts K H' v n evs := by
  obtain ⟨q, w, h1, h2, h3⟩ := h
  exact ⟨q, w, h1, SqT.keep e h2, h3.keep e⟩
theorem ixP1 {H : Hp} {x : V} {n : Int} {evs : List (List Int)} {Q : V → Prop} (h : Parts K H x n evs) (q : ∀ w, ITs K H w evs → Q w) :
    ∃ p xs j v, x = .ref p ∧ (V.int 1) = .int j ∧ SqT K H p xs ∧ atI xs j = some v ∧ Q v := by
  obtain ⟨a, w, e, s, t⟩ := h
  exact ⟨a, _, 1, w, e, rfl, s, rfl, q w t⟩
theorem ixP0 {H : Hp} {x : V} {n : Int} {evs : List (List Int)} {Q : V → Prop} (h : Parts K H x n evs) (q : Q (.int n)) :
    ∃ p xs j v, x = .ref p ∧ (V.int 0) = .int j ∧ SqT K H p xs ∧ atI xs j = some v ∧ Q v := by
  obtain ⟨a, w, e, s, t⟩ := h
  exact ⟨a, _, 0, _, e, rfl, s, rfl, q⟩
def LTs (K : PySem.W.Frag) (H : Hp) (D : Addr) (nss : List (List Int)) : Prop := ∃ xs, H D = some (.lst xs) ∧ All2 (IT K H) xs nss
theorem LTs.but {H H' : Hp} {l : List Addr} {D : Addr} {nss : List (List Int)} (h : LTs K H D nss) (b : But l H H') (k : Keep H H') (n : D ∉ l) : LTs K H' D nss := by
  obtain ⟨xs, h1, h2⟩ := h
  exact ⟨xs, b _ _ n h1, h2.imp fun _ _ z => z.keep k⟩
end
theorem Keep.ofBut {p : Pt} {H H' : Hp} (b : But p.l H H') (h : p.At H) : Keep H H' := h.keep b
theorem Parts.flip {K : PySem.W.Frag} {H H' : Hp} {v : V} {n : Int} {evs : List (List Int)} (h : Parts K H v n evs) (e : Keep H H') : Parts K H' v n evs := h.keep e
theorem MachAt.flip {K : PySem.W.Frag} {C : Addr} {H H' : Hp} {v : V} {n : Int} {evs : List (List Int)} (h : MachAt K C H v n evs) (e : Keep H H') : MachAt K C H' v n evs := h.keep e
theorem LTs.flip {K : PySem.W.Frag} {H H' : Hp} {D : Addr} {nss : List (List Int)} (h : LTs K H D nss) (s : Same H H') : LTs K H' D nss := h.but (But.of (l := []) s) (Keep.of s) (by simp)
theorem mapI {ns : List Int} {i : Nat} {y : V} (h : (ns.map V.int)[i]? = some y) : ∃ n, ns[i]? = some n ∧ y = .int n := by
  rw [List.getElem?_map] at h
  cases z : ns[i]? with
  | none => rw [z] at h; cases h
  | some n => rw [z] at h; exact ⟨n, rfl, (Option.some.inj h).symm⟩
theorem Parts.open {K : PySem.W.Frag} {H : Hp} {v : V} {n : Int} {evs : List (List Int)} (h : Parts K H v n evs) : ∃ q w xs, v = .ref q ∧ SqT K H q [.int n, .ref w] ∧ SqT K H w xs ∧ All2 (IT K H) xs evs := by
  obtain ⟨q, w, rfl, h1, a, xs, rfl, h2, al⟩ := h
  exact ⟨q, a, xs, rfl, h1, h2, al⟩
theorem MachAt.open {K : PySem.W.Frag} {C : Addr} {H : Hp} {v : V} {n : Int} {evs : List (List Int)} (h : MachAt K C H v n evs) : ∃ m dx w xs, v = .ref m ∧ H m = some (.ins C dx (mf n (.ref w))) ∧ SqT K H w xs ∧ All2 (IT K H) xs evs := by
  obtain ⟨m, dx, w, rfl, h1, a, xs, rfl, h2, al⟩ := h
  exact ⟨m, dx, a, xs, rfl, h1, h2, al⟩
theorem evAt {K : PySem.W.Frag} {H : Hp} {xs : List V} {evs : List (List Int)} {k : Int} {e : List Int} (al : All2 (IT K H) xs evs) (h0 : 0 ≤ k) (h : evs[k.toNat]? = some e) : ∃ z, atI xs k = some (.ref z) ∧ IT K H (.ref z) e := by
  obtain ⟨v, hv, hI⟩ := al.get h
  obtain ⟨z, rfl, _⟩ := id hI
  exact ⟨z, at_ge h0 hv, hI⟩
theorem iteNb {c : Bool} {A B : Prop} (h : c = true) (k : B) : if (!c) = true then A else B := by rw [h]; exact iteF k
theorem cut1 (xs : List V) : cutV xs (some 1) none = xs.drop 1 := by
  unfold cutV
  have e : HT.sIx xs.length 0 (some 1) = min 1 xs.length := by
    show (if (1 : Int) < 0 then ((1 : Int) + (xs.length : Int)).toNat else min (1 : Int).toNat xs.length) = _
    exact if_neg (by decide)
  rw [e, HT.sIx_none, List.take_of_length_le (by rw [List.length_drop]; exact Nat.le_refl _)]
  cases xs with
  | nil => rfl
  | cons x l => rw [Nat.min_eq_left (by simp)]
theorem All2.drop {α β : Type} {R : α → β → Prop} {as : List α} {bs : List β} (h : All2 R as bs) (n : Nat) : All2 R (as.drop n) (bs.drop n) := by
  induction h generalizing n with
  | nil => simp; exact .nil
  | cons r t ih =>
    cases n with
    | zero => exact .cons r t
    | succ n => simpa using ih n
def gcdI (a b : Int) : Int := ((Nat.gcd a.natAbs b.natAbs : Nat) : Int)
def sumT (evs : List (List Int)) (run : List Int) : Int := (run.map fun k => evT (evs.getD k.toNat [])).sum
def sumP (evs : List (List Int)) (run : List Int) : Int := (run.map fun k => evP (evs.getD k.toNat [])).sum
def InEv (evs : List (List Int)) (run : List Int) : Prop := ∀ k ∈ run, 0 ≤ k ∧ k < (evs.length : Int)
structure RunIs (K : PySem.W.Frag) (H : Hp) (v : V) (evs : List (List Int)) (run : List Int) : Prop where
  at_ : IT K H v run
  wk : (walkTo evs 0 run).isSome = true
  inn : InEv evs run
  len : run.length ≤ 1000
theorem RunIs.keep {K : PySem.W.Frag} {H H' : Hp} {v : V} {evs : List (List Int)} {run : List Int} (h : RunIs K H v evs run) (e : Keep H H') : RunIs K H' v evs run := ⟨h.at_.keep e, h.wk, h.inn, h.len⟩
structure ShIs (K : PySem.W.Frag) (H : Hp) (v : V) (a b : Int) : Prop where
  at_ : IT K H v [a, b]
  pos : 1 ≤ b
  low : gcdI a b = 1
theorem ShIs.keep {K : PySem.W.Frag} {H H' : Hp} {v : V} {a b : Int} (h : ShIs K H v a b) (e : Keep H H') : ShIs K H' v a b := ⟨h.at_.keep e, h.pos, h.low⟩
theorem RunIs.flip {K : PySem.W.Frag} {H H' : Hp} {v : V} {evs : List (List Int)} {run : List Int} (h : RunIs K H v evs run) (e : Keep H H') : RunIs K H' v evs run := h.keep e
theorem ShIs.flip {K : PySem.W.Frag} {H H' : Hp} {v : V} {a b : Int} (h : ShIs K H v a b) (e : Keep H H') : ShIs K H' v a b := h.keep e
theorem InEv.take {evs : List (List Int)} {run : List Int} (h : InEv evs run) (n : Nat) : InEv evs (run.take n) := fun k hk => h k (List.mem_of_mem_take hk)
theorem inV_ints (x : Int) : ∀ ns : List Int, inV (.int x) (ns.map V.int) = decide (x ∈ ns)
  | [] => by simp [inV]
  | n :: ns => by
    have ih := inV_ints x ns
    unfold inV at ih ⊢
    rw [List.map_cons, List.any_cons, ih]
    show ((n == x) || decide (x ∈ ns)) = decide (x ∈ n :: ns)
    by_cases c : x = n
    · subst c; simp
    · have c' : ¬ n = x := fun z => c z.symm
      simp [c, c']
theorem flat_ints : ∀ ns : List Int, (ns.map V.int).all flatV = true
  | [] => rfl
  | n :: ns => by rw [List.map_cons, List.all_cons, flat_ints ns]; rfl
theorem Free.flip {H H' : Hp} {p : Addr} (h : H' p = none) (s : Same H H') : H p = none := Same.free s h
theorem Pt.At.flip {p : Pt} {H H' : Hp} (h : p.At H) (e : Same H H') : p.At H' := h.same e
theorem iteCB {c : Bool} {A B : Prop} (h1 : c = true → A) (h2 : c = false → B) : if c = true then A else B := by
  cases h : c
  · exact iteF (h2 h)
  · exact iteT (h1 h)
theorem slTo {K : PySem.W.Frag} {q : Addr} {run : List Int} {i : Nat} {z : Int} {H : Hp} {P : Addr → Hp → Prop} (ez : z = (i : Int)) (h : SqT K H q (run.map V.int)) (k : ∀ v H', Same H H' → IT K H' (.ref v) (run.take i) → P v H') :
    ∃ a xs, V.ref q = .ref a ∧ SqT K H a xs ∧ (HT.sIx xs.length 0 none = 0 ∧ HT.sIx xs.length xs.length (some z) = xs.length → P a H) ∧
      (¬ (HT.sIx xs.length 0 none = 0 ∧ HT.sIx xs.length xs.length (some z) = xs.length) → ∀ p, H p = none → P p (upd H p (.tup (cutV xs none (some z))))) := by
  subst ez
  have cut : cutV (run.map V.int) none (some (i : Int)) = (run.take i).map V.int := by
    unfold cutV
    rw [HT.sIx_none, HT.sIx_nat, List.drop_zero, Nat.sub_zero, List.map_take, List.length_map]
    by_cases c : i ≤ run.length
    · rw [Nat.min_eq_left c]
    · rw [Nat.min_eq_right (by omega), List.take_of_length_le (by rw [List.length_map]; exact Nat.le_refl _), List.take_of_length_le (by rw [List.length_map]; omega)]
  refine ⟨q, _, rfl, h, fun e => ?_, fun _ p hp => ?_⟩
  · rw [HT.sIx_nat, List.length_map] at e
    have le : run.length ≤ i := by omega
    refine k q H (Same.refl H) ⟨q, rfl, ?_⟩
    rw [List.take_of_length_le le]
    exact h
  · rw [cut]
    exact k p _ (Same.new hp) (IT.new rfl)
theorem slQ {K : PySem.W.Frag} {q : Addr} {run : List Int} {i : Nat} {z : Int} {H : Hp} {Q : VK} (ez : z = (i : Int)) (h : SqT K H q (run.map V.int)) (k : ∀ v H', Same H H' → IT K H' (.ref v) (run.take i) → Q (.ref v) H') :
    rSlA K (.ref q) none (some z) H Q := slTo (P := fun v H' => Q (.ref v) H') ez h k
theorem slTake {K : PySem.W.Frag} {q : Addr} {run : List Int} {z : Int} {H : Hp} {Q : VK} (h : IT K H (.ref q) run) (h0 : 0 ≤ z) (k : ∀ v H', Same H H' → IT K H' (.ref v) (run.take z.toNat) → Q (.ref v) H') : rSlA K (.ref q) none (some z) H Q :=
  slQ (i := z.toNat) (by omega) (IT.sq h) k
theorem RunIs.take {K : PySem.W.Frag} {H H' : Hp} {v w : V} {evs : List (List Int)} {run : List Int} (h : RunIs K H v evs run) (n : Nat) (g : IT K H' w (run.take n)) : RunIs K H' w evs (run.take n) := by
  refine ⟨g, ?_, h.inn.take n, by rw [List.length_take]; have := h.len; omega⟩
  have z : walkTo evs 0 run = walkTo evs 0 (run.take n ++ run.drop n) := by rw [List.take_append_drop]
  have w := h.wk
  rw [z, walkTo_app] at w
  cases e : walkTo evs 0 (run.take n) with
  | none => rw [e] at w; cases w
  | some t => rfl
theorem iteTC {c : Bool} {v1 v2 : V} {σ : L2.St} {H : Hp} {Q : VK} (k : ∀ v, (v = v1 ∨ v = v2) → Q v H) : if c = true then tC v1 σ H Q else tC v2 σ H Q := by
  cases c
  · exact iteF (k _ (.inr rfl))
  · exact iteT (k _ (.inl rfl))
/-- what steps don't open -/
structure Wr (P : Prop) : Prop where
  out : P
theorem catJ {K : PySem.W.Frag} {a b : Addr} {xs ys : List V} {H : Hp} {Q : VK} (ha : SqT K H a xs) (hb : SqT K H b ys) (hl : xs.length + ys.length ≤ sizeLine) (k : ∀ (c : Addr) (H' : Hp), Same H H' → SqT K H' c (xs ++ ys) → Q (.ref c) H') : rCatA K (.ref a) (.ref b) H Q :=
  ⟨a, b, xs, ys, rfl, rfl, ha, hb, hl, fun e => k b H (Same.refl H) (by rw [e]; exact hb), fun _ e => k a H (Same.refl H) (by rw [e, List.append_nil]; exact ha), fun _ _ p hp => k p _ (Same.new hp) (SqT.lt upd_same)⟩
theorem LTs.same {K : PySem.W.Frag} {H H' : Hp} {D : Addr} {nss : List (List Int)} (h : LTs K H D nss) (s : Same H H') : LTs K H' D nss := h.flip s
theorem LTs.dp0 {K : PySem.W.Frag} {H : Hp} {D : Addr} {nss : List (List Int)} (h : LTs K H D nss) : ∃ xs, H D = some (.lst xs) ∧ All2 (IT K H) xs nss := h
end My

namespace Myk05
open PySem L2 My EnT
def top (i : Nat) : Stmt := PySem.Challenge.pw_neverleapt_k05_whole_standings_reached_a.main.body.getD i (.Pass ⟨0, 0, 0, 0⟩)
abbrev s_is_whole : Stmt := top 1
abbrev s_steps : Stmt := top 4
abbrev s_spread : Stmt := top 5
abbrev s_law_pot : Stmt := top 20
abbrev s_law_draw : Stmt := top 21
abbrev s_law_from : Stmt := top 23
abbrev s_is_between : Stmt := top 2
abbrev s_reached : Stmt := top 6
abbrev s_law_parts : Stmt := top 22
abbrev s_knots : Stmt := top 7
abbrev s_are_counts : Stmt := top 18
abbrev s_is_event : Stmt := top 17
abbrev s_Machine___init__ : Stmt := inClass (top 16) 0
abbrev s_law : Stmt := top 24
structure Ad where
  f_is_whole : Addr
  d_is_whole : FuncData
  f_steps : Addr
  d_steps : FuncData
  f_spread : Addr
  d_spread : FuncData
  f_law_pot : Addr
  d_law_pot : FuncData
  f_law_draw : Addr
  d_law_draw : FuncData
  f_law_from : Addr
  d_law_from : FuncData
  f_is_between : Addr
  d_is_between : FuncData
  f_reached : Addr
  d_reached : FuncData
  f_law_parts : Addr
  d_law_parts : FuncData
  f_knots : Addr
  d_knots : FuncData
  f_are_counts : Addr
  d_are_counts : FuncData
  f_is_event : Addr
  d_is_event : FuncData
  f_Machine___init__ : Addr
  d_Machine___init__ : FuncData
  f_law : Addr
  d_law : FuncData
  C_Machine : Addr
  t_MOST_EVENTS : Tok
  t_MOST_POINTS : Tok
  t_MOST_STANDINGS : Tok
  t_MOST_TRIES : Tok
structure Txt (K : PySem.W.Frag) (mg : Str → Option Value) (A : Ad) : Prop where
  F_is_whole : Fun K "is_whole" "is_whole" s_is_whole A.f_is_whole A.d_is_whole
  B_is_whole : Binds K A.d_is_whole ["thing"] []
  m_is_whole : mg "is_whole" = some (.ref A.f_is_whole)
  F_steps : Fun K "_steps" "_steps" s_steps A.f_steps A.d_steps
  B_steps : Binds K A.d_steps ["machine", "side", "far_side"] []
  m_steps : mg "_steps" = some (.ref A.f_steps)
  F_spread : Fun K "_spread" "_spread" s_spread A.f_spread A.d_spread
  B_spread : Binds K A.d_spread ["steps", "start"] []
  m_spread : mg "_spread" = some (.ref A.f_spread)
  F_law_pot : Fun K "_law_pot" "_law_pot" s_law_pot A.f_law_pot A.d_law_pot
  B_law_pot : Binds K A.d_law_pot ["script"] []
  m_law_pot : mg "_law_pot" = some (.ref A.f_law_pot)
  F_law_draw : Fun K "_law_draw" "_law_draw" s_law_draw A.f_law_draw A.d_law_draw
  B_law_draw : Binds K A.d_law_draw ["pot", "many"] []
  m_law_draw : mg "_law_draw" = some (.ref A.f_law_draw)
  F_law_from : Fun K "_law_from" "_law_from" s_law_from A.f_law_from A.d_law_from
  B_law_from : Binds K A.d_law_from ["parts", "start"] []
  m_law_from : mg "_law_from" = some (.ref A.f_law_from)
  F_is_between : Fun K "is_between" "is_between" s_is_between A.f_is_between A.d_is_between
  B_is_between : Binds K A.d_is_between ["thing", "low", "high"] []
  m_is_between : mg "is_between" = some (.ref A.f_is_between)
  F_reached : Fun K "reached" "reached" s_reached A.f_reached A.d_reached
  B_reached : Binds K A.d_reached ["machine"] []
  m_reached : mg "reached" = some (.ref A.f_reached)
  F_law_parts : Fun K "_law_parts" "_law_parts" s_law_parts A.f_law_parts A.d_law_parts
  B_law_parts : Binds K A.d_law_parts ["pot", "most_standings", "most_events"] []
  m_law_parts : mg "_law_parts" = some (.ref A.f_law_parts)
  F_knots : Fun K "knots" "knots" s_knots A.f_knots A.d_knots
  B_knots : Binds K A.d_knots ["machine"] []
  m_knots : mg "knots" = some (.ref A.f_knots)
  F_are_counts : Fun K "are_counts" "are_counts" s_are_counts A.f_are_counts A.d_are_counts
  B_are_counts : Binds K A.d_are_counts ["tries", "points"] []
  m_are_counts : mg "are_counts" = some (.ref A.f_are_counts)
  F_is_event : Fun K "_is_event" "_is_event" s_is_event A.f_is_event A.d_is_event
  B_is_event : Binds K A.d_is_event ["thing", "standings"] []
  m_is_event : mg "_is_event" = some (.ref A.f_is_event)
  F_Machine___init__ : Fun K "__init__" "Machine.__init__" s_Machine___init__ A.f_Machine___init__ A.d_Machine___init__
  B_Machine___init__ : Binds K A.d_Machine___init__ ["self", "standings", "events"] []
  F_law : Fun K "law" "law" s_law A.f_law A.d_law
  B_law : Binds K A.d_law ["script"] []
  m_law : mg "law" = some (.ref A.f_law)
  m_Machine : mg "Machine" = some (.ref A.C_Machine)
  cl_Machine : Cls K A.C_Machine
  mk_Machine : Mk K A.C_Machine A.f_Machine___init__
  n_events : NoAttr K A.C_Machine "events"
  n_standings : NoAttr K A.C_Machine "standings"
  z_abs : mg "abs" = none
  z_bool : mg "bool" = none
  z_enumerate : mg "enumerate" = none
  z_int : mg "int" = none
  z_isinstance : mg "isinstance" = none
  z_len : mg "len" = none
  z_list : mg "list" = none
  z_range : mg "range" = none
  z_set : mg "set" = none
  z_sorted : mg "sorted" = none
  z_sum : mg "sum" = none
  z_tuple : mg "tuple" = none
  c_MOST_EVENTS : mg "MOST_EVENTS" = some (.int 30 A.t_MOST_EVENTS)
  c_MOST_POINTS : mg "MOST_POINTS" = some (.int 400 A.t_MOST_POINTS)
  c_MOST_STANDINGS : mg "MOST_STANDINGS" = some (.int 12 A.t_MOST_STANDINGS)
  c_MOST_TRIES : mg "MOST_TRIES" = some (.int 40 A.t_MOST_TRIES)
def spLaw (K : PySem.W.Frag) : Sp := fun vs H Q _ => ∃ (a : Addr) (ns : List Int), vs = [.ref a] ∧ SqL K H a (ns.map V.int) ∧ ns.length ≤ 63 ∧ ∀ H', Q (.bl true) H'
section
variable {P : Program} {w : World} {K : PySem.W.Frag} {mg : Str → Option Value} {base : Heap} {A : Ad}
end
end Myk05

/-! sorted of a list of tuples of ints, of any lengths (of mine) -/
namespace SrtT
open PySem PySem.Spec PyProof.Rows
/-- the order of rows of ints -/
def lexI : List Int → List Int → Bool
  | _, [] => false
  | [], _ :: _ => true
  | x :: xs, y :: ys => if x = y then lexI xs ys else decide (x < y)
theorem lexI_asym : ∀ xs ys : List Int, lexI xs ys = true → lexI ys xs = false
  | [], [], h => rfl
  | [], _ :: _, _ => rfl
  | _ :: _, [], h => by cases h
  | x :: xs, y :: ys, h => by
    have h' : (if x = y then lexI xs ys else decide (x < y)) = true := h
    show (if y = x then lexI ys xs else decide (y < x)) = false
    by_cases c : x = y
    · rw [if_pos c] at h'
      rw [if_pos c.symm]
      exact lexI_asym xs ys h'
    · rw [if_neg c] at h'
      rw [if_neg fun z => c z.symm]
      have := of_decide_eq_true h'
      exact decide_eq_false (by omega)
theorem lexI_neg : ∀ xs ys zs : List Int, lexI xs ys = false → lexI ys zs = false → lexI xs zs = false
  | xs, _, [], _, _ => by cases xs <;> rfl
  | [], [], _ :: _, _, h => by cases h
  | [], _ :: _, _ :: _, h, _ => by cases h
  | _ :: _, [], _ :: _, _, h => by cases h
  | x :: xs, y :: ys, z :: zs, h, g => by
    have h' : (if x = y then lexI xs ys else decide (x < y)) = false := h
    have g' : (if y = z then lexI ys zs else decide (y < z)) = false := g
    show (if x = z then lexI xs zs else decide (x < z)) = false
    by_cases c : x = y
    · rw [if_pos c] at h'
      by_cases d : y = z
      · rw [if_pos d] at g'
        rw [if_pos (c.trans d)]
        exact lexI_neg xs ys zs h' g'
      · rw [if_neg d] at g'
        have := of_decide_eq_false g'
        rw [if_neg (by omega)]
        exact decide_eq_false (by omega)
    · rw [if_neg c] at h'
      have h1 := of_decide_eq_false h'
      by_cases d : y = z
      · rw [if_neg (by omega)]
        exact decide_eq_false (by omega)
      · rw [if_neg d] at g'
        have h2 := of_decide_eq_false g'
        rw [if_neg (by omega)]
        exact decide_eq_false (by omega)
theorem swo {α : Type} (k : α → List Int) : SrtO.Swo fun v u => lexI (k v) (k u) := ⟨fun _ _ h => lexI_asym _ _ h, fun _ _ _ h g => lexI_neg _ _ _ g h⟩
/-- a tuple of these ints -/
def IsT (h : Heap) (v : Value) (ns : List Int) : Prop := ∃ (a : Addr) (o : Obj) (its : List Value) (n : Nat), v = .ref a ∧ h.get? a = some o ∧ o.cls = .type "tuple" ∧ o.data = .seq its.toArray n ∧ L2.Vals (ns.map L2.V.int) its
theorem IsT.kept {h h' : Heap} {v : Value} {ns : List Int} (t : IsT h v ns) (k : ∀ b o, h.get? b = some o → o.cls = .type "tuple" → h'.get? b = some o) : IsT h' v ns := by
  obtain ⟨a, o, its, n, h1, h2, h3, h4⟩ := t
  exact ⟨a, o, its, n, h1, k a o h2 h3, h3, h4⟩
section
variable {prog : Program} {w : World} {A : Around} {s : Shared}
theorem lex_run {fin : Bool} {Q : Bool → Shared → Prop} : ∀ (ns ms : List Int) (us vs : List Value) (i : Nat), L2.Vals (ns.map L2.V.int) us → L2.Vals (ms.map L2.V.int) vs → fin = decide (ns.length < ms.length) → Q (lexI ns ms) s →
    PySem.W.KatLex prog w A true fin Q (us.zip vs) i s
  | [], [], us, vs, i, hu, hv, hf, q => by
    cases hu
    cases hv
    exact PySem.W.kat_nil (by rw [hf]; exact q)
  | [], m :: ms, us, vs, i, hu, hv, hf, q => by
    cases hu
    refine PySem.W.kat_nil ?_
    rw [hf]
    exact q
  | n :: ns, [], us, vs, i, hu, hv, hf, q => by
    cases hv
    rw [List.zip_nil_right]
    refine PySem.W.kat_nil ?_
    rw [hf]
    exact q
  | n :: ns, m :: ms, us, vs, i, hu, hv, hf, q => by
    cases hu with
    | cons ru tu =>
      cases hv with
      | cons rv tv =>
        obtain ⟨t, rfl⟩ := ru
        obtain ⟨t', rfl⟩ := rv
        have q' : Q (if n = m then lexI ns ms else decide (n < m)) s := q
        refine PySem.W.kat_cons (SeqAt.EqAt.int_int n t m t' prog w _ _ (PySem.W.kat_go (fun e => ?_) (fun e => ?_)))
        · have e' : n = m := by simpa using e
          rw [if_pos e'] at q'
          exact PySem.W.kat_yes (lex_run ns ms _ _ (i + 1) tu tv (by rw [hf]; simp) q')
        · have e' : ¬ n = m := by simpa using e
          rw [if_neg e'] at q'
          refine PySem.W.kat_no ?_
          cases i with
          | zero => exact oneLt_int q'
          | succ i =>
            have z : (true && (i + 1 == 0)) = false := by simp
            rw [z]
            exact PySem.W.kat_one _ _ (PyProof.Rows.lt_int q')
theorem cmp_T {vs : List Value} {k : Value → List Int} (ht : ∀ v ∈ vs, IsT s.heap v (k v)) : SrtO.Cmp prog w A s (tuples' true) (fun p => p.1 ∈ vs) (SrtO.lt2 fun v u => lexI (k v) (k u)) := by
  intro p q hp hq
  obtain ⟨a, o, us, n, ea, ho, _, hd, ru⟩ := ht p.1 hp
  obtain ⟨b, o', ws, n', eb, ho', _, hd', rw'⟩ := ht q.1 hq
  have l1 : us.length = (k p.1).length := by rw [← ru.length, List.length_map]
  have l2 : ws.length = (k q.1).length := by rw [← rw'.length, List.length_map]
  have run : wpAny (model prog w) A (keyLt' (tuples' true) (.ref a) (.ref b)) (fun r s' => s' = s ∧ r = lexI (k p.1) (k q.1)) (fun _ _ => False) s :=
    PySem.W.kat_lt ho hd ho' hd' (lex_run (k p.1) (k q.1) us ws 0 ru rw' (by rw [List.size_toArray, List.size_toArray, l1, l2]) ⟨rfl, rfl⟩)
  rw [← ea, ← eb] at run
  exact run
theorem firstsT {h : Heap} {k : Value → List Int} : ∀ vs : List Value, (∀ v ∈ vs, IsT h v (k v) ∧ k v ≠ []) → ∃ fs : List Value, PySem.W.KatTups h vs fs ∧ fs.length = vs.length ∧ ∀ f ∈ fs, ∃ x t, f = Value.int x t
  | [], _ => ⟨[], PySem.W.KatTups.nil, rfl, fun _ h => by cases h⟩
  | v :: vs, ht => by
    obtain ⟨fs, g1, g2, g3⟩ := firstsT vs fun u hu => ht u (by simp [hu])
    obtain ⟨⟨a, o, its, n, e, ho, hc, hd, r⟩, ne⟩ := ht v (by simp)
    cases hk : k v with
    | nil => exact absurd hk ne
    | cons x xs =>
      rw [hk] at r
      cases r with
      | cons r1 r2 =>
        obtain ⟨t, rfl⟩ := r1
        subst e
        refine ⟨.int x t :: fs, PySem.W.KatTups.cons ho hc hd (by simp) g1, by simp [g2], fun f hf => ?_⟩
        rcases List.mem_cons.mp hf with e | hf
        · exact ⟨x, t, e⟩
        · exact g3 f hf
theorem sortable {a : Addr} {vs : List Value} {k : Value → List Int} (h0 : 0 < vs.length) (ht : ∀ v ∈ vs, IsT s.heap v (k v) ∧ k v ≠ []) (ha : ∀ o, s.heap.get? a = some o → o.cls ≠ .type "tuple") : SrtO.SortableO prog w A s a vs fun v u => lexI (k v) (k u) := by
  intro h' kp
  have ht' : ∀ v ∈ vs, IsT h' v (k v) ∧ k v ≠ [] := fun v hv => ⟨(ht v hv).1.kept fun b o e c => kp b o (fun z => ha o (z ▸ e) c) e, (ht v hv).2⟩
  obtain ⟨fs, g1, g2, g3⟩ := firstsT vs ht'
  refine ⟨tuples' true, fun Q E hq => PySem.W.kat_kind (T := .type "int") g1 (by omega) (fun f hf => ?_) (by rfl) ?_, cmp_T fun v hv => (ht' v hv).1⟩
  · obtain ⟨x, t, rfl⟩ := g3 f hf
    exact PySem.W.Looks.now
  · have ne : (Value.type "int" != Value.type "tuple") = true := by decide +kernel
    rw [ne]
    exact hq
end
end SrtT
namespace L2
open PySem PySem.Spec PyProof.Rows
/-- sorted of a list of tuples of ints, none of them empty: its order, and equal ones keep their turns -/
def rSortedL (K : PySem.W.Frag) : List V → Hp → VK → Prop := fun vs H Q => ∃ (a : Addr) (xs : List V) (k : V → List Int), vs = [V.ref a] ∧ SqL K H a xs ∧ (∀ x ∈ xs, ∃ t, x = V.ref t ∧ SqT K H t ((k x).map V.int) ∧ k x ≠ []) ∧
  ∀ (ys : List V) (p : Addr), SrtO.Srtd (fun x y => SrtT.lexI (k x) (k y)) ys → SrtO.Stb (fun x y => SrtT.lexI (k x) (k y)) ys xs → H p = none → Q (.ref p) (upd H p (.lst ys))
theorem cr_sortedL {X : Cx} : CallR X (.builtin "sorted") (rSortedL X.K) := by
  intro pins s σ H vs us Q I r h
  obtain ⟨a, xs, k, rfl, hs, hx, q⟩ := h
  obtain ⟨its, rv, hl, hz⟩ := I.list hs
  obtain ⟨ua, rfl, ra⟩ := vals1 r
  cases (show ua = Value.ref a from ra)
  obtain ⟨eb, er⟩ := refs_back rv fun x m => (hx x m).imp fun _ z => z.1
  refine SrtO.sorted_ord (SrtT.swo fun u => k (backV u)) hl.isList (by rw [← rv.length]; exact hz) (fun two g b hb old => ?_) fun out o1 o2 => ?_
  · refine SrtT.sortable (s := { s with heap := g }) (by omega) (fun v hv => ?_) fun o e c => ?_
    · obtain ⟨t, rfl⟩ := er v hv
      obtain ⟨t', et, hT, ne⟩ := hx (.ref t) (by rw [eb]; exact List.mem_map.mpr ⟨_, hv, rfl⟩)
      cases et
      obtain ⟨us, ru, ⟨o, ho, hc, n, hd⟩, _⟩ := I.tuple hT
      exact ⟨⟨t, o, us, n, rfl, (old _ _ ho).2, hc, hd, ru⟩, ne⟩
    · have z : some o = some _ := e.symm.trans hb
      cases z
      exact absurd (Value.type.inj c) (by decide)
  · have h3 : ∀ u ∈ out, ∃ a, u = Value.ref a := fun u hu => er u (o2.perm.mem_iff.mp hu)
    have st : SrtO.Stb (fun x y => SrtT.lexI (k x) (k y)) (out.map backV) xs := by
      rw [eb]
      exact SrtO.Stb.map (lt := fun x y => SrtT.lexI (k x) (k y)) (SrtT.swo k) backV o2
    obtain ⟨n, hn⟩ := PyProof.Rows.sortedAll_at s.heap its out.toArray
    exact ⟨.ref _, _, I.laid (t' := s.toks) (o := .lst (out.map backV)) (fun _ _ e => PyProof.Rows.sortedAll_old e) (Nat.le_succ _) ⟨by rw [st.len]; exact hz, out, n, vals_back h3, hn⟩, rfl, q _ _ (SrtO.srtd_map o1) st (I.hok.fresh (Nat.le_succ _))⟩
end L2

namespace Myk05
open PySem L2 My EnT
-- Same from behind
local macro_rules | `(tactic| nest_cls) => `(tactic| first
  | exact Same.refl _
  | assumption
  | (refine Same.back (Same.new (by assumption)) ?_; nest_cls)
  | (refine Same.back (by assumption) ?_; nest_cls)
  | (refine Same.chg ?_ (by first | assumption | exact Free.flip (by assumption) (by nest_cls)); nest_cls))
-- Keep from behind
local macro_rules | `(tactic| mem_news) => `(tactic| first
  | exact Keep.refl _
  | assumption
  | (refine Keep.back (Keep.new (by assumption)) ?_; mem_news)
  | (refine Keep.back (Keep.lst (by assumption)) ?_; mem_news)
  | (refine Keep.back (Keep.lst (by kd_adr)) ?_; mem_news)
  | (refine Keep.back (Keep.of (by assumption)) ?_; mem_news)
  | (refine Keep.back (Keep.ofBut (by assumption) (by kba_ints)) ?_; mem_news)
  | (refine Keep.back (by assumption) ?_; mem_news))
-- the pot
local macro_rules | `(tactic| kba_ints) => `(tactic| first
  | assumption
  | (refine Pt.At.back (Same.new (by assumption)) ?_; kba_ints)
  | (refine Pt.At.back (by assumption) ?_; kba_ints)
  | exact Pt.At.flip (by assumption) (by nest_cls))
-- a fact of a heap, from behind
local macro_rules | `(tactic| kd_adr) => `(tactic| first
  | ((with_reducible show IT _ _ _ _); first
    | assumption
    | exact IT.new2
    | exact IT.new1
    | exact IT.new3
    | exact IT.new4
    | exact IT.flip (by assumption) (by mem_news)
    | exact IT.flip IT.new2 (by mem_news)
    | exact IT.flip IT.new3 (by mem_news)
    | exact IT.flip IT.new1 (by mem_news)
    | exact IT.flip IT.new4 (by mem_news))
  | ((with_reducible show ITs _ _ _ _); first
    | assumption
    | exact ITs.flip (by assumption) (by mem_news))
  | ((with_reducible show SqT _ _ _ _); first
    | assumption
    | exact SqT.lt upd_same
    | exact SqT.lt (by assumption)
    | exact IT.sq (by assumption)
    | exact SqT.flip (by assumption) (by mem_news)
    | exact SqT.flip (SqT.lt (by assumption)) (by mem_news)
    | exact SqT.flip (IT.sq (by assumption)) (by mem_news)
    | exact SqT.flip (SqT.lt upd_same) (by mem_news))
  | ((with_reducible show SqL _ _ _ _); first
    | assumption
    | exact SqL.lt upd_same
    | exact SqL.lt (by assumption)
    | exact SqL.flip (by assumption) (by nest_cls)
    | exact SqL.flip (SqL.lt (by assumption)) (by nest_cls)
    | exact SqL.flip (SqL.lt upd_same) (by nest_cls))
  | ((with_reducible show Parts _ _ _ _ _); first | assumption | exact Parts.flip (by assumption) (by mem_news))
  | ((with_reducible show MachAt _ _ _ _ _ _); first | assumption | exact MachAt.flip (by assumption) (by mem_news))
  | ((with_reducible show ShIs _ _ _ _ _); first | assumption | exact ShIs.flip (by assumption) (by mem_news))
  | ((with_reducible show RunIs _ _ _ _ _); first | assumption | exact RunIs.flip (by assumption) (by mem_news))
  | ((with_reducible show LTs _ _ _ _); first | assumption | exact LTs.flip (by assumption) (by nest_cls))
  | ((with_reducible show Pt.At _ _); kba_ints)
  | ((with_reducible show Same _ _); nest_cls)
  | ((with_reducible show Keep _ _); mem_news)
  | ((with_reducible show (_ : Hp) _ = some _); first
    | assumption
    | exact upd_same
    | exact At.flip (by assumption) (by nest_cls)
    | exact At.flip upd_same (by nest_cls)))
-- a side condition
local macro_rules | `(tactic| leaf_len) => `(tactic| first
  | (with_reducible rfl)
  | (with_reducible assumption)
  | kd_adr
  | omega
  | ((with_reducible show (_ : Nat) ≤ sizeLine); first | (show 1 ≤ sizeLine; decide) | (show 2 ≤ sizeLine; decide) | (show 3 ≤ sizeLine; decide) | (show 4 ≤ sizeLine; decide) | (show 5 ≤ sizeLine; decide) | (show 6 ≤ sizeLine; decide) | (show 7 ≤ sizeLine; decide) | (show 8 ≤ sizeLine; decide) | (show 0 ≤ sizeLine; decide))
  | exact rfl
  | ((with_reducible show _ ∨ _); first | exact Or.inl (by leaf_len) | exact Or.inr (by leaf_len))
  | exact List.cons_ne_nil _ _
  | exact mf_ev _ _
  | exact mf_st _ _
  | exact flat_ints _
  | ((with_reducible show tyV _ _ _ _); exact Or.inl ⟨rfl, _, by kd_adr⟩)
  | ((with_reducible show ClsV _ _); exact ClsV.ty _)
  | ((with_reducible show CDivW _ _); exact CDivW.of (by omega) (by omega))
  | (apply Exists.intro (α := List V); kd_adr)
  | assumption
  | ((with_reducible show small _); unfold small; omega)
  | ((with_reducible show CPow _ _); exact ⟨by decide, by decide, by decide⟩)
  | ((with_reducible show CMul _ _); first | exact CMul.l (by omega) (by omega) | exact CMul.r (by omega) (by omega))
  | ((with_reducible show CMulW _ _); exact CMulW.of (by omega) (by omega))
  | ((with_reducible show TyX _ _ _ _); first | exact TyX.base (.int _) | exact TyX.base (.str _) | exact TyX.base (.bl _) | exact tyT (by kd_adr) | exact TyX.base (.lst (by kd_adr)))
  | ((with_reducible show PySem.W.kitOne _ _ _ = some _); first | exact kit_ty (r := true) (by decide +kernel) | exact kit_ty (r := false) (by decide +kernel))
  | decide)
-- a step
local macro_rules | `(tactic| l_ints) => `(tactic| first
  | (intro (p : Addr) (hp : (_ : Hp) p = none))
  | (intro (H' : Hp) (s : Same _ H'))
  | (intro (p : Addr) (H' : Hp) (s : Same _ H'))
  | (intro (h : IT _ _ _ _))
  | (intro (h : SqT _ _ _ _))
  | (intro (h : (_ : Hp) _ = none))
  | (intro (h : (_ : Hp) _ = some _))
  | ((with_reducible show rCatA _ _ _ _ _); refine catJ (by kd_adr) (by kd_adr) (by leaf_len) ?_)
  | ((with_reducible show rSlA _ _ none (some _) _ _); refine slTake (by kd_adr) (by omega) ?_)
  | with_reducible refine tC_i ?_
  | with_reducible refine tNil_i ?_
  | with_reducible refine tCons_i ?_
  | with_reducible refine tCall_i ?_
  | with_reducible refine tOp_i ?_
  | ((with_reducible refine tVar_i ?_ ?_); · exact rfl)
  | with_reducible refine iteT ?_
  | with_reducible refine iteF ?_
  | (with_reducible refine iteNEq ?_ ?_; · assumption)
  | (with_reducible refine iteNb ?_ ?_; · assumption)
  | (with_reducible refine iteTb ?_ ?_; · assumption)
  | (with_reducible refine iteFb ?_ ?_; · assumption)
  | ((with_reducible refine iteFb ?_ ?_); · exact rfl)
  | ((with_reducible refine iteTb ?_ ?_); · exact rfl)
  | with_reducible refine iteST rfl ?_
  | with_reducible refine iteSF (by decide +kernel) ?_
  | (refine And.intro ?_ ?_; · leaf_len)
  | apply Exists.intro (α := V)
  | apply Exists.intro (α := Int)
  | apply Exists.intro (α := Addr)
  | apply Exists.intro (α := List V)
  | apply Exists.intro (α := Str)
  | apply Exists.intro (α := Nat)
  | apply Exists.intro (α := Bool)
  | apply Exists.intro (α := Value)
  | apply Exists.intro (α := List Int)
  | apply Exists.intro (α := List (List Int))
  | apply Exists.intro (α := List Bool)
  | apply Exists.intro (α := List (Str × V))
  | apply Exists.intro (α := Option (List (Option Int)))
  | apply Exists.intro (α := Option Int)
  | apply Exists.intro (α := Pt)
  | refine Or.inr ⟨_, rfl, ?_⟩
  | apply Or.inl)

section
variable {P : Program} {w : World} {K : PySem.W.Frag} {mg : Str → Option Value} {base : Heap} {A : Ad}
/-- is_whole of an int -/
def spWholeI : Sp := fun vs H Q _ => ∃ n : Int, vs = [.int n] ∧ Q (.bl true) H
def spBetweenI : Sp := fun vs H Q _ => ∃ n l h : Int, vs = [.int n, .int l, .int h] ∧ Q (.bl (decide (l ≤ n ∧ n ≤ h))) H

theorem sc_is_whole : FnScope ["thing"] ["thing"] (defScope s_is_whole) := ⟨rfl, rfl, rfl, by decide +kernel, rfl, by decide +kernel, by decide +kernel⟩
theorem ok_is_whole (T : Txt K mg A) : FnOk P w K mg base CX0 1 A.f_is_whole A.d_is_whole ["thing"] (spWholeI) := by
  refine T.F_is_whole.ok sc_is_whole (fun vs H Q E h => ?_) (fun cdv A1 outer s H vs Q E hr h => ?_)
  · obtain ⟨n, rfl, _⟩ := h
    rfl
  · obtain ⟨n, rfl, q⟩ := h
    refine ⟨_, (pss_one (ps_ret (pe_and (pe_callB (call_isK K rfl) (by rfl) T.z_isinstance (by decide +kernel) (pa_cons (pv 0) (pa_cons (pe_bltn (v := .ty "int") (u := .type "int") rfl T.z_int (by decide +kernel) rfl) pa_nil))) (pe_one (pe_not (pe_callB (call_isK K rfl) (by rfl) T.z_isinstance (by decide +kernel) (pa_cons (pv 0) (pa_cons (pe_bltn (v := .ty "bool") (u := .type "bool") rfl T.z_bool (by decide +kernel) rfl) pa_nil)))))))), ?_⟩
    refine ⟨_, rfl, _, _, _, _, _, rfl, .ty _, .base (.int _), kit_ty (by decide +kernel), true, rfl, ?_⟩
    refine iteT ⟨_, rfl, _, _, _, _, _, rfl, .ty _, .base (.int _), kit_ty (r := false) (by decide +kernel), false, rfl, q⟩
theorem sc_is_between : FnScope ["thing", "low", "high"] ["thing", "low", "high"] (defScope s_is_between) := ⟨rfl, rfl, rfl, by decide +kernel, rfl, by decide +kernel, by decide +kernel⟩
theorem ok_is_between (T : Txt K mg A) : FnOk P w K mg base CX0 2 A.f_is_between A.d_is_between ["thing", "low", "high"] (spBetweenI) := by
  refine T.F_is_between.ok sc_is_between (fun vs H Q E h => ?_) (fun cdv A1 outer s H vs Q E hr h => ?_)
  · obtain ⟨n, l, h, rfl, _⟩ := h
    rfl
  · obtain ⟨n, l, hh, rfl, q⟩ := h
    refine ⟨_, (pss_one (ps_ret (pe_and (pe_call (ok_is_whole T) (hr.mono (by decide)) rfl T.m_is_whole T.F_is_whole.kp T.B_is_whole .nil pass0 (pa_cons (pv 0) pa_nil)) (pe_one (pe_chain op_le op_le (pv 1) (pv 0) (pv 2)))))), ?_⟩
    refine ⟨_, rfl, n, rfl, true, rfl, iteT ?_⟩
    refine ⟨_, rfl, _, rfl, _, _, rfl, rfl, _, rfl, ?_⟩
    by_cases h1 : l ≤ n
    · rw [decide_eq_true h1]
      refine iteT ⟨_, rfl, _, _, rfl, rfl, ?_⟩
      have e : decide (l ≤ n ∧ n ≤ hh) = decide (n ≤ hh) := by simp [h1]
      show Q (.bl (decide (n ≤ hh))) H
      rw [← e]
      exact q
    · rw [decide_eq_false h1]
      refine iteF ?_
      have e : decide (l ≤ n ∧ n ≤ hh) = false := by simp [h1]
      show Q (.bl false) H
      rw [← e]
      exact q
theorem cut63 {ns : List Int} (h : ns.length ≤ 63) : cutV (ns.map V.int) none (some 63) = ns.map V.int := by
  unfold cutV
  have e : HT.sIx (ns.map V.int).length (ns.map V.int).length (some 63) = (ns.map V.int).length := by
    show (if (63 : Int) < 0 then ((63 : Int) + ((ns.map V.int).length : Int)).toNat else min (63 : Int).toNat (ns.map V.int).length) = _
    rw [if_neg (by decide), List.length_map]
    omega
  rw [e, HT.sIx_none, List.drop_zero, Nat.sub_zero, List.take_length]

theorem sc_law_pot : FnScope ["script", "item", "cells", "greats", "smalls"] ["script"] (defScope s_law_pot) := ⟨rfl, rfl, rfl, by decide +kernel, rfl, by decide +kernel, by decide +kernel⟩
theorem ok_law_pot (T : Txt K mg A) : FnOk P w K mg base CX0 1 A.f_law_pot A.d_law_pot ["script"] (spPot K) := by
  refine T.F_law_pot.ok sc_law_pot (fun vs H Q E h => ?_) (fun cdv A1 outer s H vs Q E hr h => ?_)
  · obtain ⟨a, ns, rfl, _⟩ := h
    rfl
  · obtain ⟨a, ns, rfl, hS, hlen, k⟩ := h
    have lim : ns.length < sizeLine := Nat.lt_of_le_of_lt hlen (by decide)
    have e18 : CPow 10 18 := by refine ⟨by decide, by decide, by decide⟩
    refine ⟨_, (pss_cons (ps_setLc (i := 2) (own := [("item", 1)]) rfl sc_law_pot.nd rfl rfl (sw_true rfl rfl rfl (by decide +kernel)) (pi_list (pe_slice (sl_listK K rfl) (pv 0) po_none (po_some pe_int))) (blkOk_by (N := ["script", "item", "cells", "greats", "smalls"]) (sc := defScope s_law_pot) (by decide +kernel)) (fun _ _ _ _ _ => by exact (pg_name (i := 1) sc_law_pot.nd rfl (Or.inl rfl))) (fun _ _ _ _ _ => by exact pts_nil) (fun _ _ _ _ _ => by exact (pe_callTy call_int1 (by rfl) T.z_int (by decide +kernel) (pa_cons (pv 1) pa_nil))))
      (pss_cons (ps_setLc (i := 3) (own := [("item", 1)]) rfl sc_law_pot.nd rfl rfl (sw_true rfl rfl rfl (by decide +kernel)) (pi_list (pv 2)) (blkOk_by (N := ["script", "item", "cells", "greats", "smalls"]) (sc := defScope s_law_pot) (by decide +kernel)) (fun _ _ _ _ _ => by exact (pg_name (i := 1) sc_law_pot.nd rfl (Or.inl rfl))) (fun _ _ _ _ _ => by exact (pts_one (pt_cmpR op_ge (pe_callB call_abs (by rfl) T.z_abs (by decide +kernel) (pa_cons (pv 1) pa_nil)) (pe_op op_pow pe_int pe_int) (nomark _)))) (fun _ _ _ _ _ => by exact (pe_callB call_abs (by rfl) T.z_abs (by decide +kernel) (pa_cons (pv 1) pa_nil))))
      (pss_cons (ps_set (i := 4) sc_law_pot.nd rfl (Or.inl rfl) (pe_op op_cat (pe_lc (own := [("item", 1)]) rfl sc_law_pot.nd (pi_list (pv 2)) (blkOk_by (N := ["script", "item", "cells", "greats", "smalls"]) (sc := defScope s_law_pot) (by decide +kernel)) (fun _ _ _ _ _ => by exact (pg_name (i := 1) sc_law_pot.nd rfl (Or.inl rfl))) (fun _ _ _ _ _ => by exact (pts_one (pt_cmpR op_lt (pe_callB call_abs (by rfl) T.z_abs (by decide +kernel) (pa_cons (pv 1) pa_nil)) (pe_op op_pow pe_int pe_int) (nomark _)))) (fun _ _ _ _ _ => by exact (pe_op op_mod (pe_callTy call_int1 (by rfl) T.z_int (by decide +kernel) (pa_cons (pv 1) pa_nil)) pe_int))) (pe_lst (pa_cons (pe_op op_add (pe_callB (call_lenK K rfl) (by rfl) T.z_len (by decide +kernel) (pa_cons (pv 2) pa_nil)) pe_int) pa_nil))))
      (pss_one (ps_ret (pe_lst (pa_cons (pv 3) (pa_cons (pv 4) (pa_cons pe_int (pa_cons (pe_op op_mod (pe_callTy call_int1 (by rfl) T.z_int (by decide +kernel) (pa_cons (pe_callB (cr_sumK K rfl rfl) (by rfl) T.z_sum (by decide +kernel) (pa_cons (pv 4) pa_nil)) pa_nil)) pe_int) pa_nil)))))))))), ?_⟩
    refine ⟨_, rfl, _, rfl, a, _, rfl, hS, fun p hp => ?_⟩
    rw [cut63 hlen]
    refine ⟨p, rfl, ⟨_, SqL.lt upd_same⟩, fun D hD => ?_⟩
    refine lcI (K := K) (ns := ns) (fun _ => true) (fun n => n) (SqL.lt upd_same) hD lim (fun n H2 Q1 Q2 _ h1 _ => ⟨rfl, _, rfl, .inl ⟨n, rfl, h1 rfl⟩⟩) ?_
    have el : List.map (fun n => n) (List.filter (fun _ => true) ns) = ns := by simp
    rw [el]
    have s1 : Same H (upd (upd H p (.lst (ns.map V.int))) D (.lst (ns.map V.int))) := (Same.new hp).trans (Same.new hD)
    have hD1 := upd_same (H := upd H p (.lst (ns.map V.int))) (a := D) (o := .lst (ns.map V.int))
    generalize upd (upd H p (.lst (ns.map V.int))) D (.lst (ns.map V.int)) = H1 at s1 hD1 ⊢
    -- greats
    refine ⟨_, rfl, D, rfl, ⟨_, SqL.lt hD1⟩, fun G hG => ?_⟩
    refine lcI (K := K) (ns := ns) (fun n => decide ((10 : Int) ^ 18 ≤ (if n < 0 then -n else n))) (fun n => if n < 0 then -n else n) (SqL.lt hD1) hG lim (fun n H2 Q1 Q2 _ h1 h2 => ⟨rfl, ?_⟩) ?_
    · refine ⟨_, rfl, n, rfl, _, _, rfl, rfl, e18, _, _, rfl, rfl, _, rfl, ?_⟩
      by_cases c : (10 : Int) ^ 18 ≤ (if n < 0 then -n else n)
      · rw [show (10 : Int) ^ (18 : Int).toNat = 10 ^ 18 from rfl, decide_eq_true c]
        exact iteT ⟨_, rfl, n, rfl, h1 (decide_eq_true c)⟩
      · rw [show (10 : Int) ^ (18 : Int).toNat = 10 ^ 18 from rfl, decide_eq_false c]
        exact iteF (h2 (decide_eq_false c))
    generalize List.map (fun n => if n < 0 then -n else n) (List.filter (fun n => decide ((10 : Int) ^ 18 ≤ (if n < 0 then -n else n))) ns) = gs
    have s2 : Same H (upd H1 G (.lst (gs.map V.int))) := s1.trans (Same.new hG)
    have hD2 : upd H1 G (.lst (gs.map V.int)) D = some (.lst (ns.map V.int)) := Same.new hG _ _ hD1
    have hG2 := upd_same (H := H1) (a := G) (o := .lst (gs.map V.int))
    generalize upd H1 G (.lst (gs.map V.int)) = H2 at s2 hD2 hG2 ⊢
    -- smalls
    refine ⟨_, rfl, D, rfl, ⟨_, SqL.lt hD2⟩, fun S hS2 => ?_⟩
    refine lcI (K := K) (ns := ns) (fun n => decide ((if n < 0 then -n else n) < (10 : Int) ^ 18)) (fun n => n % 1000000007) (SqL.lt hD2) hS2 lim (fun n H3 Q1 Q2 _ h1 h2 => ⟨rfl, ?_⟩) ?_
    · refine ⟨_, rfl, n, rfl, _, _, rfl, rfl, e18, _, _, rfl, rfl, _, rfl, ?_⟩
      by_cases c : (if n < 0 then -n else n) < (10 : Int) ^ 18
      · rw [show (10 : Int) ^ (18 : Int).toNat = 10 ^ 18 from rfl, decide_eq_true c]
        exact iteT ⟨_, rfl, .inl ⟨n, rfl, _, _, rfl, rfl, (by show (0 : Int) < 1000000007; decide), h1 (decide_eq_true c)⟩⟩
      · rw [show (10 : Int) ^ (18 : Int).toNat = 10 ^ 18 from rfl, decide_eq_false c]
        exact iteF (h2 (decide_eq_false c))
    have lss : (List.map (fun n => n % 1000000007) (List.filter (fun n => decide ((if n < 0 then -n else n) < (10 : Int) ^ 18)) ns)).length ≤ 63 := by
      rw [List.length_map]
      exact Nat.le_trans (List.length_filter_le _ _) hlen
    generalize List.map (fun n => n % 1000000007) (List.filter (fun n => decide ((if n < 0 then -n else n) < (10 : Int) ^ 18)) ns) = ss at lss ⊢
    refine ⟨_, rfl, D, _, rfl, .inl (SqL.lt (Same.new hS2 _ _ hD2)), _, _, rfl, rfl, by show 1 ≤ sizeLine; decide, fun L hL => ?_⟩
    dsimp only
    have em : ss.map V.int ++ [V.int ((List.map V.int ns).length + 1)] = (ss ++ [(((List.map V.int ns).length : Nat) : Int) + 1]).map V.int := by simp
    refine ⟨S, L, _, _, rfl, rfl, Same.new hL _ _ upd_same, upd_same, ?_, fun M hM => ?_⟩
    · rw [List.length_map]
      show ss.length + 1 ≤ sizeLine
      exact Nat.le_trans (Nat.succ_le_succ lss) (by decide)
    have s3 := ((Same.new hS2).trans (Same.new hL)).trans (Same.new (o := .lst (ss.map V.int ++ [V.int ((List.map V.int ns).length + 1)])) hM)
    have nGM : G ≠ M := ne_of_none (((Same.new hS2).trans (Same.new hL)) _ _ hG2) hM
    rw [em] at s3 ⊢
    have hM1 := upd_same (H := upd (upd H2 S (.lst (ss.map V.int))) L (.lst [V.int ((List.map V.int ns).length + 1)])) (a := M) (o := .lst ((ss ++ [(((List.map V.int ns).length : Nat) : Int) + 1]).map V.int))
    refine ⟨_, rfl, _, rfl, _, rfl, M, _, rfl, SqL.lt hM1, .inl ⟨_, rfl, _, _, rfl, rfl, (by show (0 : Int) < 999983; decide), (by show 4 ≤ sizeLine; decide), fun R hR => ?_⟩⟩
    have s4 := Same.new (o := .lst [.ref G, .ref M, .int 0, .int ((ss ++ [(((List.map V.int ns).length : Nat) : Int) + 1]).sum % 999983)]) hR
    refine k ⟨R, G, M⟩ _ ⟨nGM, gs, ss ++ [(((List.map V.int ns).length : Nat) : Int) + 1], 0, _, upd_same, s4 _ _ (s3 _ _ hG2), s4 _ _ hM1, by simp⟩ ((s2.trans s3).trans s4) ((s2.trans s3).free hR)
theorem cm_l {i j : Int} (h0 : -(2 ^ 64) < i) (h1 : i < 2 ^ 64) : CMul i j := .inl ⟨h0, h1⟩
theorem cm_r {i j : Int} (h0 : -(2 ^ 64) < j) (h1 : j < 2 ^ 64) : CMul i j := .inr ⟨h0, h1⟩
theorem div_small {i j : Int} (h : 0 < j) (hj : small j) : CDivW i j := wide_div (b := 200) h hj (by decide) (by decide)
theorem small_of {n : Int} (h : n.natAbs < 2 ^ 64) : small n := Nat.lt_of_lt_of_le h (Nat.pow_le_pow_right (by decide) (by decide))
theorem ix0 (x : Int) (l : List Int) : ixN (List.map V.int (x :: l)).length 0 = some 0 := by
  unfold ixN
  rw [if_pos (by decide), if_pos (by simp <;> omega)]
  rfl

theorem sc_law_draw : FnScope ["pot", "many", "turn", "number", "seed"] ["pot", "many"] (defScope s_law_draw) := ⟨rfl, rfl, rfl, by decide +kernel, rfl, by decide +kernel, by decide +kernel⟩
theorem ok_law_draw (T : Txt K mg A) : FnOk P w K mg base CX0 1 A.f_law_draw A.d_law_draw ["pot", "many"] (spDraw) := by
  refine T.F_law_draw.ok sc_law_draw (fun vs H Q E h => ?_) (fun cdv A1 outer s H vs Q E hr h => ?_)
  · obtain ⟨p, many, rfl, _⟩ := h
    rfl
  · obtain ⟨p, many, rfl, ⟨ngs, gs, ss, t, n, hA, hG, hS, hne⟩, hm, hsm, k⟩ := h
    have nag : p.a ≠ p.g := fun z => by
      rw [z, hG] at hA
      cases gs <;> simp at hA
    have nas : p.a ≠ p.s := fun z => by
      rw [z, hS] at hA
      cases ss <;> simp at hA
    refine ⟨_, (pss_cons (ps_set (i := 2) sc_law_draw.nd rfl (Or.inl rfl) (pe_ix (ix_listK K rfl) (pv 0) pe_int (fun _ _ => rfl)))
      (pss_cons (ps_asg (pe_op op_add (pv 2) pe_int) (pg_sub (pv 0) pe_int set_list))
      (pss_cons (ps_if (pt_cmpR op_gt (pe_callB (call_lenK K rfl) (by rfl) T.z_len (by decide +kernel) (pa_cons (pe_ix (ix_listK K rfl) (pv 0) pe_int (fun _ _ => rfl)) pa_nil)) pe_int (nomark _)) (pss_cons (ps_set (i := 3) sc_law_draw.nd rfl (Or.inl rfl) (pe_ix (ix_listK K rfl) (pe_ix (ix_listK K rfl) (pv 0) pe_int (fun _ _ => rfl)) pe_int (fun _ _ => rfl)))
      (pss_cons (ps_asg (pe_op op_fdivW (pv 3) (pv 1)) (pg_sub (pe_ix (ix_listK K rfl) (pv 0) pe_int (fun _ _ => rfl)) pe_int set_list))
      (pss_cons (ps_if (pt_cmpR op_lt (pv 3) (pv 1) (nomark _)) (pss_one (ps_expr (pe_bm PySem.F.plainAttrs_list PySem.F.slot_list_pop PySem.F.type_list_pop mt_popAt (pe_ix (ix_listK K rfl) (pv 0) pe_int (fun _ _ => rfl)) (pa_cons pe_int pa_nil)))) pss_nil)
      (pss_one (ps_ret (pe_op op_mod (pe_callTy call_int1 (by rfl) T.z_int (by decide +kernel) (pa_cons (pv 3) pa_nil)) (pv 1))))))) pss_nil)
      (pss_cons (ps_set (i := 4) sc_law_draw.nd rfl (Or.inl rfl) (pe_op op_add (pe_op op_add (pe_op op_mul (pe_ix (ix_listK K rfl) (pe_ix (ix_listK K rfl) (pv 0) pe_int (fun _ _ => rfl)) (pe_op op_mod (pe_callTy call_int1 (by rfl) T.z_int (by decide +kernel) (pa_cons (pv 2) pa_nil)) (pe_callB (call_lenK K rfl) (by rfl) T.z_len (by decide +kernel) (pa_cons (pe_ix (ix_listK K rfl) (pv 0) pe_int (fun _ _ => rfl)) pa_nil))) (fun _ _ => rfl)) pe_int) (pe_op op_mul pe_int (pv 2))) (pe_op op_mul (pe_ix (ix_listK K rfl) (pv 0) pe_int (fun _ _ => rfl)) pe_int)))
      (pss_cons (ps_set (i := 3) sc_law_draw.nd rfl (Or.inl rfl) (pe_op op_mod (pe_callTy call_int1 (by rfl) T.z_int (by decide +kernel) (pa_cons (pe_op op_add (pe_op op_mul (pv 4) pe_int) pe_int) pa_nil)) pe_int))
      (pss_cons (ps_set (i := 3) sc_law_draw.nd rfl (Or.inl rfl) (pe_op op_mod (pe_callTy call_int1 (by rfl) T.z_int (by decide +kernel) (pa_cons (pe_op op_mul (pv 3) (pe_op op_add (pe_op op_fdivW (pv 3) pe_int) pe_int)) pa_nil)) pe_int))
      (pss_cons (ps_set (i := 3) sc_law_draw.nd rfl (Or.inl rfl) (pe_op op_mod (pe_callTy call_int1 (by rfl) T.z_int (by decide +kernel) (pa_cons (pe_op op_add (pe_op op_mul (pv 3) (pe_op op_add (pe_op op_fdivW (pv 3) pe_int) pe_int)) (pv 2)) pa_nil)) pe_int))
      (pss_one (ps_ret (pe_op op_mod (pe_callTy call_int1 (by rfl) T.z_int (by decide +kernel) (pa_cons (pe_op op_fdivW (pv 3) pe_int) pa_nil)) (pv 1))))))))))), ?_⟩
    refine ⟨_, rfl, p.a, _, 2, .int t, rfl, rfl, SqL.lt hA, rfl, ?_⟩
    dsimp only
    refine ⟨_, rfl, _, _, rfl, rfl, _, rfl, p.a, _, 2, 2, rfl, rfl, hA, rfl, ?_⟩
    dsimp only
    have hA1 : upd H p.a (.lst (([.ref p.g, .ref p.s, .int t, .int n] : List V).set 2 (.int (t + 1)))) p.a = some (.lst [.ref p.g, .ref p.s, .int (t + 1), .int n]) := upd_same
    have b1 : But p.l H (upd H p.a (.lst (([.ref p.g, .ref p.s, .int t, .int n] : List V).set 2 (.int (t + 1))))) := But.at (by simp [Pt.l])
    have hG1 : upd H p.a (.lst (([.ref p.g, .ref p.s, .int t, .int n] : List V).set 2 (.int (t + 1)))) p.g = some (.lst (gs.map V.int)) := by rw [upd_ne nag.symm]; exact hG
    have hS1 : upd H p.a (.lst (([.ref p.g, .ref p.s, .int t, .int n] : List V).set 2 (.int (t + 1)))) p.s = some (.lst (ss.map V.int)) := by rw [upd_ne nas.symm]; exact hS
    generalize upd H p.a (.lst (([.ref p.g, .ref p.s, .int t, .int n] : List V).set 2 (.int (t + 1)))) = H1 at hA1 b1 hG1 hS1 ⊢
    refine ⟨_, rfl, p.a, _, 0, .ref p.g, rfl, rfl, SqL.lt hA1, rfl, p.g, _, rfl, .inl (SqL.lt hG1), _, _, rfl, rfl, _, rfl, ?_⟩
    refine ite2 (fun c => ?_) (fun c => ?_)
    · cases gs with
      | nil => simp at c
      | cons x gs =>
        refine ⟨_, rfl, p.a, _, 0, .ref p.g, rfl, rfl, SqL.lt hA1, rfl, p.g, _, 0, .int x, rfl, rfl, SqL.lt hG1, at_ge (by decide) rfl, ?_⟩
        dsimp only
        refine ⟨_, rfl, _, rfl, _, _, rfl, rfl, div_small hm hsm, _, rfl, p.a, _, 0, .ref p.g, rfl, rfl, SqL.lt hA1, rfl, p.g, _, 0, 0, rfl, rfl, hG1, ix0 _ _, ?_⟩
        dsimp only
        have hA2 : upd H1 p.g (.lst ((List.map V.int (x :: gs)).set 0 (.int (x / many)))) p.a = some (.lst [.ref p.g, .ref p.s, .int (t + 1), .int n]) := by rw [upd_ne nag]; exact hA1
        have hG2 : upd H1 p.g (.lst ((List.map V.int (x :: gs)).set 0 (.int (x / many)))) p.g = some (.lst ((x / many :: gs).map V.int)) := upd_same
        have hS2 : upd H1 p.g (.lst ((List.map V.int (x :: gs)).set 0 (.int (x / many)))) p.s = some (.lst (ss.map V.int)) := by rw [upd_ne ngs.symm]; exact hS1
        have b2 : But p.l H (upd H1 p.g (.lst ((List.map V.int (x :: gs)).set 0 (.int (x / many))))) := b1.trans (But.at (by simp [Pt.l]))
        generalize upd H1 p.g (.lst ((List.map V.int (x :: gs)).set 0 (.int (x / many)))) = H2 at hA2 b2 hG2 hS2 ⊢
        have r0 := Int.emod_nonneg x (Int.ne_of_gt hm)
        have r1 := Int.emod_lt_of_pos x hm
        refine ⟨_, rfl, _, rfl, _, _, rfl, rfl, _, rfl, ?_⟩
        refine ite2 (fun c => ?_) (fun c => ?_)
        · refine ⟨_, rfl, p.a, _, 0, .ref p.g, rfl, rfl, SqL.lt hA2, rfl, .inl ⟨rfl, _, SqL.lt hG2⟩, p.g, _, 0, 0, .int (x / many), rfl, rfl, hG2, by decide, by decide, (ixN_seq (ix0 _ _)).1, rfl, ?_⟩
          dsimp only
          have hA3 : upd H2 p.g (.lst ((List.map V.int (x / many :: gs)).eraseIdx 0)) p.a = some (.lst [.ref p.g, .ref p.s, .int (t + 1), .int n]) := by rw [upd_ne nag]; exact hA2
          have hG3 : upd H2 p.g (.lst ((List.map V.int (x / many :: gs)).eraseIdx 0)) p.g = some (.lst (gs.map V.int)) := upd_same
          have hS3 : upd H2 p.g (.lst ((List.map V.int (x / many :: gs)).eraseIdx 0)) p.s = some (.lst (ss.map V.int)) := by rw [upd_ne ngs.symm]; exact hS2
          have b3 : But p.l H (upd H2 p.g (.lst ((List.map V.int (x / many :: gs)).eraseIdx 0))) := b2.trans (But.at (by simp [Pt.l]))
          exact ⟨_, rfl, .inl ⟨_, rfl, _, rfl, _, _, rfl, rfl, hm, k _ _ r0 r1 ⟨ngs, gs, ss, t + 1, n, hA3, hG3, hS3, hne⟩ b3⟩⟩
        · exact ⟨_, rfl, .inl ⟨_, rfl, _, rfl, _, _, rfl, rfl, hm, k _ _ r0 r1 ⟨ngs, x / many :: gs, ss, t + 1, n, hA2, hG2, hS2, hne⟩ b2⟩⟩
    · have lp : (0 : Int) < ((ss.map V.int).length : Int) := by
        cases ss with
        | nil => exact absurd rfl hne
        | cons y ys => simp <;> omega
      have i0 := Int.emod_nonneg t (Int.ne_of_gt lp)
      have i1 := Int.emod_lt_of_pos t lp
      obtain ⟨y, hy⟩ : ∃ y, ss[(t % ((ss.map V.int).length : Int)).toNat]? = some y := by
        have z : (t % ((ss.map V.int).length : Int)).toNat < ss.length := by rw [List.length_map] at i0 i1 ⊢; omega
        exact ⟨_, List.getElem?_eq_getElem z⟩
      refine ⟨_, rfl, p.a, _, 1, .ref p.s, rfl, rfl, SqL.lt hA1, rfl, _, rfl, .inl ⟨_, rfl, _, rfl, p.a, _, 1, .ref p.s, rfl, rfl, SqL.lt hA1, rfl, p.s, _, rfl, .inl (SqL.lt hS1), _, _, rfl, rfl, lp, ?_⟩⟩
      dsimp only
      refine ⟨p.s, _, _, .int y, rfl, rfl, SqL.lt hS1, at_ge i0 (by rw [List.getElem?_map, hy]; rfl), ?_⟩
      dsimp only
      refine ⟨_, _, rfl, rfl, cm_r (by decide) (by decide), _, rfl, _, _, rfl, rfl, cm_l (by decide) (by decide), _, _, rfl, rfl, ?_⟩
      dsimp only
      refine ⟨_, rfl, p.a, _, 3, .int n, rfl, rfl, SqL.lt hA1, rfl, _, _, rfl, rfl, cm_r (by decide) (by decide), _, _, rfl, rfl, ?_⟩
      dsimp only
      generalize y * 7919 + 104729 * t + n * 31 = seed
      refine ⟨_, rfl, _, _, rfl, rfl, cm_r (by decide) (by decide), _, _, rfl, rfl, .inl ⟨_, rfl, _, _, rfl, rfl, (by show (0 : Int) < 2147483647; decide), ?_⟩⟩
      dsimp only
      have a0 := Int.emod_nonneg (seed * 48271 + 11) (show (2147483647 : Int) ≠ 0 by decide)
      have a1 := Int.emod_lt_of_pos (seed * 48271 + 11) (show (0 : Int) < 2147483647 by decide)
      generalize (seed * 48271 + 11) % 2147483647 = n1 at a0 a1 ⊢
      refine ⟨_, rfl, _, rfl, _, _, rfl, rfl, div_small (by decide) (small_of (by decide)), _, _, rfl, rfl, _, _, rfl, rfl, cm_l (by omega) (by omega), .inl ⟨_, rfl, _, _, rfl, rfl, (by show (0 : Int) < 2147483629; decide), ?_⟩⟩
      dsimp only
      have d0 := Int.emod_nonneg (n1 * (n1 / 1009 + 69621)) (show (2147483629 : Int) ≠ 0 by decide)
      have d1 := Int.emod_lt_of_pos (n1 * (n1 / 1009 + 69621)) (show (0 : Int) < 2147483629 by decide)
      generalize (n1 * (n1 / 1009 + 69621)) % 2147483629 = n2 at d0 d1 ⊢
      refine ⟨_, rfl, _, rfl, _, _, rfl, rfl, div_small (by decide) (small_of (by decide)), _, _, rfl, rfl, _, _, rfl, rfl, cm_l (by omega) (by omega), _, rfl, _, _, rfl, rfl, .inl ⟨_, rfl, _, _, rfl, rfl, (by show (0 : Int) < 2147483399; decide), ?_⟩⟩
      dsimp only
      generalize (n2 * (n2 / 2003 + 40692) + t) % 2147483399 = n3
      refine ⟨_, rfl, _, _, rfl, rfl, div_small (by decide) (small_of (by decide)), .inl ⟨_, rfl, _, rfl, _, _, rfl, rfl, hm, ?_⟩⟩
      exact k _ _ (Int.emod_nonneg _ (Int.ne_of_gt hm)) (Int.emod_lt_of_pos _ hm) ⟨ngs, gs, ss, t + 1, n, hA1, hG1, hS1, hne⟩ b1
/-- tries and points of an event, right ones -/
def spCountsR : Sp := fun vs H Q _ => ∃ t p : Int, vs = [.int t, .int p] ∧ 1 ≤ t ∧ t ≤ 40 ∧ -400 ≤ p ∧ p ≤ 400 ∧ Q (.bl true) H
def spEventR (K : PySem.W.Frag) : Sp := fun vs H Q _ => ∃ (v : V) (n : Int) (e : List Int), vs = [v, .int n] ∧ IT K H v e ∧ okEv n e ∧ Q (.bl true) H
def spInitR (K : PySem.W.Frag) (C : Addr) : Sp := fun vs H Q _ => ∃ (m dx : Addr) (n : Int) (w : V) (evs : List (List Int)), vs = [.ref m, .int n, w] ∧ H m = some (.ins C dx []) ∧ 1 ≤ n ∧ n ≤ 12 ∧ ITs K H w evs ∧ evs.length ≤ 30 ∧ (∀ e ∈ evs, okEv n e) ∧
  ∀ H', H' m = some (.ins C dx (mf n w)) → (∀ b o, b ≠ m → H b = some o → H' b = some o) → Q .non H'
theorem dec_t {a b c : Int} (h1 : a ≤ b) (h2 : b ≤ c) : decide (a ≤ b ∧ b ≤ c) = true := decide_eq_true ⟨h1, h2⟩

theorem sc_are_counts : FnScope ["tries", "points"] ["tries", "points"] (defScope s_are_counts) := ⟨rfl, rfl, rfl, by decide +kernel, rfl, by decide +kernel, by decide +kernel⟩
theorem ok_are_counts (T : Txt K mg A) : FnOk P w K mg base CX0 3 A.f_are_counts A.d_are_counts ["tries", "points"] (spCountsR) := by
  refine T.F_are_counts.ok sc_are_counts (fun vs H Q E h => ?_) (fun cdv A1 outer s H vs Q E hr h => ?_)
  · obtain ⟨t, p, rfl, _⟩ := h
    rfl
  · obtain ⟨t, p, rfl, h1, h2, h3, h4, q⟩ := h
    refine ⟨_, (pss_one (ps_ret (pe_and (pe_call (ok_is_between T) (hr.mono (by decide)) rfl T.m_is_between T.F_is_between.kp T.B_is_between .nil pass0 (pa_cons (pv 0) (pa_cons pe_int (pa_cons (pe_glob (v := .int 40) rfl T.c_MOST_TRIES ⟨_, rfl⟩) pa_nil)))) (pe_one (pe_call (ok_is_between T) (hr.mono (by decide)) rfl T.m_is_between T.F_is_between.kp T.B_is_between .nil pass0 (pa_cons (pv 1) (pa_cons (pe_un un_neg (pe_glob (v := .int 400) rfl T.c_MOST_POINTS ⟨_, rfl⟩)) (pa_cons (pe_glob (v := .int 400) rfl T.c_MOST_POINTS ⟨_, rfl⟩) pa_nil)))))))), ?_⟩
    refine ⟨_, rfl, t, 1, 40, rfl, _, rfl, ?_⟩
    rw [dec_t h1 h2]
    refine iteT ⟨_, rfl, _, rfl, p, -400, 400, rfl, ?_⟩
    rw [dec_t h3 h4]
    exact q
theorem sc_is_event : FnScope ["thing", "standings", "before", "after", "tries", "points", "last"] ["thing", "standings"] (defScope s_is_event) := ⟨rfl, rfl, rfl, by decide +kernel, rfl, by decide +kernel, by decide +kernel⟩
theorem ok_is_event (T : Txt K mg A) : FnOk P w K mg base CX0 4 A.f_is_event A.d_is_event ["thing", "standings"] (spEventR K) := by
  refine T.F_is_event.ok sc_is_event (fun vs H Q E h => ?_) (fun cdv A1 outer s H vs Q E hr h => ?_)
  · obtain ⟨v, n, e, rfl, _⟩ := h
    rfl
  · obtain ⟨v, n, e, rfl, hv, ⟨b, a, t, p, rfl, b0, b1, a0, a1, t0, t1, p0, p1⟩, q⟩ := h
    obtain ⟨x, rfl, hx⟩ := id hv
    refine ⟨_, (pss_cons (ps_if (PW.pt (pw_or (pt_not (pt_val (pe_callB (call_isK K rfl) (by rfl) T.z_isinstance (by decide +kernel) (pa_cons (pv 0) (pa_cons (pe_bltn (v := .ty "tuple") (u := .type "tuple") rfl T.z_tuple (by decide +kernel) rfl) pa_nil))))) (pw_or1 (pt_cmpR op_ne (pe_callB (call_lenK K rfl) (by rfl) T.z_len (by decide +kernel) (pa_cons (pv 0) pa_nil)) pe_int (nomark _))))) (pss_one (ps_ret pe_bl)) pss_nil)
      (pss_cons (ps_asg (pv 0) (pg_tupK K rfl 4 rfl (pgs_cons (pg_name (i := 2) sc_is_event.nd rfl (Or.inl rfl)) (pgs_cons (pg_name (i := 3) sc_is_event.nd rfl (Or.inl rfl)) (pgs_cons (pg_name (i := 4) sc_is_event.nd rfl (Or.inl rfl)) (pgs_cons (pg_name (i := 5) sc_is_event.nd rfl (Or.inl rfl)) pgs_nil)))) rfl rfl))
      (pss_cons (ps_set (i := 6) sc_is_event.nd rfl (Or.inl rfl) (pe_op op_sub (pv 1) pe_int))
      (pss_one (ps_ret (pe_and (pe_call (ok_is_between T) (hr.mono (by decide)) rfl T.m_is_between T.F_is_between.kp T.B_is_between .nil pass0 (pa_cons (pv 2) (pa_cons pe_int (pa_cons (pv 6) pa_nil)))) (pe_and (pe_call (ok_is_between T) (hr.mono (by decide)) rfl T.m_is_between T.F_is_between.kp T.B_is_between .nil pass0 (pa_cons (pv 3) (pa_cons pe_int (pa_cons (pv 6) pa_nil)))) (pe_one (pe_call (ok_are_counts T) (hr.mono (by decide)) rfl T.m_are_counts T.F_are_counts.kp T.B_are_counts .nil pass0 (pa_cons (pv 4) (pa_cons (pv 5) pa_nil))))))))))), ?_⟩
    refine ⟨_, rfl, isT rfl hx ⟨true, rfl, iteF ⟨_, rfl, lenI hv fun ys e => ?_⟩⟩⟩
    rw [e]
    refine ⟨rfl, _, rfl, iteF ?_⟩
    refine ⟨_, rfl, x, _, rfl, hx, rfl, .int b, _, rfl, .int a, _, rfl, .int t, _, rfl, .int p, _, rfl, rfl, ?_⟩
    dsimp only
    refine ⟨_, rfl, _, _, rfl, rfl, ?_⟩
    refine ⟨_, rfl, _, rfl, b, 0, n - 1, rfl, _, rfl, ?_⟩
    rw [dec_t b0 (by omega)]
    refine iteT ⟨_, rfl, _, rfl, a, 0, n - 1, rfl, _, rfl, ?_⟩
    rw [dec_t a0 (by omega)]
    exact iteT ⟨_, rfl, _, rfl, t, p, rfl, t0, t1, p0, p1, q⟩
theorem sc_Machine___init__ : FnScope ["self", "standings", "events", "number", "thing"] ["self", "standings", "events"] (defScope s_Machine___init__) := ⟨rfl, rfl, rfl, by decide +kernel, rfl, by decide +kernel, by decide +kernel⟩
theorem ok_Machine___init__ (T : Txt K mg A) : FnOk P w K mg base CX0 5 A.f_Machine___init__ A.d_Machine___init__ ["self", "standings", "events"] (spInitR K A.C_Machine) := by
  refine T.F_Machine___init__.ok sc_Machine___init__ (fun vs H Q E h => ?_) (fun cdv A1 outer s H vs Q E hr h => ?_)
  · obtain ⟨m, dx, n, w, evs, rfl, _⟩ := h
    rfl
  · obtain ⟨m, dx, n, w, evs, rfl, hm, n0, n1, hw, l30, ok, k⟩ := h
    obtain ⟨x, xs, rfl, hx, al⟩ := id hw
    refine ⟨_, (pss_cons (ps_if (pt_not (pt_val (pe_call (ok_is_between T) (hr.mono (by decide)) rfl T.m_is_between T.F_is_between.kp T.B_is_between .nil pass0 (pa_cons (pv 1) (pa_cons pe_int (pa_cons (pe_glob (v := .int 12) rfl T.c_MOST_STANDINGS ⟨_, rfl⟩) pa_nil)))))) (pss_one ps_never) pss_nil)
      (pss_cons (ps_if (PW.pt (pw_or (pt_not (pt_val (pe_callB (call_isK K rfl) (by rfl) T.z_isinstance (by decide +kernel) (pa_cons (pv 2) (pa_cons (pe_bltn (v := .ty "tuple") (u := .type "tuple") rfl T.z_tuple (by decide +kernel) rfl) pa_nil))))) (pw_or1 (pt_cmpR op_gt (pe_callB (call_lenK K rfl) (by rfl) T.z_len (by decide +kernel) (pa_cons (pv 2) pa_nil)) (pe_glob (v := .int 30) rfl T.c_MOST_EVENTS ⟨_, rfl⟩) (nomark _))))) (pss_one ps_never) pss_nil)
      (pss_cons (ps_for PassesOwn.never rfl (pi_enumT rfl T.z_enumerate (pa_cons (pv 2) pa_nil)) (pg_tupK K rfl 2 rfl (pgs_cons (pg_name (i := 3) sc_Machine___init__.nd rfl (Or.inl rfl)) (pgs_cons (pg_name (i := 4) sc_Machine___init__.nd rfl (Or.inl rfl)) pgs_nil)) rfl rfl)
        (pss_one (ps_if (pt_not (pt_val (pe_call (ok_is_event T) (hr.mono (by decide)) rfl T.m_is_event T.F_is_event.kp T.B_is_event .nil pass0 (pa_cons (pv 4) (pa_cons (pv 1) pa_nil))))) (pss_one ps_never) pss_nil)))
      (pss_cons (ps_fld (pv 0) (pv 1) rfl)
      (pss_one (ps_fld (pv 0) (pv 2) rfl)))))), ?_⟩
    refine ⟨_, rfl, n, 1, 12, rfl, _, rfl, ?_⟩
    rw [dec_t n0 n1]
    refine iteF ⟨_, rfl, isT rfl hx ⟨true, rfl, iteF ⟨_, rfl, lenT hw fun ys e => ⟨_, _, rfl, rfl, _, rfl, ?_⟩⟩⟩⟩
    rw [e]
    rw [decide_eq_false (by omega)]
    refine iteF ⟨_, rfl, x, xs, rfl, hx, ?_⟩
    refine for_enT (K := K) (a := x) (xs := xs) (fun i σ H' => (∃ u v, σ = [some (.ref m), some (.int n), some (.ref x), u, v]) ∧ Same H H') ⟨⟨_, _, rfl⟩, Same.refl _⟩ (fun i σ H' _ q => SqT.keep (Keep.of q.2) hx) ?_ ?_
    · rintro i y σ H1 T1 hi ⟨⟨u, v, rfl⟩, s1⟩ hT
      have s2 := s1.trans (Same.new (o := .tup [.int (i : Nat), y]) hT)
      obtain ⟨e, he, hy⟩ := al.getL hi
      refine ⟨T1, _, rfl, SqT.lt upd_same, rfl, .int (i : Nat), _, rfl, y, _, rfl, rfl, ?_⟩
      dsimp only
      refine ⟨_, rfl, _, rfl, y, n, e, rfl, hy.keep (Keep.of s2), ok e (List.mem_of_getElem? he), true, rfl, iteF ?_⟩
      exact ⟨⟨_, _, rfl⟩, s2⟩
    · rintro σ H1 ⟨⟨u, v, rfl⟩, s1⟩
      refine ⟨_, rfl, _, rfl, m, A.C_Machine, dx, [], rfl, s1 _ _ hm, T.cl_Machine, T.n_standings, (by decide), ?_⟩
      dsimp only
      refine ⟨_, rfl, _, rfl, m, A.C_Machine, dx, _, rfl, upd_same, T.cl_Machine, T.n_events, (by show 1 < 1000; decide), ?_⟩
      dsimp only
      refine k _ upd_same (fun b o nb hb => ?_)
      rw [upd_ne nb, upd_ne nb]
      exact s1 _ _ hb
def spHas (K : PySem.W.Frag) (C : Addr) : Sp := fun vs H Q _ => ∃ (m : V) (k n : Int) (evs : List (List Int)), vs = [m, .int k] ∧ MachAt K C H m n evs ∧ Q (.bl (decide (0 ≤ k ∧ k ≤ (evs.length : Int) - 1))) H
def spRun (K : PySem.W.Frag) (C : Addr) : Sp := fun vs H Q _ => ∃ (m v : V) (n : Int) (evs : List (List Int)) (run : List Int), vs = [m, v] ∧ MachAt K C H m n evs ∧ (∀ e ∈ evs, Four e) ∧ IT K H v run ∧ Q (.bl (walkTo evs 0 run).isSome) H
def spLiftOf (K : PySem.W.Frag) : Sp := fun vs H Q _ => ∃ (x y : V) (a b t p : Int), vs = [x, y] ∧ IT K H x [a, b] ∧ IT K H y [t, p] ∧ -(2 ^ 64) < t ∧ t < 2 ^ 64 ∧ -(2 ^ 64) < p ∧ p < 2 ^ 64 ∧ Q (.int (b * p - a * t)) H
def spPairR (K : PySem.W.Frag) : Sp := fun vs H Q _ => ∃ (x : V) (a b : Int), vs = [x] ∧ IT K H x [a, b] ∧ Q (.bl true) H
def spShareR (K : PySem.W.Frag) : Sp := fun vs H Q _ => ∃ (x : V) (a b : Int), vs = [x] ∧ IT K H x [a, b] ∧ 1 ≤ b ∧ gcdI a b = 1 ∧ Q (.bl true) H
def spShareOf (K : PySem.W.Frag) : Sp := fun vs H Q _ => ∃ (p t : Int), vs = [.int p, .int t] ∧ 0 < t ∧ small t ∧ ∀ (q : Addr) (H' : Hp), Same H H' → H q = none → IT K H' (.ref q) [p / gcdI p t, t / gcdI p t] → Q (.ref q) H'
/-- places of events -/
def spTotal (K : PySem.W.Frag) (C : Addr) : Sp := fun vs H Q _ => ∃ (m v : V) (n : Int) (evs : List (List Int)) (run : List Int), vs = [m, v] ∧ MachAt K C H m n evs ∧ (∀ e ∈ evs, Four e) ∧ IT K H v run ∧ InEv evs run ∧ run.length ≤ 1000 ∧
  ∀ (q : Addr) (H' : Hp), Same H H' → IT K H' (.ref q) [sumT evs run, sumP evs run] → Q (.ref q) H'
theorem gcdI_pos {p t : Int} (h : 0 < t) : 0 < gcdI p t := by
  unfold gcdI
  have : 0 < Nat.gcd p.natAbs t.natAbs := Nat.gcd_pos_of_pos_right _ (by omega)
  omega
theorem gcdI_le {p t : Int} (h : 0 < t) : gcdI p t ≤ t := by
  unfold gcdI
  have := Nat.gcd_le_right p.natAbs (show 0 < t.natAbs by omega)
  omega
theorem small_le {n m : Int} (h0 : 0 ≤ n) (h : n ≤ m) (s : small m) : small n := Nat.lt_of_le_of_lt (by omega) s
theorem ev_at {evs : List (List Int)} {k : Int} (f : ∀ e ∈ evs, Four e) (h0 : 0 ≤ k) (h1 : k < (evs.length : Int)) : ∃ b a t p : Int, evs[k.toNat]? = some [b, a, t, p] ∧ evs.getD k.toNat [] = [b, a, t, p] := by
  have hk : k.toNat < evs.length := by omega
  obtain ⟨b, a, t, p, e⟩ := f _ (List.getElem_mem hk)
  exact ⟨b, a, t, p, by rw [List.getElem?_eq_getElem hk, e], by rw [List.getD_eq_getElem?_getD, List.getElem?_eq_getElem hk, e]; rfl⟩

def spLawLift (K : PySem.W.Frag) : Sp := fun vs H Q _ => ∃ (x y : V) (a b e0 e1 t p : Int), vs = [x, y] ∧ IT K H x [a, b] ∧ IT K H y [e0, e1, t, p] ∧ -(2 ^ 64) < t ∧ t < 2 ^ 64 ∧ -(2 ^ 64) < p ∧ p < 2 ^ 64 ∧ Q (.int (b * p - a * t)) H
def spSign : Sp := fun vs H Q _ => ∃ n : Int, vs = [.int n] ∧ Q (.int ((if decide (0 < n) = true then 1 else 0) - (if decide (n < 0) = true then 1 else 0))) H

def spLift (K : PySem.W.Frag) (C : Addr) : Sp := fun vs H Q _ => ∃ (m x : V) (a b k n e0 e1 t p : Int) (evs : List (List Int)), vs = [m, x, .int k] ∧ MachAt K C H m n evs ∧ (∀ e ∈ evs, Four e) ∧ IT K H x [a, b] ∧ 1 ≤ b ∧ gcdI a b = 1 ∧ 0 ≤ k ∧
  evs[k.toNat]? = some [e0, e1, t, p] ∧ -(2 ^ 64) < t ∧ t < 2 ^ 64 ∧ -(2 ^ 64) < p ∧ p < 2 ^ 64 ∧ ∀ H', Same H H' → Q (.int (b * p - a * t)) H'
def spValue (K : PySem.W.Frag) (C : Addr) : Sp := fun vs H Q _ => ∃ (m x v : V) (a b n : Int) (evs : List (List Int)) (run : List Int), vs = [m, x, v] ∧ MachAt K C H m n evs ∧ (∀ e ∈ evs, Four e) ∧ IT K H x [a, b] ∧ 1 ≤ b ∧ gcdI a b = 1 ∧ IT K H v run ∧
  (walkTo evs 0 run).isSome = true ∧ InEv evs run ∧ run.length ≤ 1000 ∧ -(2 ^ 64) < sumT evs run ∧ sumT evs run < 2 ^ 64 ∧ -(2 ^ 64) < sumP evs run ∧ sumP evs run < 2 ^ 64 ∧ ∀ H', Same H H' → Q (.int (b * sumP evs run - a * sumT evs run)) H'
def spGcd : Sp := fun vs H Q _ => ∃ x y : Int, vs = [.int x, .int y] ∧ small y ∧ Q (.int (gcdI x y)) H
theorem abs_is (i : Int) : (if i < 0 then -i else i) = (i.natAbs : Int) := by split <;> omega
/-- a turn of Euclid's -/
theorem euclid {a b : Nat} (h : b < a) (hb : 0 < b) : a % b < b ∧ 2 * (b * (a % b)) ≤ a * b := by
  have h1 := Nat.mod_lt a hb
  have h2 : a % b + b ≤ a := by
    have e := Nat.div_add_mod a b
    have q : 1 ≤ a / b := (Nat.one_le_div_iff hb).mpr (Nat.le_of_lt h)
    have q2 : b * 1 ≤ b * (a / b) := Nat.mul_le_mul_left b q
    omega
  refine ⟨h1, ?_⟩
  have h3 : 2 * (a % b) ≤ a := by omega
  calc 2 * (b * (a % b)) = b * (2 * (a % b)) := by rw [Nat.mul_left_comm]
    _ ≤ b * a := Nat.mul_le_mul_left b h3
    _ = a * b := Nat.mul_comm b a
/-- what holds behind i turns -/
structure Eu (X Y i a b : Nat) : Prop where
  g : Nat.gcd a b = Nat.gcd X Y
  z : i = 0 → a = X ∧ b = Y
  s : 0 < i → b < a ∧ a * b * 2 ^ (i - 1) ≤ Y * Y
theorem Eu.step {X Y i a b : Nat} (h : Eu X Y i a b) (hb : b ≠ 0) : Eu X Y (i + 1) b (a % b) := by
  have hb' : 0 < b := Nat.pos_of_ne_zero hb
  refine ⟨?_, fun z => absurd z (Nat.succ_ne_zero i), fun _ => ?_⟩
  · rw [← h.g, Nat.gcd_comm a b, Nat.gcd_rec b a, Nat.gcd_comm]
  · refine ⟨Nat.mod_lt a hb', ?_⟩
    rw [Nat.add_sub_cancel]
    by_cases hi : i = 0
    · obtain ⟨rfl, rfl⟩ := h.z hi
      subst hi
      rw [Nat.pow_zero, Nat.mul_one]
      exact Nat.mul_le_mul_left b (Nat.le_of_lt (Nat.mod_lt a hb'))
    · obtain ⟨hlt, hs⟩ := h.s (Nat.pos_of_ne_zero hi)
      obtain ⟨_, h2⟩ := euclid hlt hb'
      obtain ⟨j, rfl⟩ : ∃ j, i = j + 1 := ⟨i - 1, by omega⟩
      rw [Nat.add_sub_cancel] at hs
      calc b * (a % b) * 2 ^ (j + 1) = 2 * (b * (a % b)) * 2 ^ j := by rw [Nat.pow_succ, Nat.mul_comm (2 ^ j) 2, ← Nat.mul_assoc, Nat.mul_comm (b * (a % b)) 2]
        _ ≤ a * b * 2 ^ j := Nat.mul_le_mul_right _ h2
        _ ≤ Y * Y := hs
theorem Eu.last {X Y a b : Nat} (h : Eu X Y 400 a b) (hy : Y < 2 ^ 200) : b = 0 := by
  obtain ⟨hlt, hs⟩ := h.s (by decide)
  by_cases hb : b = 0
  · exact hb
  · exfalso
    have h1 : 2 ≤ a * b := by
      have : 1 * 2 ≤ b * a := Nat.mul_le_mul (by omega) (by omega)
      rw [Nat.mul_comm]; omega
    have h2 : 2 * 2 ^ 399 ≤ Y * Y := Nat.le_trans (Nat.mul_le_mul_right _ h1) hs
    have h3 : Y * Y < 2 ^ 200 * 2 ^ 200 := Nat.mul_lt_mul'' hy hy
    rw [← Nat.pow_add] at h3
    have h4 : (2 : Nat) ^ (399 + 1) = 2 ^ 399 * 2 := Nat.pow_succ 2 399
    rw [Nat.mul_comm 2, ← h4] at h2
    exact absurd h3 (Nat.not_lt.mpr h2)

/-- gcd taken out: no integer above 1 is left -/
theorem low_one {p t : Int} (h : 0 < t) : gcdI (p / gcdI p t) (t / gcdI p t) = 1 ∧ 1 ≤ t / gcdI p t ∧ t / gcdI p t ≤ t := by
  have g0 := gcdI_pos (p := p) h
  have gn : 0 < Nat.gcd p.natAbs t.natAbs := by unfold gcdI at g0; omega
  have d1 : gcdI p t ∣ p := Int.ofNat_dvd_left.mpr (Nat.gcd_dvd_left _ _)
  have d2 : gcdI p t ∣ t := Int.ofNat_dvd_left.mpr (Nat.gcd_dvd_right _ _)
  have n1 : (p / gcdI p t).natAbs = p.natAbs / Nat.gcd p.natAbs t.natAbs := by rw [Int.natAbs_ediv_of_dvd d1]; rfl
  have n2 : (t / gcdI p t).natAbs = t.natAbs / Nat.gcd p.natAbs t.natAbs := by rw [Int.natAbs_ediv_of_dvd d2]; rfl
  refine ⟨?_, ?_, ?_⟩
  · have e : gcdI (p / gcdI p t) (t / gcdI p t) = ((Nat.gcd (p / gcdI p t).natAbs (t / gcdI p t).natAbs : Nat) : Int) := rfl
    rw [e, n1, n2, Nat.gcd_div (Nat.gcd_dvd_left _ _) (Nat.gcd_dvd_right _ _), Nat.div_self gn]
    rfl
  · have := gcdI_le (p := p) h
    exact (Int.le_ediv_iff_mul_le g0).mpr (by omega)
  · exact Int.ediv_le_self _ (Int.le_of_lt h)
def spShareD (K : PySem.W.Frag) : Sp := fun vs H Q _ => ∃ (p : Pt) (most : Int), vs = [.ref p.a, .int most] ∧ p.At H ∧ 1 ≤ most ∧ most ≤ 1000000 ∧
  ∀ (q : Addr) (H' : Hp) (a b : Int), p.At H' → But p.l H H' → IT K H' (.ref q) [a, b] → 1 ≤ b → b ≤ most → gcdI a b = 1 → Q (.ref q) H'
def outs (evs : List (List Int)) (s : Int) : List Int := ((List.range evs.length).filter fun i => decide (V.int (evB (evs.getD i [])) = V.int s)).map fun i : Nat => 0 + (i : Int)
theorem outs_mem {evs : List (List Int)} {s k : Int} (h : k ∈ outs evs s) : 0 ≤ k ∧ k < (evs.length : Int) ∧ evB (evs.getD k.toNat []) = s := by
  unfold outs at h
  obtain ⟨i, hi, e⟩ := List.mem_map.mp h
  obtain ⟨h1, h2⟩ := List.mem_filter.mp hi
  have h1' := List.mem_range.mp h1
  have h3 : V.int (evB (evs.getD i [])) = V.int s := of_decide_eq_true h2
  injection h3 with h3
  have ek : k.toNat = i := by omega
  rw [ek]
  exact ⟨by omega, by omega, h3⟩
def spOut (K : PySem.W.Frag) : Sp := fun vs H Q _ => ∃ (x : V) (s n : Int) (evs : List (List Int)), vs = [x, .int s] ∧ Parts K H x n evs ∧ (∀ e ∈ evs, Four e) ∧ evs.length ≤ 1000 ∧
  ∀ (D : Addr) (H' : Hp), Same H H' → H D = none → H' D = some (.lst ((outs evs s).map V.int)) → Q (.ref D) H'
def spWalk (K : PySem.W.Frag) : Sp := fun vs H Q _ => ∃ (p : Pt) (x : V) (many n : Int) (evs : List (List Int)), vs = [.ref p.a, x, .int many] ∧ p.At H ∧ Parts K H x n evs ∧ (∀ e ∈ evs, Four e) ∧ evs.length ≤ 1000 ∧ 0 ≤ many ∧ many ≤ 1000 ∧
  ∀ (q : Addr) (H' : Hp) (run : List Int), p.At H' → But p.l H H' → IT K H' (.ref q) run → (walkTo evs 0 run).isSome = true → InEv evs run → (run.length : Int) ≤ many → Q (.ref q) H'
theorem lastAt {α : Type} (l : List α) (x : α) : atI (l ++ [x]) (-1) = some x := by
  unfold atI ixN
  rw [if_neg (by decide), if_pos (by simp <;> omega)]
  have e : (-1 + (((l ++ [x]).length : Nat) : Int)).toNat = l.length := by rw [List.length_append]; simp <;> omega
  show (l ++ [x])[(-1 + (((l ++ [x]).length : Nat) : Int)).toNat]? = some x
  rw [e]
  simp

/-- drawn parts: the greatest tries and points are small -/
def drawnEv (n : Int) (e : List Int) : Prop := ∃ b a t p, e = [b, a, t, p] ∧ 0 ≤ b ∧ b < n ∧ 0 ≤ a ∧ a < n ∧ 1 ≤ t ∧ t ≤ 3 ∧ -4 ≤ p ∧ p ≤ 4
theorem drawnEv.ok {n : Int} {e : List Int} (h : drawnEv n e) : okEv n e := by
  obtain ⟨b, a, t, p, h0, h1, h2, h3, h4, h5, h6, h7, h8⟩ := h
  exact ⟨b, a, t, p, h0, h1, h2, h3, h4, h5, by omega, by omega, by omega⟩
def spParts (K : PySem.W.Frag) : Sp := fun vs H Q _ => ∃ (p : Pt) (ms me : Int), vs = [.ref p.a, .int ms, .int me] ∧ p.At H ∧ 1 ≤ ms ∧ ms ≤ 1000 ∧ 1 ≤ me ∧ me ≤ 1000 ∧
  ∀ (q : Addr) (H' : Hp) (n : Int) (evs : List (List Int)), p.At H' → But p.l H H' → Parts K H' (.ref q) n evs → 1 ≤ n → n ≤ ms → 1 ≤ evs.length → (evs.length : Int) ≤ me → (∀ e ∈ evs, drawnEv n e) → Q (.ref q) H'
/-- a list of tuples of ints, kept where only other things change -/

theorem sc_law_parts : FnScope ["pot", "most_standings", "most_events", "standings", "kind", "events", "at", "before", "after", "tries", "points"] ["pot", "most_standings", "most_events"] (defScope s_law_parts) := ⟨rfl, rfl, rfl, by decide +kernel, rfl, by decide +kernel, by decide +kernel⟩
theorem ok_law_parts (T : Txt K mg A) : FnOk P w K mg base CX0 2 A.f_law_parts A.d_law_parts ["pot", "most_standings", "most_events"] (spParts K) := by
  refine T.F_law_parts.ok sc_law_parts (fun vs H Q E h => ?_) (fun cdv A1 outer s H vs Q E hr h => ?_)
  · obtain ⟨p, ms, me, rfl, _⟩ := h
    rfl
  · obtain ⟨p, ms, me, rfl, hp, s0, s1, e0, e1, k⟩ := h
    refine ⟨_, (pss_cons (ps_set (i := 3) sc_law_parts.nd rfl (Or.inl rfl) (pe_op op_add pe_int (pe_call (ok_law_draw T) (hr.mono (by decide)) rfl T.m_law_draw T.F_law_draw.kp T.B_law_draw .nil pass0 (pa_cons (pv 0) (pa_cons (pv 1) pa_nil)))))
      (pss_cons (ps_set (i := 4) sc_law_parts.nd rfl (Or.inl rfl) (pe_call (ok_law_draw T) (hr.mono (by decide)) rfl T.m_law_draw T.F_law_draw.kp T.B_law_draw .nil pass0 (pa_cons (pv 0) (pa_cons pe_int pa_nil))))
      (pss_cons (ps_set (i := 5) sc_law_parts.nd rfl (Or.inl rfl) (pe_lst pa_nil))
      (pss_cons (ps_for PassesOwn.never rfl (pi_range1 rfl T.z_range (pa_cons (pe_op op_add pe_int (pe_call (ok_law_draw T) (hr.mono (by decide)) rfl T.m_law_draw T.F_law_draw.kp T.B_law_draw .nil pass0 (pa_cons (pv 0) (pa_cons (pv 2) pa_nil)))) pa_nil)) (pg_name (i := 6) sc_law_parts.nd rfl (Or.inl rfl))
        (pss_cons (ps_par (i := 7) (j := 8) rfl sc_law_parts.nd rfl rfl (by decide) rfl rfl (pa_cons (pe_call (ok_law_draw T) (hr.mono (by decide)) rfl T.m_law_draw T.F_law_draw.kp T.B_law_draw .nil pass0 (pa_cons (pv 0) (pa_cons (pv 3) pa_nil))) (pa_cons (pe_call (ok_law_draw T) (hr.mono (by decide)) rfl T.m_law_draw T.F_law_draw.kp T.B_law_draw .nil pass0 (pa_cons (pv 0) (pa_cons (pv 3) pa_nil))) pa_nil)) (by rfl))
      (Evl.pss_cut (ps_if (pt_cmpR op_gt (pv 4) pe_int (nomark _)) (pss_cons (ps_set (i := 7) sc_law_parts.nd rfl (Or.inl rfl) (pe_op op_mod (pe_callTy call_int1 (by rfl) T.z_int (by decide +kernel) (pa_cons (pv 6) pa_nil)) (pv 3)))
      (pss_one (ps_set (i := 8) sc_law_parts.nd rfl (Or.inl rfl) (pe_ix (ix_tupK K rfl) (pe_tup (pa_cons (pv 7) (pa_cons (pe_op op_mod (pe_callTy call_int1 (by rfl) T.z_int (by decide +kernel) (pa_cons (pe_op op_add (pv 7) pe_int) pa_nil)) (pv 3)) pa_nil))) (pe_callTy call_int1 (by rfl) T.z_int (by decide +kernel) (pa_cons (pe_cmpR op_gt (pe_call (ok_law_draw T) (hr.mono (by decide)) rfl T.m_law_draw T.F_law_draw.kp T.B_law_draw .nil pass0 (pa_cons (pv 0) (pa_cons pe_int pa_nil))) pe_int (nomark _)) pa_nil)) (fun _ _ => rfl))))) pss_nil)
      (pss_cons (ps_set (i := 9) sc_law_parts.nd rfl (Or.inl rfl) (pe_ifExp (pt_cmpR op_eq (pv 4) pe_int (nomark _)) pe_int (pe_op op_add pe_int (pe_call (ok_law_draw T) (hr.mono (by decide)) rfl T.m_law_draw T.F_law_draw.kp T.B_law_draw .nil pass0 (pa_cons (pv 0) (pa_cons pe_int pa_nil))))))
      (pss_cons (ps_set (i := 10) sc_law_parts.nd rfl (Or.inl rfl) (pe_ifExp (pt_cmpR op_eq (pv 4) pe_int (nomark _)) (pe_call (ok_law_draw T) (hr.mono (by decide)) rfl T.m_law_draw T.F_law_draw.kp T.B_law_draw .nil pass0 (pa_cons (pv 0) (pa_cons pe_int pa_nil))) (pe_op op_sub (pe_call (ok_law_draw T) (hr.mono (by decide)) rfl T.m_law_draw T.F_law_draw.kp T.B_law_draw .nil pass0 (pa_cons (pv 0) (pa_cons pe_int pa_nil))) pe_int)))
      (pss_one (ps_expr (pe_bm PySem.F.plainAttrs_list PySem.F.slot_list_append PySem.F.type_list_append mt_append (pv 5) (pa_cons (pe_tup (pa_cons (pv 7) (pa_cons (pv 8) (pa_cons (pv 9) (pa_cons (pv 10) pa_nil))))) pa_nil)))))))))
      (pss_one (ps_ret (pe_tup (pa_cons (pv 3) (pa_cons (pe_callTy (call_tupleK K rfl) (by rfl) T.z_tuple (by decide +kernel) (pa_cons (pv 5) pa_nil)) pa_nil))))))))), ?_⟩
    refine ⟨_, rfl, _, rfl, p, ms, rfl, hp, by omega, small_of (by omega), fun r1 H1 r10 r11 hp1 b1 => ⟨_, _, rfl, rfl, ?_⟩⟩
    refine ⟨_, rfl, p, 4, rfl, hp1, by decide, small_of (by decide), fun kind H2 k0 k1 hp2 b2 => ⟨Nat.zero_le _, fun D hD => ?_⟩⟩
    have fD := hp2.fresh hD
    have bD : But p.l H (upd H2 D (.lst [])) := (b1.trans b2).trans (But.new hD)
    have hpD := hp2.same (Same.new (o := .lst []) hD)
    have hD0 : H D = none := by
      cases z : H D with
      | none => rfl
      | some o =>
        have := (b1.trans b2) _ _ (Pt.out fD) z
        rw [hD] at this
        cases this
    have LD : LTs K (upd H2 D (.lst [])) D [] := ⟨[], upd_same, .nil⟩
    generalize upd H2 D (.lst []) = H3 at bD hpD LD ⊢
    refine ⟨_, rfl, _, rfl, p, me, rfl, hpD, by omega, small_of (by omega), fun r2 H4 r20 r21 hp4 b4 => ⟨_, _, rfl, rfl, ?_⟩⟩
    refine ⟨1 + r2, rfl, by omega, by omega, ?_⟩
    refine for_range (lo := 0) (n := (1 + r2).toNat) (fun i σ H' => p.At H' ∧ But p.l H H' ∧ ∃ (evs : List (List Int)) (u1 u2 u3 u4 u5 : Option V), σ = [some (.ref p.a), some (.int ms), some (.int me), some (.int (1 + r1)), some (.int kind), some (.ref D), u1, u2, u3, u4, u5] ∧
        LTs K H' D evs ∧ evs.length = i ∧ ∀ e ∈ evs, drawnEv (1 + r1) e)
      ⟨hp4, bD.trans b4, [], none, none, none, none, none, rfl, LD.but b4 (hpD.keep b4) (Pt.out fD), rfl, (fun _ h => by cases h)⟩ ?_ ?_
    · rintro i σ H5 hi ⟨hp5, b5, evs, u1, u2, u3, u4, u5, rfl, L5, len, all⟩
      have fr : D ∉ p.l := Pt.out fD
      refine ⟨_, rfl, _, rfl, p, _, rfl, hp5, by omega, small_of (by omega), fun bb H6 bb0 bb1 hp6 b6 => ⟨_, rfl, _, rfl, p, _, rfl, hp6, by omega, small_of (by omega), fun aa H7 aa0 aa1 hp7 b7 => ⟨_, _, rfl, ?_⟩⟩⟩
      have L7 := (L5.but b6 (hp5.keep b6) fr).but b7 (hp6.keep b7) fr
      have b57 := (b5.trans b6).trans b7
      -- the events' ends: b and a, whatever the kind
      refine ⟨fun σ' H8 => ∃ b a : Int, σ' = [some (.ref p.a), some (.int ms), some (.int me), some (.int (1 + r1)), some (.int kind), some (.ref D), some (.int (0 + (i : Nat))), some (.int b), some (.int a), u4, u5] ∧ p.At H8 ∧ But p.l H H8 ∧ LTs K H8 D evs ∧ 0 ≤ b ∧ b < 1 + r1 ∧ 0 ≤ a ∧ a < 1 + r1, ?_, ?_⟩
      · refine ⟨_, rfl, _, _, rfl, rfl, _, rfl, ?_⟩
        refine ite2 (fun c => ?_) (fun c => ⟨bb, aa, rfl, hp7, b57, L7, bb0, bb1, aa0, aa1⟩)
        have m0 := Int.emod_nonneg (0 + ((i : Nat) : Int)) (show (1 + r1 : Int) ≠ 0 by omega)
        have m1 := Int.emod_lt_of_pos (0 + ((i : Nat) : Int)) (show (0 : Int) < 1 + r1 by omega)
        refine ⟨_, rfl, .inl ⟨_, rfl, _, rfl, _, _, rfl, rfl, (by show (0 : Int) < 1 + r1; omega), ?_⟩⟩
        generalize hb : (0 + ((i : Nat) : Int)) % (1 + r1) = b8 at m0 m1
        have n0 := Int.emod_nonneg (b8 + 1) (show (1 + r1 : Int) ≠ 0 by omega)
        have n1 := Int.emod_lt_of_pos (b8 + 1) (show (0 : Int) < 1 + r1 by omega)
        subst hb
        refine ⟨_, rfl, _, rfl, _, _, rfl, rfl, .inl ⟨_, rfl, _, rfl, _, _, rfl, rfl, (by show (0 : Int) < 1 + r1; omega), (by show 2 ≤ sizeLine; decide), fun w hw => ?_⟩⟩
        have s8 := Same.new (o := .tup [.int ((0 + ((i : Nat) : Int)) % (1 + r1)), .int (((0 + ((i : Nat) : Int)) % (1 + r1) + 1) % (1 + r1))]) hw
        have hp8 := hp7.same s8
        have hw8 : upd H7 w (.tup [.int ((0 + ((i : Nat) : Int)) % (1 + r1)), .int (((0 + ((i : Nat) : Int)) % (1 + r1) + 1) % (1 + r1))]) w = some (.tup [.int ((0 + ((i : Nat) : Int)) % (1 + r1)), .int (((0 + ((i : Nat) : Int)) % (1 + r1) + 1) % (1 + r1))]) := upd_same
        have L8 := L7.but (But.of s8) (Keep.of s8) fr
        have b8 := b57.trans (But.of s8)
        refine ⟨_, rfl, p, 3, rfl, hp8, by decide, small_of (by decide), fun r H9 r0 r3 hp9 b9 => ?_⟩
        have hw9 := hp8.keep b9 w _ rfl hw8
        refine ⟨_, _, rfl, rfl, .inr ⟨_, rfl, w, _, _, if 0 < r then .int (((0 + ((i : Nat) : Int)) % (1 + r1) + 1) % (1 + r1)) else .int ((0 + ((i : Nat) : Int)) % (1 + r1)), rfl, rfl, SqT.lt hw9, ?_, ?_⟩⟩
        · by_cases c : 0 < r
          · rw [if_pos c]
            show atI _ (if decide (0 < r) = true then (1 : Int) else 0) = _
            rw [if_pos (decide_eq_true c)]
            rfl
          · rw [if_neg c]
            show atI _ (if decide (0 < r) = true then (1 : Int) else 0) = _
            rw [if_neg (by simp [c])]
            rfl
        · by_cases c : 0 < r
          · rw [if_pos c]
            exact ⟨_, _, rfl, hp9, b8.trans b9, L8.but b9 (hp8.keep b9) fr, m0, m1, n0, n1⟩
          · rw [if_neg c]
            exact ⟨_, _, rfl, hp9, b8.trans b9, L8.but b9 (hp8.keep b9) fr, m0, m1, m0, m1⟩
      · rintro σ' H8 ⟨b, a, rfl, hp8, b8, L8, q0, q1, q2, q3⟩
        -- tries and points, by the kind
        have last : ∀ (t q : Int) (H9 : Hp), p.At H9 → But p.l H H9 → LTs K H9 D evs → 1 ≤ t → t ≤ 3 → -4 ≤ q → q ≤ 4 → ∀ v, v = [some (.ref p.a), some (.int ms), some (.int me), some (.int (1 + r1)), some (.int kind), some (.ref D), some (.int (0 + (i : Nat))), some (.int b), some (.int a), some (.int t), some (V.int q)] →
            ∀ z, H9 z = none → ∃ l xs y, V.ref D = .ref l ∧ [V.ref z] = [y] ∧ (upd H9 z (.tup [.int b, .int a, .int t, .int q])) l = some (.lst xs) ∧ xs.length < sizeLine ∧
              (p.At (upd (upd H9 z (.tup [.int b, .int a, .int t, .int q])) l (.lst (xs ++ [y]))) ∧ But p.l H (upd (upd H9 z (.tup [.int b, .int a, .int t, .int q])) l (.lst (xs ++ [y]))) ∧ ∃ (evs : List (List Int)) (u1 u2 u3 u4 u5 : Option V),
                v = [some (.ref p.a), some (.int ms), some (.int me), some (.int (1 + r1)), some (.int kind), some (.ref D), u1, u2, u3, u4, u5] ∧ LTs K (upd (upd H9 z (.tup [.int b, .int a, .int t, .int q])) l (.lst (xs ++ [y]))) D evs ∧ evs.length = i + 1 ∧ ∀ e ∈ evs, drawnEv (1 + r1) e) := by
          intro t q H9 hp9 b9 L9 t0 t1 p0 p1 v hv z hz
          obtain ⟨xs, hx, al⟩ := L9
          have sz := Same.new (o := .tup [.int b, .int a, .int t, .int q]) hz
          have lx := al.len
          refine ⟨D, xs, _, rfl, rfl, sz _ _ hx, ?_, ?_⟩
          · exact Nat.lt_of_lt_of_le (show xs.length < 2000 by omega) (by decide)
          · have kp := Keep.lst (o := .lst (xs ++ [.ref z])) (sz _ _ hx)
            refine ⟨(hp9.same sz).but (l := [D]) (But.at (by simp)) (by simp; exact fD.1.symm) (by simp; exact fD.2.1.symm) (by simp; exact fD.2.2.symm), (b9.trans (But.of sz)).chg hD0,
              evs ++ [[b, a, t, q]], _, _, _, _, _, hv, ⟨_, upd_same, (al.imp fun _ _ y => (y.keep (Keep.of sz)).keep kp).snoc ((IT.new (xs := [V.int b, V.int a, V.int t, V.int q]) rfl).keep kp)⟩, by rw [List.length_append, len]; rfl, fun e he => ?_⟩
            rcases List.mem_append.mp he with h1 | h1
            · exact all e h1
            · rw [List.mem_singleton.mp h1]
              exact ⟨b, a, t, q, rfl, q0, q1, q2, q3, t0, t1, p0, p1⟩
        refine ⟨_, rfl, rfl, _, rfl, ?_⟩
        by_cases c : kind = 1
        · have e : decide (V.int kind = V.int 1) = true := decide_eq_true (congrArg V.int c)
          rw [e]
          refine iteT ⟨_, rfl, rfl, _, rfl, ?_⟩
          rw [e]
          refine iteT ⟨_, rfl, p, 2, rfl, hp8, by decide, small_of (by decide), fun r H9 r0 r1' hp9 b9 => ?_⟩
          have L9 := L8.but b9 (hp8.keep b9) fr
          exact ⟨_, rfl, .inl ⟨rfl, _, SqL.lt L9.choose_spec.1⟩, _, rfl, _, rfl, _, rfl, _, rfl, (by show 4 ≤ sizeLine; decide), fun z hz => last 1 r H9 hp9 (b8.trans b9) L9 (by decide) (by decide) (by omega) (by omega) _ rfl z hz⟩
        · have e : decide (V.int kind = V.int 1) = false := decide_eq_false fun z => c (by injection z)
          rw [e]
          refine iteF ⟨_, rfl, p, 3, rfl, hp8, by decide, small_of (by decide), fun r H9 r0 r1' hp9 b9 => ⟨_, _, rfl, rfl, _, rfl, rfl, _, rfl, ?_⟩⟩
          rw [e]
          have L9 := L8.but b9 (hp8.keep b9) fr
          refine iteF ⟨_, rfl, p, 9, rfl, hp9, by decide, small_of (by decide), fun r' H10 r0' r9 hp10 b10 => ⟨_, _, rfl, rfl, ?_⟩⟩
          have L10 := L9.but b10 (hp9.keep b10) fr
          exact ⟨_, rfl, .inl ⟨rfl, _, SqL.lt L10.choose_spec.1⟩, _, rfl, _, rfl, _, rfl, _, rfl, (by show 4 ≤ sizeLine; decide), fun z hz => last (1 + r) (r' - 4) H10 hp10 ((b8.trans b9).trans b10) L10 (by omega) (by omega) (by omega) (by omega) _ rfl z hz⟩
    · rintro σ H5 ⟨hp5, b5, evs, u1, u2, u3, u4, u5, rfl, ⟨xs, hx, al⟩, len, all⟩
      refine ⟨_, rfl, _, rfl, D, _, rfl, .inl ⟨SqL.lt hx, fun w hw => ⟨(by show 2 ≤ sizeLine; decide), fun q hq => ?_⟩⟩⟩
      have s6 := Same.new (o := .tup xs) hw
      have s7 := Same.new (o := .tup [.int (1 + r1), .ref w]) hq
      refine k q _ (1 + r1) evs ((hp5.same s6).same s7) ((b5.trans (But.of s6)).trans (But.of s7)) ⟨q, _, rfl, SqT.lt upd_same, w, xs, rfl, SqT.lt (s7 _ _ upd_same), al.imp fun _ _ z => z.keep (Keep.of (s6.trans s7))⟩ (by omega) (by omega) (by omega) (by omega) all
theorem sumT_app (evs : List (List Int)) (r q : List Int) : sumT evs (r ++ q) = sumT evs r + sumT evs q := by unfold sumT; rw [List.map_append, List.sum_append]
theorem sumP_app (evs : List (List Int)) (r q : List Int) : sumP evs (r ++ q) = sumP evs r + sumP evs q := by unfold sumP; rw [List.map_append, List.sum_append]
theorem sumT_one (evs : List (List Int)) (k : Int) : sumT evs [k] = evT (evs.getD k.toNat []) := Int.add_zero _
theorem sumP_one (evs : List (List Int)) (k : Int) : sumP evs [k] = evP (evs.getD k.toNat []) := Int.add_zero _
def boardsTo (evs : List (List Int)) (run : List Int) (n : Nat) : List (List Int) := (List.range n).map fun i => [sumT evs (run.take (i + 1)), sumP evs (run.take (i + 1))]
def spBoards (K : PySem.W.Frag) (C : Addr) : Sp := fun vs H Q _ => ∃ (m v : V) (n : Int) (evs : List (List Int)) (run : List Int), vs = [m, v] ∧ MachAt K C H m n evs ∧ (∀ e ∈ evs, Four e) ∧ IT K H v run ∧ (walkTo evs 0 run).isSome = true ∧ InEv evs run ∧ run.length ≤ 1000 ∧
  ∀ (D : Addr) (H' : Hp), Same H H' → H D = none → LTs K H' D (boardsTo evs run run.length) → Q (.ref D) H'
/-- the share that a board shows -/
def shareOf (b : List Int) : List Int := [evA b / gcdI (evA b) (evB b), evB b / gcdI (evA b) (evB b)]
def spShares (K : PySem.W.Frag) (C : Addr) : Sp := fun vs H Q _ => ∃ (m v : V) (n : Int) (evs : List (List Int)) (run : List Int), vs = [m, v] ∧ MachAt K C H m n evs ∧ (∀ e ∈ evs, Four e) ∧ IT K H v run ∧ (walkTo evs 0 run).isSome = true ∧ InEv evs run ∧ run.length ≤ 1000 ∧
  (∀ e ∈ evs, 1 ≤ evT e ∧ evT e ≤ 1000) ∧
  ∀ (D : Addr) (H' : Hp), Same H H' → H D = none → LTs K H' D ((boardsTo evs run run.length).map shareOf) → Q (.ref D) H'
theorem sumT_bd {evs : List (List Int)} (h : ∀ e ∈ evs, 1 ≤ evT e ∧ evT e ≤ 1000) : ∀ {run : List Int}, InEv evs run → (run.length : Int) ≤ sumT evs run ∧ sumT evs run ≤ 1000 * run.length
  | [], _ => ⟨Int.le_refl _, Int.le_refl _⟩
  | k :: r, hin => by
    obtain ⟨h0, h1⟩ := hin k (by simp)
    have ih := sumT_bd h (run := r) fun y hy => hin y (by simp [hy])
    have hk : k.toNat < evs.length := by omega
    have he : evs.getD k.toNat [] ∈ evs := by rw [List.getD_eq_getElem?_getD, List.getElem?_eq_getElem hk]; exact List.getElem_mem hk
    obtain ⟨t0, t1⟩ := h _ he
    have e : sumT evs (k :: r) = evT (evs.getD k.toNat []) + sumT evs r := rfl
    rw [e, List.length_cons]
    omega

theorem walk_take {evs : List (List Int)} {run : List Int} (h : (walkTo evs 0 run).isSome = true) (n : Nat) : (walkTo evs 0 (run.take n)).isSome = true := by
  rw [← List.take_append_drop n run, walkTo_app] at h
  cases z : walkTo evs 0 (run.take n) with
  | none => rw [z] at h; cases h
  | some s => rfl
theorem sumP_bd {evs : List (List Int)} {B : Int} (hB : 0 ≤ B) (h : ∀ e ∈ evs, -B ≤ evP e ∧ evP e ≤ B) : ∀ {run : List Int}, InEv evs run → -(B * run.length) ≤ sumP evs run ∧ sumP evs run ≤ B * run.length
  | [], _ => by
    have e : B * (([] : List Int).length : Int) = 0 := by simp
    have e2 : sumP evs [] = 0 := rfl
    rw [e, e2]; exact ⟨by decide, by decide⟩
  | k :: r, hin => by
    obtain ⟨h0, h1⟩ := hin k (by simp)
    have ih := sumP_bd hB h (run := r) fun y hy => hin y (by simp [hy])
    have hk : k.toNat < evs.length := by omega
    have he : evs.getD k.toNat [] ∈ evs := by rw [List.getD_eq_getElem?_getD, List.getElem?_eq_getElem hk]; exact List.getElem_mem hk
    obtain ⟨t0, t1⟩ := h _ he
    have e : sumP evs (k :: r) = evP (evs.getD k.toNat []) + sumP evs r := rfl
    have e2 : B * (((k :: r).length : Nat) : Int) = B * (r.length : Int) + B := by rw [List.length_cons]; show B * ((r.length : Int) + 1) = _; rw [Int.mul_add, Int.mul_one]
    rw [e, e2]
    omega
theorem okEv.bT {n : Int} {e : List Int} (h : okEv n e) : 1 ≤ evT e ∧ evT e ≤ 1000 := by
  obtain ⟨b, a, t, p, rfl, _, _, _, _, h1, h2, _, _⟩ := h
  exact ⟨h1, by show t ≤ 1000; omega⟩
theorem okEv.bP {n : Int} {e : List Int} (h : okEv n e) : -400 ≤ evP e ∧ evP e ≤ 400 := by
  obtain ⟨b, a, t, p, rfl, _, _, _, _, _, _, h1, h2⟩ := h
  exact ⟨h1, h2⟩
/-- a slice of a tuple of ints from its begin on -/
theorem slTo {K : PySem.W.Frag} {q : Addr} {run : List Int} {i : Nat} {z : Int} {H : Hp} {P : Addr → Hp → Prop} (ez : z = (i : Int)) (h : SqT K H q (run.map V.int)) (k : ∀ v H', Same H H' → IT K H' (.ref v) (run.take i) → P v H') :
    ∃ a xs, V.ref q = .ref a ∧ SqT K H a xs ∧ (HT.sIx xs.length 0 none = 0 ∧ HT.sIx xs.length xs.length (some z) = xs.length → P a H) ∧
      (¬ (HT.sIx xs.length 0 none = 0 ∧ HT.sIx xs.length xs.length (some z) = xs.length) → ∀ p, H p = none → P p (upd H p (.tup (cutV xs none (some z))))) := by
  subst ez
  have cut : cutV (run.map V.int) none (some (i : Int)) = (run.take i).map V.int := by
    unfold cutV
    rw [HT.sIx_none, HT.sIx_nat, List.drop_zero, Nat.sub_zero, List.map_take, List.length_map]
    by_cases c : i ≤ run.length
    · rw [Nat.min_eq_left c]
    · rw [Nat.min_eq_right (by omega), List.take_of_length_le (by rw [List.length_map]; exact Nat.le_refl _), List.take_of_length_le (by rw [List.length_map]; omega)]
  refine ⟨q, _, rfl, h, fun e => ?_, fun _ p hp => ?_⟩
  · rw [HT.sIx_nat, List.length_map] at e
    have le : run.length ≤ i := by omega
    refine k q H (Same.refl H) ⟨q, rfl, ?_⟩
    rw [List.take_of_length_le le]
    exact h
  · rw [cut]
    exact k p _ (Same.new hp) (IT.new rfl)
theorem last_of {α : Type} {xs : List α} {n : Nat} {y : α} (h : xs.length = n + 1) (hy : xs[n]? = some y) : atI xs (-1) = some y := by
  unfold atI ixN
  rw [if_neg (by decide), if_pos (by omega)]
  have e : (-1 + ((xs.length : Nat) : Int)).toNat = n := by omega
  show xs[(-1 + ((xs.length : Nat) : Int)).toNat]? = some y
  rw [e]
  exact hy
theorem boardsTo_last {evs : List (List Int)} {run : List Int} {n : Nat} (h : run.length = n + 1) : (boardsTo evs run run.length)[n]? = some [sumT evs run, sumP evs run] := by
  unfold boardsTo
  rw [List.getElem?_map, List.getElem?_range (by omega)]
  show some [sumT evs (run.take (n + 1)), sumP evs (run.take (n + 1))] = _
  rw [List.take_of_length_le (by omega)]
def signI (n : Int) : Int := (if decide (0 < n) = true then 1 else 0) - (if decide (n < 0) = true then 1 else 0)
theorem sign_mul {g n : Int} (h : 0 < g) : signI (g * n) = signI n := by
  have h1 : (0 < g * n) ↔ (0 < n) := ⟨fun z => by
    by_cases c : 0 < n
    · exact c
    · exact absurd z (Int.not_lt.mpr (Int.mul_nonpos_of_nonneg_of_nonpos (Int.le_of_lt h) (by omega))), fun z => Int.mul_pos h z⟩
  have h2 : (g * n < 0) ↔ (n < 0) := ⟨fun z => by
    by_cases c : n < 0
    · exact c
    · exact absurd z (Int.not_lt.mpr (Int.mul_nonneg (Int.le_of_lt h) (by omega))), fun z => Int.mul_neg_of_pos_of_neg h z⟩
  unfold signI
  rw [decide_eq_decide.mpr h1, decide_eq_decide.mpr h2]
/-- the share that a board shows is below, at, above a / b as the value is below, at, above 0 -/
theorem sign_share {P T a b : Int} (hT : 0 < T) : signI (P / gcdI P T * b - a * (T / gcdI P T)) = signI (b * P - a * T) := by
  have g0 := gcdI_pos (p := P) hT
  have d1 : gcdI P T ∣ P := Int.ofNat_dvd_left.mpr (Nat.gcd_dvd_left _ _)
  have d2 : gcdI P T ∣ T := Int.ofNat_dvd_left.mpr (Nat.gcd_dvd_right _ _)
  have e1 := Int.mul_ediv_cancel' d1
  have e2 := Int.mul_ediv_cancel' d2
  rw [← sign_mul (n := P / gcdI P T * b - a * (T / gcdI P T)) g0]
  congr 1
  rw [Int.mul_sub, ← Int.mul_assoc, e1, ← Int.mul_assoc, Int.mul_comm (gcdI P T) a, Int.mul_assoc, e2, Int.mul_comm P b]
theorem low_bd {P T : Int} (hT : 0 < T) : (P / gcdI P T).natAbs ≤ P.natAbs ∧ 1 ≤ T / gcdI P T ∧ T / gcdI P T ≤ T := by
  obtain ⟨_, l2, l3⟩ := low_one (p := P) hT
  refine ⟨?_, l2, l3⟩
  have d1 : gcdI P T ∣ P := Int.ofNat_dvd_left.mpr (Nat.gcd_dvd_left _ _)
  rw [Int.natAbs_ediv_of_dvd d1]
  exact Nat.div_le_self _ _
theorem gcd_shift {a b k : Int} : gcdI (a + k * b) b = gcdI a b := by
  have e : ∀ x y : Int, gcdI x y = ((Int.gcd x y : Nat) : Int) := fun _ _ => rfl
  rw [e, e, Int.gcd_add_mul_right_left]
/-- so many points more for each try -/
def shiftE (k : Int) (e : List Int) : List Int := [evB e, evA e, evT e, evP e + k * evT e]
theorem getD_shift {k : Int} {evs : List (List Int)} {j : Int} (h0 : 0 ≤ j) (h1 : j < (evs.length : Int)) : (evs.map (shiftE k)).getD j.toNat [] = shiftE k (evs.getD j.toNat []) := by
  have hj : j.toNat < evs.length := by omega
  rw [List.getD_eq_getElem?_getD, List.getD_eq_getElem?_getD, List.getElem?_map, List.getElem?_eq_getElem hj]
  rfl
theorem walk_shift {k : Int} {evs : List (List Int)} : ∀ (run : List Int) (s : Int), InEv evs run → walkTo (evs.map (shiftE k)) s run = walkTo evs s run
  | [], s, _ => rfl
  | j :: r, s, hin => by
    obtain ⟨h0, h1⟩ := hin j (by simp)
    have ih := fun s => walk_shift (k := k) r s fun y hy => hin y (by simp [hy])
    show (if _ then walkTo _ _ r else none) = (if _ then walkTo _ _ r else none)
    rw [getD_shift h0 h1, List.length_map, ih]
    rfl
theorem sum_shift {k : Int} {evs : List (List Int)} : ∀ (run : List Int), InEv evs run → sumT (evs.map (shiftE k)) run = sumT evs run ∧ sumP (evs.map (shiftE k)) run = sumP evs run + k * sumT evs run
  | [], _ => ⟨rfl, by show (0 : Int) = 0 + k * 0; rw [Int.mul_zero]; rfl⟩
  | j :: r, hin => by
    obtain ⟨h0, h1⟩ := hin j (by simp)
    obtain ⟨i1, i2⟩ := sum_shift (k := k) r fun y hy => hin y (by simp [hy])
    have e1 : sumT (evs.map (shiftE k)) (j :: r) = evT ((evs.map (shiftE k)).getD j.toNat []) + sumT (evs.map (shiftE k)) r := rfl
    have e2 : sumP (evs.map (shiftE k)) (j :: r) = evP ((evs.map (shiftE k)).getD j.toNat []) + sumP (evs.map (shiftE k)) r := rfl
    have e3 : sumT evs (j :: r) = evT (evs.getD j.toNat []) + sumT evs r := rfl
    have e4 : sumP evs (j :: r) = evP (evs.getD j.toNat []) + sumP evs r := rfl
    rw [e1, e2, e3, e4, getD_shift h0 h1, i1, i2]
    refine ⟨rfl, ?_⟩
    show (evP (evs.getD j.toNat []) + k * evT (evs.getD j.toNat [])) + (sumP evs r + k * sumT evs r) = _
    rw [Int.mul_add]
    omega
theorem val_shift {a b k t p : Int} : b * (p + k * t) - (a + k * b) * t = b * p - a * t := by
  rw [Int.mul_add, Int.add_mul, Int.mul_assoc, Int.mul_left_comm b k t]
  omega
theorem all2_bl {as : List V} {bs : List Bool} (h : All2 (fun v b => v = .bl b) as bs) : as = bs.map V.bl := by
  induction h with
  | nil => rfl
  | cons e _ ih => rw [e, ih]; rfl
/-- points beyond 400 -/
def far (e : List Int) : Bool := decide ((400 : Int) < (if evP e < 0 then -evP e else evP e))
theorem shift_ok {n k : Int} {evs : List (List Int)} (ok : ∀ e ∈ evs, okEv n e) (h : ((evs.map (shiftE k)).map far).any id = false) : ∀ e ∈ evs.map (shiftE k), okEv n e := by
  intro e he
  obtain ⟨e0, h0, rfl⟩ := List.mem_map.mp he
  obtain ⟨b, a, t, p, rfl, h1, h2, h3, h4, h5, h6, h7, h8⟩ := ok e0 h0
  have nf : far (shiftE k [b, a, t, p]) = false := by
    have z := (List.any_eq_false.mp h) (far (shiftE k [b, a, t, p])) (List.mem_map.mpr ⟨_, he, rfl⟩)
    simpa using z
  have nf2 := of_decide_eq_false nf
  have ep : evP (shiftE k [b, a, t, p]) = p + k * t := rfl
  rw [ep] at nf2
  refine ⟨b, a, t, p + k * t, rfl, h1, h2, h3, h4, h5, h6, ?_, ?_⟩
  · split at nf2 <;> omega
  · split at nf2 <;> omega

end
end Myk05

namespace Myk05
open PySem L2 My EnT
-- Same from behind
local macro_rules | `(tactic| nest_cls) => `(tactic| first
  | exact Same.refl _
  | assumption
  | (refine Same.back (Same.new (by assumption)) ?_; nest_cls)
  | (refine Same.back (by assumption) ?_; nest_cls)
  | (refine Same.chg ?_ (by first | assumption | exact Free.flip (by assumption) (by nest_cls)); nest_cls))
-- Keep from behind
local macro_rules | `(tactic| mem_news) => `(tactic| first
  | exact Keep.refl _
  | assumption
  | (refine Keep.back (Keep.new (by assumption)) ?_; mem_news)
  | (refine Keep.back (Keep.lst (by assumption)) ?_; mem_news)
  | (refine Keep.back (Keep.lst (by kd_adr)) ?_; mem_news)
  | (refine Keep.back (Keep.of (by assumption)) ?_; mem_news)
  | (refine Keep.back (Keep.ofBut (by assumption) (by kba_ints)) ?_; mem_news)
  | (refine Keep.back (by assumption) ?_; mem_news))
-- the pot
local macro_rules | `(tactic| kba_ints) => `(tactic| first
  | assumption
  | (refine Pt.At.back (Same.new (by assumption)) ?_; kba_ints)
  | (refine Pt.At.back (by assumption) ?_; kba_ints)
  | exact Pt.At.flip (by assumption) (by nest_cls))
-- a fact of a heap, from behind
local macro_rules | `(tactic| kd_adr) => `(tactic| first
  | ((with_reducible show IT _ _ _ _); first
    | assumption
    | exact IT.new2
    | exact IT.new1
    | exact IT.new3
    | exact IT.new4
    | exact IT.flip (by assumption) (by mem_news)
    | exact IT.flip IT.new2 (by mem_news)
    | exact IT.flip IT.new3 (by mem_news)
    | exact IT.flip IT.new1 (by mem_news)
    | exact IT.flip IT.new4 (by mem_news))
  | ((with_reducible show ITs _ _ _ _); first
    | assumption
    | exact ITs.flip (by assumption) (by mem_news))
  | ((with_reducible show SqT _ _ _ _); first
    | assumption
    | exact SqT.lt upd_same
    | exact SqT.lt (by assumption)
    | exact IT.sq (by assumption)
    | exact SqT.flip (by assumption) (by mem_news)
    | exact SqT.flip (SqT.lt (by assumption)) (by mem_news)
    | exact SqT.flip (IT.sq (by assumption)) (by mem_news)
    | exact SqT.flip (SqT.lt upd_same) (by mem_news))
  | ((with_reducible show SqL _ _ _ _); first
    | assumption
    | exact SqL.lt upd_same
    | exact SqL.lt (by assumption)
    | exact SqL.flip (by assumption) (by nest_cls)
    | exact SqL.flip (SqL.lt (by assumption)) (by nest_cls)
    | exact SqL.flip (SqL.lt upd_same) (by nest_cls))
  | ((with_reducible show Parts _ _ _ _ _); first | assumption | exact Parts.flip (by assumption) (by mem_news))
  | ((with_reducible show MachAt _ _ _ _ _ _); first | assumption | exact MachAt.flip (by assumption) (by mem_news))
  | ((with_reducible show ShIs _ _ _ _ _); first | assumption | exact ShIs.flip (by assumption) (by mem_news))
  | ((with_reducible show RunIs _ _ _ _ _); first | assumption | exact RunIs.flip (by assumption) (by mem_news))
  | ((with_reducible show LTs _ _ _ _); first | assumption | exact LTs.flip (by assumption) (by nest_cls))
  | ((with_reducible show Pt.At _ _); kba_ints)
  | ((with_reducible show Same _ _); nest_cls)
  | ((with_reducible show Keep _ _); mem_news)
  | ((with_reducible show (_ : Hp) _ = some _); first
    | assumption
    | exact upd_same
    | exact At.flip (by assumption) (by nest_cls)
    | exact At.flip upd_same (by nest_cls)))
-- a side condition
local macro_rules | `(tactic| leaf_len) => `(tactic| first
  | (with_reducible rfl)
  | (with_reducible assumption)
  | kd_adr
  | omega
  | ((with_reducible show (_ : Nat) ≤ sizeLine); first | (show 1 ≤ sizeLine; decide) | (show 2 ≤ sizeLine; decide) | (show 3 ≤ sizeLine; decide) | (show 4 ≤ sizeLine; decide) | (show 5 ≤ sizeLine; decide) | (show 6 ≤ sizeLine; decide) | (show 7 ≤ sizeLine; decide) | (show 8 ≤ sizeLine; decide) | (show 0 ≤ sizeLine; decide))
  | exact rfl
  | ((with_reducible show _ ∨ _); first | exact Or.inl (by leaf_len) | exact Or.inr (by leaf_len))
  | exact List.cons_ne_nil _ _
  | exact mf_ev _ _
  | exact mf_st _ _
  | exact flat_ints _
  | ((with_reducible show tyV _ _ _ _); exact Or.inl ⟨rfl, _, by kd_adr⟩)
  | ((with_reducible show ClsV _ _); exact ClsV.ty _)
  | ((with_reducible show CDivW _ _); exact CDivW.of (by omega) (by omega))
  | (apply Exists.intro (α := List V); kd_adr)
  | assumption
  | ((with_reducible show small _); unfold small; omega)
  | ((with_reducible show CPow _ _); exact ⟨by decide, by decide, by decide⟩)
  | ((with_reducible show CMul _ _); first | exact CMul.l (by omega) (by omega) | exact CMul.r (by omega) (by omega))
  | ((with_reducible show CMulW _ _); exact CMulW.of (by omega) (by omega))
  | ((with_reducible show TyX _ _ _ _); first | exact TyX.base (.int _) | exact TyX.base (.str _) | exact TyX.base (.bl _) | exact tyT (by kd_adr) | exact TyX.base (.lst (by kd_adr)))
  | ((with_reducible show PySem.W.kitOne _ _ _ = some _); first | exact kit_ty (r := true) (by decide +kernel) | exact kit_ty (r := false) (by decide +kernel))
  | decide)
-- a step
local macro_rules | `(tactic| l_ints) => `(tactic| first
  | (intro (p : Addr) (hp : (_ : Hp) p = none))
  | (intro (H' : Hp) (s : Same _ H'))
  | (intro (p : Addr) (H' : Hp) (s : Same _ H'))
  | (intro (h : IT _ _ _ _))
  | (intro (h : SqT _ _ _ _))
  | (intro (h : (_ : Hp) _ = none))
  | (intro (h : (_ : Hp) _ = some _))
  | ((with_reducible show rCatA _ _ _ _ _); refine catJ (by kd_adr) (by kd_adr) (by leaf_len) ?_)
  | ((with_reducible show rSlA _ _ none (some _) _ _); refine slTake (by kd_adr) (by omega) ?_)
  | with_reducible refine tC_i ?_
  | with_reducible refine tNil_i ?_
  | with_reducible refine tCons_i ?_
  | with_reducible refine tCall_i ?_
  | with_reducible refine tOp_i ?_
  | ((with_reducible refine tVar_i ?_ ?_); · exact rfl)
  | with_reducible refine iteT ?_
  | with_reducible refine iteF ?_
  | (with_reducible refine iteNEq ?_ ?_; · assumption)
  | (with_reducible refine iteNb ?_ ?_; · assumption)
  | (with_reducible refine iteTb ?_ ?_; · assumption)
  | (with_reducible refine iteFb ?_ ?_; · assumption)
  | ((with_reducible refine iteFb ?_ ?_); · exact rfl)
  | ((with_reducible refine iteTb ?_ ?_); · exact rfl)
  | with_reducible refine iteST rfl ?_
  | with_reducible refine iteSF (by decide +kernel) ?_
  | (refine And.intro ?_ ?_; · leaf_len)
  | apply Exists.intro (α := V)
  | apply Exists.intro (α := Int)
  | apply Exists.intro (α := Addr)
  | apply Exists.intro (α := List V)
  | apply Exists.intro (α := Str)
  | apply Exists.intro (α := Nat)
  | apply Exists.intro (α := Bool)
  | apply Exists.intro (α := Value)
  | apply Exists.intro (α := List Int)
  | apply Exists.intro (α := List (List Int))
  | apply Exists.intro (α := List Bool)
  | apply Exists.intro (α := List (Str × V))
  | apply Exists.intro (α := Option (List (Option Int)))
  | apply Exists.intro (α := Option Int)
  | apply Exists.intro (α := Pt)
  | refine Or.inr ⟨_, rfl, ?_⟩
  | apply Or.inl)

section
variable {P : Program} {w : World} {K : PySem.W.Frag} {mg : Str → Option Value} {base : Heap} {A : Ad}
theorem hu1 {k : Nat} {A : Around} (hr : Room k A) : A.units + 1 < cLine := by have := hr.un; omega
theorem cr_set0W {X : Cx} (w' : World) (h : X.w = w') : CallR X (.type "set") (rSet0 w') := by subst h; exact cr_set0
theorem or_sinW {X : Cx} (w' : World) (h : X.w = w') : OpR X (compareOp .In) (rSIn w') := by subst h; exact or_sin
theorem pe_saddW {X : Cx} (w' : World) (h : X.w = w') {o e : Expr} {es : List Expr} {to : TE} {t : TA} {apos cpos : Pos} (ho : PE X o to) (ha : PA X (e :: es) t)
    (hbase : attributeBase o "add" X.env (eval o X.env) = eval o X.env := by rfl)
    (hfew : ((backTo cpos (starEach (e :: es) X.env)).all (fun x => !x.1) && (backToKw cpos (keywordEach [] X.env)).all (fun x => x.1.isSome)
      && decide ((e :: es).length + ([] : List Keyword).length + (if ([] : List Keyword).isEmpty then 0 else 1) < 30)) = true := by rfl)
    (hline : (apos.endLine == cpos.line) = true := by rfl) (hs : starEach (e :: es) X.env = (false, eval e X.env) :: starEach es X.env := by rfl) (hplain : (backTo cpos (starEach es X.env)).any (·.1) = false := by rfl) :
    PE X (.Call (.Attribute o "add" apos) (e :: es) [] cpos) (tSAdd w' to t) := by subst h; exact pe_sadd ho ha hbase hfew hline hs hplain
/-! ### the ways between standings -/
/-- lists of ints in a list, each an object of its own -/
def LL (H : Hp) (D : Addr) (nss : List (List Int)) : Prop := ∃ as : List Addr, H D = some (.lst (as.map V.ref)) ∧ as.Nodup ∧ D ∉ as ∧ All2 (fun a ns => H a = some (.lst (ns.map V.int))) as nss
theorem LL.same {H H' : Hp} {D : Addr} {nss : List (List Int)} (h : LL H D nss) (s : Same H H') : LL H' D nss := by
  obtain ⟨as, h1, h2, h3, h4⟩ := h
  exact ⟨as, s _ _ h1, h2, h3, h4.imp fun _ _ z => s _ _ z⟩
/-- where the events with an end lead, by their ends -/
def stepsOf (evs : List (List Int)) (s f : Nat) (j : Nat) : List Int := (evs.filter fun e => e.getD s 0 == (j : Int)).map fun e => e.getD f 0
def stepsAll (evs : List (List Int)) (s f n : Nat) : List (List Int) := (List.range n).map fun j => stepsOf evs s f j
theorem stepsOf_app (evs r : List (List Int)) (s f j : Nat) : stepsOf (evs ++ r) s f j = stepsOf evs s f j ++ stepsOf r s f j := by
  unfold stepsOf
  rw [List.filter_append, List.map_append]
theorem stepsOf_len (evs : List (List Int)) (s f j : Nat) : (stepsOf evs s f j).length ≤ evs.length := by
  unfold stepsOf
  rw [List.length_map]
  exact List.length_filter_le _ _
/-- two lists place by place, one place changed -/
theorem all2_upd {α β : Type} {R S : α → β → Prop} : ∀ {as : List α} {bs cs : List β} {i : Nat} {a : α}, as.Nodup → All2 R as bs → as[i]? = some a → bs.length = cs.length → (∀ b c, bs[i]? = some b → cs[i]? = some c → R a b → S a c) →
    (∀ j x b c, j ≠ i → as[j]? = some x → x ≠ a → bs[j]? = some b → cs[j]? = some c → R x b → S x c) → All2 S as cs
  | _, _, cs, i, a, nd, .nil, hi, hl, _, _ => by simp at hi
  | x :: as, b :: bs, c :: cs, 0, a, nd, .cons r t, hi, hl, h1, h2 => by
    have e : x = a := by simpa using hi
    subst e
    refine .cons (h1 b c rfl rfl r) ?_
    have nx : x ∉ as := (List.nodup_cons.mp nd).1
    have hl' : bs.length = cs.length := by simpa using hl
    clear hi hl h1 r nd
    -- all the others are as before
    suffices h : ∀ (k : Nat) (as : List α) (bs cs : List β), All2 R as bs → x ∉ as → bs.length = cs.length → (∀ j y b c, as[j]? = some y → y ≠ x → bs[j]? = some b → cs[j]? = some c → R y b → S y c) → All2 S as cs from
      h 0 as bs cs t nx hl' fun j y b' c' e1 ne e2 e3 r' => h2 (j + 1) y b' c' (by omega) (by simpa using e1) ne (by simpa using e2) (by simpa using e3) r'
    intro _ as bs cs t nx hl' h
    induction t generalizing cs with
    | nil =>
      cases cs with
      | nil => exact .nil
      | cons => simp at hl'
    | @cons y b as bs r t ih =>
      cases cs with
      | nil => simp at hl'
      | cons c cs =>
        have ny : y ≠ x := fun z => nx (by rw [z]; simp)
        exact .cons (h 0 y b c rfl ny rfl rfl r) (ih cs (fun z => nx (by simp [z])) (by simpa using hl') fun j y' b' c' e1 ne e2 e3 r' => h (j + 1) y' b' c' (by simpa using e1) ne (by simpa using e2) (by simpa using e3) r')
  | x :: as, b :: bs, c :: cs, i + 1, a, nd, .cons r t, hi, hl, h1, h2 => by
    have hi' : as[i]? = some a := by simpa using hi
    have nx : x ≠ a := fun z => (List.nodup_cons.mp nd).1 (by rw [z]; exact List.mem_of_getElem? hi')
    exact .cons (h2 0 x b c (by omega) rfl nx rfl rfl r) (all2_upd (List.nodup_cons.mp nd).2 t hi' (by simpa using hl) (fun b' c' e1 e2 r' => h1 b' c' (by simpa using e1) (by simpa using e2) r')
      fun j y b' c' ne e1 ny e2 e3 r' => h2 (j + 1) y b' c' (by omega) (by simpa using e1) ny (by simpa using e2) (by simpa using e3) r')
  | _ :: _, _ :: _, [], _, _, _, .cons _ _, _, hl, _, _ => by simp at hl
theorem all2_const {α β : Type} {R : α → β → Prop} {b : β} : ∀ {as : List α} {n : Nat} (g : Nat → β), (∀ j, g j = b) → as.length = n → (∀ a ∈ as, R a b) → All2 R as ((List.range n).map g) := by
  intro as n g hg hl h
  have e : (List.range n).map g = List.replicate n b := by
    rw [List.eq_replicate_iff]
    refine ⟨by simp, fun x hx => ?_⟩
    obtain ⟨j, _, rfl⟩ := List.mem_map.mp hx
    exact hg j
  rw [e, ← hl]
  clear e hl
  induction as with
  | nil => exact .nil
  | cons a as ih => exact .cons (h a (by simp)) (ih fun x hx => h x (by simp [hx]))
theorem stepsAll_at {evs : List (List Int)} {s f n j : Nat} {b : List Int} (h : (stepsAll evs s f n)[j]? = some b) : b = stepsOf evs s f j := by
  unfold stepsAll at h
  rw [List.getElem?_map] at h
  cases z : (List.range n)[j]? with
  | none => rw [z] at h; cases h
  | some k =>
    rw [z] at h
    obtain ⟨h1, h2⟩ := List.getElem?_eq_some_iff.mp z
    rw [List.getElem_range] at h2
    rw [h2]
    exact (Option.some.inj h).symm
theorem stepsOf_one {e : List Int} {s f j : Nat} : stepsOf [e] s f j = if (e.getD s 0 == (j : Int)) = true then [e.getD f 0] else [] := by
  unfold stepsOf
  rw [List.filter_cons, List.filter_nil]
  split <;> rfl
theorem stepsAll_len {evs : List (List Int)} {s f n : Nat} : (stepsAll evs s f n).length = n := by unfold stepsAll; simp
def spSteps (K : PySem.W.Frag) (C : Addr) : Sp := fun vs H Q _ => ∃ (m : V) (n : Int) (evs : List (List Int)) (s f : Nat), vs = [m, .int s, .int f] ∧ MachAt K C H m n evs ∧ 0 ≤ n ∧ n ≤ 1000 ∧ evs.length ≤ 1000 ∧ s < 2 ∧ f < 2 ∧ (∀ e ∈ evs, okEv n e) ∧
  ∀ (D : Addr) (H' : Hp), Same H H' → H D = none → LL H' D (stepsAll evs s f n.toNat) → Q (.ref D) H'
theorem okAt {n : Int} {e : List Int} (h : okEv n e) {s : Nat} (hs : s < 2) : ∃ x, e[s]? = some x ∧ e.getD s 0 = x ∧ 0 ≤ x ∧ x < n := by
  obtain ⟨b, a, t, p, rfl, b0, b1, a0, a1, _⟩ := h
  match s, hs with
  | 0, _ => exact ⟨b, rfl, rfl, b0, b1⟩
  | 1, _ => exact ⟨a, rfl, rfl, a0, a1⟩

theorem sc_steps : FnScope ["machine", "side", "far_side", "_", "steps", "event"] ["machine", "side", "far_side"] (defScope s_steps) := ⟨rfl, rfl, rfl, by decide +kernel, rfl, by decide +kernel, by decide +kernel⟩
theorem ok_steps (T : Txt K mg A) : FnOk P w K mg base CX0 1 A.f_steps A.d_steps ["machine", "side", "far_side"] (spSteps K A.C_Machine) := by
  refine T.F_steps.ok sc_steps (fun vs H Q E h => ?_) (fun cdv A1 outer s H vs Q E hr h => ?_)
  · obtain ⟨m, n, evs, s, f, rfl, _⟩ := h
    rfl
  · obtain ⟨m, n, evs, sd, f, rfl, hM, n0, n1, hl, s2', f2, oks, k⟩ := h
    refine ⟨_, (pss_cons (ps_setLc (i := 4) (own := [("_", 3)]) rfl sc_steps.nd rfl rfl (sw_true rfl rfl rfl (by decide +kernel)) (pi_range1 rfl T.z_range (pa_cons (pe_fldK K rfl (pv 0) (by rfl)) pa_nil)) (blkOk_by (N := ["machine", "side", "far_side", "_", "steps", "event"]) (sc := defScope s_steps) (by decide +kernel)) (fun _ _ _ _ _ => by exact (pg_name (i := 3) sc_steps.nd rfl (Or.inl rfl))) (fun _ _ _ _ _ => by exact pts_nil) (fun _ _ _ _ _ => by exact (pe_lst pa_nil)))
      (pss_cons (ps_for PassesOwn.never rfl (pi_tup (pe_fldK K rfl (pv 0) (by rfl))) (pg_name (i := 5) sc_steps.nd rfl (Or.inl rfl))
        (pss_one (ps_expr (pe_bm PySem.F.plainAttrs_list PySem.F.slot_list_append PySem.F.type_list_append mt_append (pe_ix (ix_listK K rfl) (pv 4) (pe_ix (ix_tupK K rfl) (pv 5) (pv 1) (fun _ _ => rfl)) (fun _ _ => rfl)) (pa_cons (pe_ix (ix_tupK K rfl) (pv 5) (pv 2) (fun _ _ => rfl)) pa_nil)))))
      (pss_one (ps_ret (pv 4))))), ?_⟩
    refine ⟨_, rfl, fldS hM T.cl_Machine T.n_standings ⟨_, rfl, by omega, by omega, fun D hD => ?_⟩⟩
    refine lc_range (lo := 0) (n := n.toNat) (fun i H' => Same H H' ∧ ∃ as : List Addr, H' D = some (.lst (as.map V.ref)) ∧ as.length = i ∧ as.Nodup ∧ ∀ a ∈ as, H' a = some (.lst []) ∧ H a = none ∧ a ≠ D) ⟨Same.new hD, [], upd_same, rfl, List.nodup_nil, fun _ h => by cases h⟩ ?_ ?_
    · rintro i H1 hi ⟨s1, as, hA, la, nd, all⟩
      refine ⟨rfl, Nat.zero_le _, fun z hz => ?_⟩
      have sz := Same.new (o := .lst []) hz
      have zD : z ≠ D := fun e => by rw [e, hA] at hz; cases hz
      have zn : H z = none := s1.free hz
      refine ⟨_, sz _ _ hA, by rw [List.length_map]; exact Nat.lt_of_lt_of_le (show as.length < 1001 by omega) (by decide), Same.chg (s1.trans sz) hD, as ++ [z], by rw [upd_same, List.map_append]; rfl, by rw [List.length_append, la]; rfl, ?_, fun a ha => ?_⟩
      · rw [List.nodup_append]
        refine ⟨nd, by simp, fun a ha b hb => ?_⟩
        have e : b = z := by simpa using hb
        rw [e]
        intro e2
        rw [e2] at ha
        rw [(all z ha).1] at hz
        cases hz
      · rcases List.mem_append.mp ha with ha | ha
        · obtain ⟨h1, h2, h3⟩ := all a ha
          exact ⟨by rw [upd_ne h3]; exact sz _ _ h1, h2, h3⟩
        · have e : a = z := by simpa using ha
          rw [e]
          exact ⟨by rw [upd_ne zD]; exact upd_same, zn, zD⟩
    · rintro H1 ⟨s1, as, hA, la, nd, all⟩
      have hM1 := hM.keep (Keep.of s1)
      refine ⟨_, rfl, fldE hM1 T.cl_Machine T.n_events fun w hw => ?_⟩
      obtain ⟨x, xs, rfl, hx, al⟩ := hw
      refine ⟨x, rfl, ⟨_, hx⟩, ?_⟩
      have hx0 : ∀ H', Keep H1 H' → SqT K H' x xs := fun H' kp => SqT.keep kp hx
      refine for_tup (K := K) (a := x) (xs := xs) (fun i σ H' => Same H H' ∧ Keep H1 H' ∧ (∃ u, σ = [some m, some (.int sd), some (.int f), none, some (.ref D), u]) ∧ H' D = some (.lst (as.map V.ref)) ∧ All2 (fun a ns => H' a = some (.lst (ns.map V.int))) as (stepsAll (evs.take i) sd f n.toNat))
        ⟨s1, Keep.refl _, ⟨_, rfl⟩, hA, ?_⟩ (fun i σ H' _ z => hx0 _ z.2.1) ?_ ?_
      · exact all2_const _ (fun j => rfl) la fun a ha => (all a ha).1
      · rintro i y σ H2 hi ⟨s2, k2, ⟨u, rfl⟩, hD2, al2⟩
        obtain ⟨e, he, hI⟩ := al.getL hi
        have hy := hI.keep k2
        obtain ⟨x1, x1e, x1d, x10, x11⟩ := okAt (oks e (List.mem_of_getElem? he)) s2'
        obtain ⟨x2, x2e, x2d, _, _⟩ := okAt (oks e (List.mem_of_getElem? he)) f2
        have xl : x1.toNat < as.length := by omega
        have hax := List.getElem?_eq_getElem xl
        have ham := List.getElem_mem xl
        generalize as[x1.toNat] = a at hax ham
        obtain ⟨_, ha2, ha3⟩ := all a ham
        obtain ⟨b, hb, haL⟩ := al2.getL hax
        have eb := stepsAll_at hb
        have lb := stepsOf_len (evs.take i) sd f x1.toNat
        have lti := List.length_take_le i evs
        have ltj : (evs.take i).length ≤ evs.length := by rw [List.length_take]; omega
        refine ⟨_, rfl, _, rfl, _, rfl, ixI hy (by omega) (by rw [Int.toNat_natCast]; exact x1e) ⟨D, _, x1, .ref a, rfl, rfl, SqL.lt hD2, at_ge x10 (by rw [List.getElem?_map, hax]; rfl), .inl ⟨rfl, _, SqL.lt haL⟩, _, rfl, _, rfl, ixI hy (by omega) (by rw [Int.toNat_natCast]; exact x2e) ⟨a, _, _, rfl, rfl, haL, ?_, ?_⟩⟩⟩
        · rw [List.length_map, eb]
          exact Nat.lt_of_lt_of_le (show (stepsOf (evs.take i) sd f x1.toNat).length < 1001 by omega) (by decide)
        · refine ⟨Same.chg s2 ha2, k2.trans (Keep.lst haL), ⟨_, rfl⟩, by rw [upd_ne ha3.symm]; exact hD2, ?_⟩
          have tk := take_succ he
          refine all2_upd (R := fun a ns => H2 a = some (.lst (ns.map V.int))) nd al2 hax (by rw [stepsAll_len, stepsAll_len]) (fun b' c' e1 e2 r' => ?_) (fun j x' b' c' nj e1 nx e2 e3 r' => ?_)
          · have eb' := stepsAll_at e1
            have ec' := stepsAll_at e2
            rw [tk, stepsOf_app, ← eb'] at ec'
            have e3 : stepsOf [e] sd f x1.toNat = [x2] := by
              have t : (e.getD sd 0 == ((x1.toNat : Nat) : Int)) = true := by rw [x1d]; simp; omega
              rw [stepsOf_one, if_pos t, x2d]
            rw [upd_same, ec', e3, List.map_append]
            rw [hb] at e1
            have e4 : b = b' := Option.some.inj e1
            rw [e4]
            rfl
          · have eb' := stepsAll_at e2
            have ec' := stepsAll_at e3
            rw [tk, stepsOf_app, ← eb'] at ec'
            have e4 : stepsOf [e] sd f j = [] := by
              have t : ¬ (e.getD sd 0 == ((j : Nat) : Int)) = true := by rw [x1d]; simp; omega
              rw [stepsOf_one, if_neg t]
            rw [upd_ne nx, ec', e4, List.append_nil]
            exact r'
      · rintro σ H2 ⟨s2, k2, ⟨u, rfl⟩, hD2, al2⟩
        rw [al.len, List.take_length] at al2
        exact ⟨_, rfl, k D H2 s2 hD ⟨as, hD2, nd, fun z => (all D z).2.2 rfl, al2⟩⟩
end
end Myk05

namespace Myk05
open PySem L2 My EnT
-- Same from behind
local macro_rules | `(tactic| nest_cls) => `(tactic| first
  | exact Same.refl _
  | assumption
  | (refine Same.back (Same.new (by assumption)) ?_; nest_cls)
  | (refine Same.back (by assumption) ?_; nest_cls)
  | (refine Same.chg ?_ (by first | assumption | exact Free.flip (by assumption) (by nest_cls)); nest_cls))
-- Keep from behind
local macro_rules | `(tactic| mem_news) => `(tactic| first
  | exact Keep.refl _
  | assumption
  | (refine Keep.back (Keep.new (by assumption)) ?_; mem_news)
  | (refine Keep.back (Keep.lst (by assumption)) ?_; mem_news)
  | (refine Keep.back (Keep.lst (by kd_adr)) ?_; mem_news)
  | (refine Keep.back (Keep.of (by assumption)) ?_; mem_news)
  | (refine Keep.back (Keep.ofBut (by assumption) (by kba_ints)) ?_; mem_news)
  | (refine Keep.back (by assumption) ?_; mem_news))
-- the pot
local macro_rules | `(tactic| kba_ints) => `(tactic| first
  | assumption
  | (refine Pt.At.back (Same.new (by assumption)) ?_; kba_ints)
  | (refine Pt.At.back (by assumption) ?_; kba_ints)
  | exact Pt.At.flip (by assumption) (by nest_cls))
-- a fact of a heap, from behind
local macro_rules | `(tactic| kd_adr) => `(tactic| first
  | ((with_reducible show IT _ _ _ _); first
    | assumption
    | exact IT.new2
    | exact IT.new1
    | exact IT.new3
    | exact IT.new4
    | exact IT.flip (by assumption) (by mem_news)
    | exact IT.flip IT.new2 (by mem_news)
    | exact IT.flip IT.new3 (by mem_news)
    | exact IT.flip IT.new1 (by mem_news)
    | exact IT.flip IT.new4 (by mem_news))
  | ((with_reducible show ITs _ _ _ _); first
    | assumption
    | exact ITs.flip (by assumption) (by mem_news))
  | ((with_reducible show SqT _ _ _ _); first
    | assumption
    | exact SqT.lt upd_same
    | exact SqT.lt (by assumption)
    | exact IT.sq (by assumption)
    | exact SqT.flip (by assumption) (by mem_news)
    | exact SqT.flip (SqT.lt (by assumption)) (by mem_news)
    | exact SqT.flip (IT.sq (by assumption)) (by mem_news)
    | exact SqT.flip (SqT.lt upd_same) (by mem_news))
  | ((with_reducible show SqL _ _ _ _); first
    | assumption
    | exact SqL.lt upd_same
    | exact SqL.lt (by assumption)
    | exact SqL.flip (by assumption) (by nest_cls)
    | exact SqL.flip (SqL.lt (by assumption)) (by nest_cls)
    | exact SqL.flip (SqL.lt upd_same) (by nest_cls))
  | ((with_reducible show Parts _ _ _ _ _); first | assumption | exact Parts.flip (by assumption) (by mem_news))
  | ((with_reducible show MachAt _ _ _ _ _ _); first | assumption | exact MachAt.flip (by assumption) (by mem_news))
  | ((with_reducible show ShIs _ _ _ _ _); first | assumption | exact ShIs.flip (by assumption) (by mem_news))
  | ((with_reducible show RunIs _ _ _ _ _); first | assumption | exact RunIs.flip (by assumption) (by mem_news))
  | ((with_reducible show LTs _ _ _ _); first | assumption | exact LTs.flip (by assumption) (by nest_cls))
  | ((with_reducible show Pt.At _ _); kba_ints)
  | ((with_reducible show Same _ _); nest_cls)
  | ((with_reducible show Keep _ _); mem_news)
  | ((with_reducible show (_ : Hp) _ = some _); first
    | assumption
    | exact upd_same
    | exact At.flip (by assumption) (by nest_cls)
    | exact At.flip upd_same (by nest_cls)))
-- a side condition
local macro_rules | `(tactic| leaf_len) => `(tactic| first
  | (with_reducible rfl)
  | (with_reducible assumption)
  | kd_adr
  | omega
  | ((with_reducible show (_ : Nat) ≤ sizeLine); first | (show 1 ≤ sizeLine; decide) | (show 2 ≤ sizeLine; decide) | (show 3 ≤ sizeLine; decide) | (show 4 ≤ sizeLine; decide) | (show 5 ≤ sizeLine; decide) | (show 6 ≤ sizeLine; decide) | (show 7 ≤ sizeLine; decide) | (show 8 ≤ sizeLine; decide) | (show 0 ≤ sizeLine; decide))
  | exact rfl
  | ((with_reducible show _ ∨ _); first | exact Or.inl (by leaf_len) | exact Or.inr (by leaf_len))
  | exact List.cons_ne_nil _ _
  | exact mf_ev _ _
  | exact mf_st _ _
  | exact flat_ints _
  | ((with_reducible show tyV _ _ _ _); exact Or.inl ⟨rfl, _, by kd_adr⟩)
  | ((with_reducible show ClsV _ _); exact ClsV.ty _)
  | ((with_reducible show CDivW _ _); exact CDivW.of (by omega) (by omega))
  | (apply Exists.intro (α := List V); kd_adr)
  | assumption
  | ((with_reducible show small _); unfold small; omega)
  | ((with_reducible show CPow _ _); exact ⟨by decide, by decide, by decide⟩)
  | ((with_reducible show CMul _ _); first | exact CMul.l (by omega) (by omega) | exact CMul.r (by omega) (by omega))
  | ((with_reducible show CMulW _ _); exact CMulW.of (by omega) (by omega))
  | ((with_reducible show TyX _ _ _ _); first | exact TyX.base (.int _) | exact TyX.base (.str _) | exact TyX.base (.bl _) | exact tyT (by kd_adr) | exact TyX.base (.lst (by kd_adr)))
  | ((with_reducible show PySem.W.kitOne _ _ _ = some _); first | exact kit_ty (r := true) (by decide +kernel) | exact kit_ty (r := false) (by decide +kernel))
  | decide)
-- a step
local macro_rules | `(tactic| l_ints) => `(tactic| first
  | (intro (p : Addr) (hp : (_ : Hp) p = none))
  | (intro (H' : Hp) (s : Same _ H'))
  | (intro (p : Addr) (H' : Hp) (s : Same _ H'))
  | (intro (h : IT _ _ _ _))
  | (intro (h : SqT _ _ _ _))
  | (intro (h : (_ : Hp) _ = none))
  | (intro (h : (_ : Hp) _ = some _))
  | ((with_reducible show rCatA _ _ _ _ _); refine catJ (by kd_adr) (by kd_adr) (by leaf_len) ?_)
  | ((with_reducible show rSlA _ _ none (some _) _ _); refine slTake (by kd_adr) (by omega) ?_)
  | with_reducible refine tC_i ?_
  | with_reducible refine tNil_i ?_
  | with_reducible refine tCons_i ?_
  | with_reducible refine tCall_i ?_
  | with_reducible refine tOp_i ?_
  | ((with_reducible refine tVar_i ?_ ?_); · exact rfl)
  | with_reducible refine iteT ?_
  | with_reducible refine iteF ?_
  | (with_reducible refine iteNEq ?_ ?_; · assumption)
  | (with_reducible refine iteNb ?_ ?_; · assumption)
  | (with_reducible refine iteTb ?_ ?_; · assumption)
  | (with_reducible refine iteFb ?_ ?_; · assumption)
  | ((with_reducible refine iteFb ?_ ?_); · exact rfl)
  | ((with_reducible refine iteTb ?_ ?_); · exact rfl)
  | with_reducible refine iteST rfl ?_
  | with_reducible refine iteSF (by decide +kernel) ?_
  | (refine And.intro ?_ ?_; · leaf_len)
  | apply Exists.intro (α := V)
  | apply Exists.intro (α := Int)
  | apply Exists.intro (α := Addr)
  | apply Exists.intro (α := List V)
  | apply Exists.intro (α := Str)
  | apply Exists.intro (α := Nat)
  | apply Exists.intro (α := Bool)
  | apply Exists.intro (α := Value)
  | apply Exists.intro (α := List Int)
  | apply Exists.intro (α := List (List Int))
  | apply Exists.intro (α := List Bool)
  | apply Exists.intro (α := List (Str × V))
  | apply Exists.intro (α := Option (List (Option Int)))
  | apply Exists.intro (α := Option Int)
  | apply Exists.intro (α := Pt)
  | refine Or.inr ⟨_, rfl, ?_⟩
  | apply Or.inl)

section
variable {P : Program} {w : World} {K : PySem.W.Frag} {mg : Str → Option Value} {base : Heap} {A : Ad}
theorem nodup_le : ∀ (n : Nat) (l : List Int), l.Nodup → (∀ x ∈ l, 0 ≤ x ∧ x < (n : Int)) → l.length ≤ n
  | 0, l, _, h => by
    cases l with
    | nil => exact Nat.le_refl _
    | cons a t =>
      obtain ⟨h1, h2⟩ := h a (by simp)
      omega
  | n + 1, l, nd, h => by
    have ih := nodup_le n (l.erase (n : Int)) (nd.erase _) fun x hx => by
      obtain ⟨h1, h2⟩ := (nd.mem_erase_iff).mp hx
      obtain ⟨h3, h4⟩ := h x h2
      exact ⟨h3, by omega⟩
    have := List.length_erase (a := (n : Int)) (l := l)
    split at this <;> omega
/-- what is reached over the ways from a standing -/
inductive Rch (nss : List (List Int)) (s : Int) : Int → Prop
  | refl : Rch nss s s
  | step {k x : Int} : Rch nss s k → x ∈ nss.getD k.toNat [] → Rch nss s x
def dTr (ks : List Int) : List (Key × V) := ks.map fun k => (Sum.inl k, .bl true)
theorem dTr_has (x : Int) : ∀ ks : List Int, (valV (dTr ks) (Sum.inl x)).isSome = decide (x ∈ ks)
  | [] => by simp [dTr, valV]
  | k :: ks => by
    have ih := dTr_has x ks
    rw [← valV_any] at ih ⊢
    unfold dTr at ih ⊢
    rw [List.map_cons, List.any_cons, ih]
    by_cases c : x = k
    · subst c; simp
    · have c1 : ¬ (Sum.inl k : Key) = Sum.inl x := fun z => c (Sum.inl.inj z).symm
      simp [c, c1]
theorem dTr_put {x : Int} {ks : List Int} (h : x ∉ ks) : putK (dTr ks) (Sum.inl x) (.bl true) = dTr (ks ++ [x]) := by
  unfold putK
  rw [valV_any, dTr_has, decide_eq_false h, if_neg (by decide)]
  unfold dTr
  rw [List.map_append]
  rfl
theorem dTr_keys (ks : List Int) : (dTr ks).map (·.1) = ks.map Sum.inl := by
  unfold dTr
  rw [List.map_map]
  rfl
def lenO : Option HO → Nat
  | some (.dK kvs) => kvs.length
  | some (.lst xs) => xs.length
  | _ => 0
def spSpread : Sp := fun vs H Q _ => ∃ (S : Addr) (st : Int) (nss : List (List Int)), vs = [.ref S, .int st] ∧ LL H S nss ∧ 0 ≤ st ∧ st < (nss.length : Int) ∧ nss.length ≤ 1000 ∧ (∀ ns ∈ nss, ns.length ≤ 1000 ∧ ∀ x ∈ ns, 0 ≤ x ∧ x < (nss.length : Int)) ∧
  ∀ (F : Addr) (H' : Hp) (ks : List Int), Same H H' → H F = none → H' F = some (.dK (dTr ks)) → ks.Nodup → (∀ k, k ∈ ks ↔ Rch nss st k) → ks.length ≤ nss.length → Q (.ref F) H'
/-- what the walk over the ways keeps: known ones, waiting ones -/
structure Spr (nss : List (List Int)) (st : Int) (ks ws : List Int) : Prop where
  nd : ks.Nodup
  in_ : ∀ k ∈ ks, 0 ≤ k ∧ k < (nss.length : Int)
  rc : ∀ k ∈ ks, Rch nss st k
  st_ : st ∈ ks
  sub : ∀ k ∈ ws, k ∈ ks
theorem Spr.len {nss : List (List Int)} {st : Int} {ks ws : List Int} (h : Spr nss st ks ws) : ks.length ≤ nss.length := nodup_le _ _ h.nd h.in_
theorem Rch.all {nss : List (List Int)} {st : Int} {ks : List Int} (h0 : st ∈ ks) (hc : ∀ k ∈ ks, ∀ x ∈ nss.getD k.toNat [], x ∈ ks) : ∀ {k : Int}, Rch nss st k → k ∈ ks := by
  intro k r
  induction r with
  | refl => exact h0
  | step _ hx ih => exact hc _ ih _ hx

theorem sc_spread : FnScope ["steps", "start", "found", "waiting", "here", "standing"] ["steps", "start"] (defScope s_spread) := ⟨rfl, rfl, rfl, by decide +kernel, rfl, by decide +kernel, by decide +kernel⟩
theorem ok_spread (T : Txt K mg A) : FnOk P w K mg base CX0 1 A.f_spread A.d_spread ["steps", "start"] (spSpread) := by
  refine T.F_spread.ok sc_spread (fun vs H Q E h => ?_) (fun cdv A1 outer s H vs Q E hr h => ?_)
  · obtain ⟨S, st, nss, rfl, _⟩ := h
    rfl
  · obtain ⟨S, st, nss, rfl, hL, st0, st1, ln, hns, k⟩ := h
    obtain ⟨as, hS, _, _, al⟩ := hL
    refine ⟨_, (pss_cons (ps_set (i := 2) sc_spread.nd rfl (Or.inl rfl) (pe_disp (pps_cons (pv 1) pe_bl pps_nil) (by rfl) (by rfl) (fun z => by cases z) (by decide)))
      (pss_cons (ps_set (i := 3) sc_spread.nd rfl (Or.inl rfl) (pe_lst (pa_cons (pv 1) pa_nil)))
      (pss_cons (ps_while PassesOwn.never (pt_truth (pv 3) (by intro _; rfl)) (pss_cons (ps_set (i := 4) sc_spread.nd rfl (Or.inl rfl) (pe_bm0 PySem.F.plainAttrs_list PySem.F.slot_list_pop PySem.F.type_list_pop mt_pop (pv 3)))
      (pss_one (ps_for PassesOwn.never rfl (pi_list (pe_ix (ix_listK K rfl) (pv 0) (pv 4) (fun _ _ => rfl))) (pg_name (i := 5) sc_spread.nd rfl (Or.inl rfl))
        (pss_one (ps_if (pt_cmp (pc_dnotin (hu1 hr) (pv 5) (pv 2))) (pss_cons (ps_dput (hu1 hr) (pv 2) (pv 5) pe_bl rfl)
      (pss_one (ps_expr (pe_bm PySem.F.plainAttrs_list PySem.F.slot_list_append PySem.F.type_list_append mt_append (pv 3) (pa_cons (pv 5) pa_nil))))) pss_nil))))))
      (pss_one (ps_ret (pv 2)))))), ?_⟩
    refine fun F hF => ⟨_, rfl, upd_same, [(Sum.inl st, .bl true)], rfl, (by show 1 ≤ 15; decide), ?_⟩
    have e0 : mergeK [] [(Sum.inl st, V.bl true)] = dTr [st] := rfl
    rw [e0, upd_upd]
    have sF := Same.new (o := .dK (dTr [st])) hF
    have hFF := upd_same (H := H) (a := F) (o := .dK (dTr [st]))
    refine ⟨_, rfl, (by show 1 ≤ sizeLine; decide), fun W hW => ?_⟩
    have nFW : F ≠ W := ne_of_none hFF hW
    have sW := Same.new (o := .lst [.int st]) hW
    have hW0 : H W = none := sF.free hW
    dsimp only [gName, tSeq]
    refine while_by (fun σ H' => Same H H' ∧ ∃ (ks ws : List Int) (u4 u5 : Option V), σ = [some (.ref S), some (.int st), some (.ref F), some (.ref W), u4, u5] ∧ H' F = some (.dK (dTr ks)) ∧ H' W = some (.lst (ws.map V.int)) ∧ Spr nss st ks ws ∧ (∀ k ∈ ks, k ∉ ws → ∀ x ∈ nss.getD k.toNat [], x ∈ ks) ∧ ws.length ≤ ks.length)
      (fun _ H' => 2 * nss.length - 2 * lenO (H' F) + lenO (H' W)) ⟨sF.trans sW, [st], [st], none, none, rfl, sW _ _ hFF, upd_same, ⟨by simp, fun k hk => ?_, fun k hk => ?_, by simp, fun k hk => hk⟩, (fun k hk nk => absurd hk nk), Nat.le_refl _⟩ ?_ ?_
    · have e : k = st := by simpa using hk
      rw [e]; exact ⟨st0, st1⟩
    · have e : k = st := by simpa using hk
      rw [e]; exact .refl
    · rintro σ H1 ⟨s1, ks, ws, u4, u5, rfl, hF1, hW1, sp, cl, lws⟩
      refine ⟨_, rfl, !(ws.map V.int).isEmpty, .inl ⟨_, SqL.lt hW1, rfl⟩, ?_⟩
      rcases List.eq_nil_or_concat ws with e | ⟨ws', hr, e⟩
      · subst e
        refine iteF ⟨_, rfl, k F H1 ks s1 hF hF1 sp.nd (fun x => ⟨sp.rc x, fun r => r.all sp.st_ fun y hy => cl y hy (by simp)⟩) sp.len⟩
      · have e' : ws = ws' ++ [hr] := by simpa using e
        subst e'
        have em : (!(List.map V.int (ws' ++ [hr])).isEmpty) = true := by simp
        rw [em]
        refine iteT ⟨_, rfl, .inl ⟨rfl, _, SqL.lt hW1⟩, W, _, .int hr, rfl, rfl, hW1, ?_, ?_⟩
        · rw [List.length_map, List.length_append, List.map_append]
          simp
        have dl : (List.map V.int (ws' ++ [hr])).dropLast = ws'.map V.int := by rw [List.map_append]; simp
        rw [dl]
        have s2 := Same.chg (o := .lst (ws'.map V.int)) s1 hW0
        have hF2 : upd H1 W (.lst (ws'.map V.int)) F = some (.dK (dTr ks)) := by rw [upd_ne nFW]; exact hF1
        have hW2 := upd_same (H := H1) (a := W) (o := .lst (ws'.map V.int))
        have lw : lenO (H1 W) = ws'.length + 1 := by rw [hW1]; show (List.map V.int (ws' ++ [hr])).length = _; simp
        have lf : lenO (H1 F) = ks.length := by rw [hF1]; show (dTr ks).length = _; simp [dTr]
        generalize upd H1 W (.lst (ws'.map V.int)) = H2 at s2 hF2 hW2 ⊢
        have hin := sp.in_ hr (sp.sub hr (by simp))
        have hlt : hr.toNat < nss.length := by omega
        obtain ⟨a, ha, hA⟩ := al.get (List.getElem?_eq_getElem hlt)
        have hd : nss.getD hr.toNat [] = nss[hr.toNat] := by rw [List.getD_eq_getElem?_getD, List.getElem?_eq_getElem hlt]; rfl
        obtain ⟨nl, nx⟩ := hns _ (List.getElem_mem hlt)
        rw [← hd] at hA nl nx
        generalize hnx : nss.getD hr.toNat [] = nxt at hA nl nx
        refine ⟨_, rfl, _, rfl, S, _, hr, .ref a, rfl, rfl, SqL.lt (s2 _ _ hS), at_ge hin.1 (by rw [List.getElem?_map, ha]; rfl), a, rfl, ⟨_, SqL.lt (s2 _ _ hA)⟩, ?_⟩
        refine for_list (K := K) (a := a) (xs := nxt.map V.int) (fun i σ H' => Same H H' ∧ ∃ (ks1 ws1 : List Int) (u5 : Option V), σ = [some (.ref S), some (.int st), some (.ref F), some (.ref W), some (.int hr), u5] ∧ H' F = some (.dK (dTr ks1)) ∧ H' W = some (.lst (ws1.map V.int)) ∧ Spr nss st ks1 ws1 ∧
            (∀ k ∈ ks, k ∈ ks1) ∧ (∀ x ∈ nxt.take i, x ∈ ks1) ∧ (∀ k ∈ ks1, k ∉ ws1 → k ≠ hr → ∀ x ∈ nss.getD k.toNat [], x ∈ ks1) ∧ ks.length ≤ ks1.length ∧ ws1.length + ks.length = ws'.length + ks1.length)
          ⟨s2, ks, ws', u5, rfl, hF2, hW2, ⟨sp.nd, sp.in_, sp.rc, sp.st_, fun k hk => sp.sub k (by simp [hk])⟩, fun _ h => h, (fun x hx => by simp at hx), fun k hk nk ne => cl k hk (fun z => by
            rcases List.mem_append.mp z with z | z
            · exact nk z
            · exact ne (by simpa using z)), Nat.le_refl _, rfl⟩ (fun i σ H' _ z => SqL.lt (z.1 _ _ hA)) ?_ ?_
        · rintro i y σ H3 hi ⟨s3, ks1, ws1, u5, rfl, hF3, hW3, sp1, sb, tk1, cl1, mk, ms⟩
          obtain ⟨j, hj, rfl⟩ : ∃ j, nxt[i]? = some j ∧ y = V.int j := by
            rw [List.getElem?_map] at hi
            cases z : nxt[i]? with
            | none => rw [z] at hi; cases hi
            | some n => rw [z] at hi; exact ⟨n, rfl, (Option.some.inj hi).symm⟩
          have tk := take_succ hj
          have jn := nx j (List.mem_of_getElem? hj)
          have l1 := sp1.len
          refine ⟨_, rfl, _, rfl, F, _, rfl, DGet.k (k := Sum.inl j) hF3, _, rfl, ?_⟩
          rw [dTr_has]
          by_cases c : j ∈ ks1
          · rw [decide_eq_true c]
            refine iteF ⟨s3, ks1, ws1, _, rfl, hF3, hW3, sp1, sb, fun x hx => ?_, cl1, mk, ms⟩
            rw [tk] at hx
            rcases List.mem_append.mp hx with hx | hx
            · exact tk1 x hx
            · rw [show x = j by simpa using hx]; exact c
          · rw [decide_eq_false c]
            refine iteT ⟨_, rfl, _, rfl, F, _, rfl, DPut.k (k := Sum.inl j) hF3 ?_, ?_⟩
            · show (dTr ks1).length < sizeLine
              unfold dTr
              rw [List.length_map]
              exact Nat.lt_of_le_of_lt (Nat.le_trans l1 ln) (by decide)
            rw [dTr_put c]
            have s4 := Same.chg (o := .dK (dTr (ks1 ++ [j]))) s3 hF
            have hW4 : upd H3 F (.dK (dTr (ks1 ++ [j]))) W = some (.lst (ws1.map V.int)) := by rw [upd_ne nFW.symm]; exact hW3
            have hF4 := upd_same (H := H3) (a := F) (o := .dK (dTr (ks1 ++ [j])))
            generalize upd H3 F (.dK (dTr (ks1 ++ [j]))) = H4 at s4 hW4 hF4 ⊢
            have sp2 : Spr nss st (ks1 ++ [j]) (ws1 ++ [j]) := by
              refine ⟨?_, fun k hk => ?_, fun k hk => ?_, by simp [sp1.st_], fun k hk => ?_⟩
              · rw [List.nodup_append]
                refine ⟨sp1.nd, by simp, fun x hx z hz e => ?_⟩
                have ez : z = j := by simpa using hz
                rw [e, ez] at hx
                exact c hx
              · rcases List.mem_append.mp hk with h | h
                · exact sp1.in_ k h
                · rw [show k = j by simpa using h]; exact jn
              · rcases List.mem_append.mp hk with h | h
                · exact sp1.rc k h
                · rw [show k = j by simpa using h]
                  exact .step (sp1.rc hr (sb hr (sp.sub hr (by simp)))) (by rw [hnx]; exact List.mem_of_getElem? hj)
              · rcases List.mem_append.mp hk with h | h
                · exact List.mem_append.mpr (.inl (sp1.sub k h))
                · exact List.mem_append.mpr (.inr h)
            have l2 := sp2.len
            rw [List.length_append] at l2
            have l2 : ks1.length + 1 ≤ nss.length := l2
            refine ⟨_, rfl, .inl ⟨rfl, _, SqL.lt hW4⟩, _, rfl, W, _, _, rfl, rfl, hW4, ?_, ?_⟩
            · rw [List.length_map]
              have l0 : ks.length ≤ nss.length := sp.len
              rw [List.length_append] at lws
              have lws : ws'.length + 1 ≤ ks.length := lws
              exact Nat.lt_of_le_of_lt (show ws1.length ≤ 1000 by omega) (by decide)
            · refine ⟨Same.chg s4 hW0, ks1 ++ [j], ws1 ++ [j], _, rfl, by rw [upd_ne nFW]; exact hF4, by rw [upd_same, List.map_append]; rfl, sp2, fun x hx => by simp [sb x hx], fun x hx => ?_, fun x hx nx' ne => ?_, ?_⟩
              · rw [tk] at hx
                rcases List.mem_append.mp hx with hx | hx
                · simp [tk1 x hx]
                · simp [show x = j by simpa using hx]
              · intro z hz
                rcases List.mem_append.mp hx with h | h
                · have := cl1 x h (fun q => nx' (by simp [q])) ne z hz
                  simp [this]
                · exact absurd (List.mem_append.mpr (.inr h)) nx'
              · rw [List.length_append, List.length_append]
                show ks.length ≤ ks1.length + 1 ∧ ws1.length + 1 + ks.length = ws'.length + (ks1.length + 1)
                omega
        · rintro σ H3 ⟨s3, ks1, ws1, u5, rfl, hF3, hW3, sp1, sb, tk1, cl1, mk, ms⟩
          rw [List.length_map, List.take_length] at tk1
          refine ⟨⟨s3, ks1, ws1, _, _, rfl, hF3, hW3, sp1, fun x hx nx' => ?_, ?_⟩, ?_⟩
          · by_cases c : x = hr
            · subst c
              rw [hnx]
              exact tk1
            · exact cl1 x hx nx' c
          · rw [List.length_append] at lws
            have lws : ws'.length + 1 ≤ ks.length := lws
            omega
          · show 2 * nss.length - 2 * lenO (H3 F) + lenO (H3 W) < 2 * nss.length - 2 * lenO (H1 F) + lenO (H1 W)
            have lw3 : lenO (H3 W) = ws1.length := by rw [hW3]; show (List.map V.int ws1).length = _; simp
            have lf3 : lenO (H3 F) = ks1.length := by rw [hF3]; show (dTr ks1).length = _; simp [dTr]
            have l1 := sp1.len
            have l0 : ks.length ≤ nss.length := sp.len
            rw [lw, lf, lw3, lf3]
            omega
    · intro σ H Q Q' hq h
      obtain ⟨x, hx, kk, ht, q⟩ := h
      exact ⟨x, hx, kk, ht, hq _ _ q⟩
end
end Myk05

namespace Myk05
open PySem L2 My EnT
-- Same from behind
local macro_rules | `(tactic| nest_cls) => `(tactic| first
  | exact Same.refl _
  | assumption
  | (refine Same.back (Same.new (by assumption)) ?_; nest_cls)
  | (refine Same.back (by assumption) ?_; nest_cls)
  | (refine Same.chg ?_ (by first | assumption | exact Free.flip (by assumption) (by nest_cls)); nest_cls))
-- Keep from behind
local macro_rules | `(tactic| mem_news) => `(tactic| first
  | exact Keep.refl _
  | assumption
  | (refine Keep.back (Keep.new (by assumption)) ?_; mem_news)
  | (refine Keep.back (Keep.lst (by assumption)) ?_; mem_news)
  | (refine Keep.back (Keep.lst (by kd_adr)) ?_; mem_news)
  | (refine Keep.back (Keep.of (by assumption)) ?_; mem_news)
  | (refine Keep.back (Keep.ofBut (by assumption) (by kba_ints)) ?_; mem_news)
  | (refine Keep.back (by assumption) ?_; mem_news))
-- the pot
local macro_rules | `(tactic| kba_ints) => `(tactic| first
  | assumption
  | (refine Pt.At.back (Same.new (by assumption)) ?_; kba_ints)
  | (refine Pt.At.back (by assumption) ?_; kba_ints)
  | exact Pt.At.flip (by assumption) (by nest_cls))
-- a fact of a heap, from behind
local macro_rules | `(tactic| kd_adr) => `(tactic| first
  | ((with_reducible show IT _ _ _ _); first
    | assumption
    | exact IT.new2
    | exact IT.new1
    | exact IT.new3
    | exact IT.new4
    | exact IT.flip (by assumption) (by mem_news)
    | exact IT.flip IT.new2 (by mem_news)
    | exact IT.flip IT.new3 (by mem_news)
    | exact IT.flip IT.new1 (by mem_news)
    | exact IT.flip IT.new4 (by mem_news))
  | ((with_reducible show ITs _ _ _ _); first
    | assumption
    | exact ITs.flip (by assumption) (by mem_news))
  | ((with_reducible show SqT _ _ _ _); first
    | assumption
    | exact SqT.lt upd_same
    | exact SqT.lt (by assumption)
    | exact IT.sq (by assumption)
    | exact SqT.flip (by assumption) (by mem_news)
    | exact SqT.flip (SqT.lt (by assumption)) (by mem_news)
    | exact SqT.flip (IT.sq (by assumption)) (by mem_news)
    | exact SqT.flip (SqT.lt upd_same) (by mem_news))
  | ((with_reducible show SqL _ _ _ _); first
    | assumption
    | exact SqL.lt upd_same
    | exact SqL.lt (by assumption)
    | exact SqL.flip (by assumption) (by nest_cls)
    | exact SqL.flip (SqL.lt (by assumption)) (by nest_cls)
    | exact SqL.flip (SqL.lt upd_same) (by nest_cls))
  | ((with_reducible show Parts _ _ _ _ _); first | assumption | exact Parts.flip (by assumption) (by mem_news))
  | ((with_reducible show MachAt _ _ _ _ _ _); first | assumption | exact MachAt.flip (by assumption) (by mem_news))
  | ((with_reducible show ShIs _ _ _ _ _); first | assumption | exact ShIs.flip (by assumption) (by mem_news))
  | ((with_reducible show RunIs _ _ _ _ _); first | assumption | exact RunIs.flip (by assumption) (by mem_news))
  | ((with_reducible show LTs _ _ _ _); first | assumption | exact LTs.flip (by assumption) (by nest_cls))
  | ((with_reducible show Pt.At _ _); kba_ints)
  | ((with_reducible show Same _ _); nest_cls)
  | ((with_reducible show Keep _ _); mem_news)
  | ((with_reducible show (_ : Hp) _ = some _); first
    | assumption
    | exact upd_same
    | exact At.flip (by assumption) (by nest_cls)
    | exact At.flip upd_same (by nest_cls)))
-- a side condition
local macro_rules | `(tactic| leaf_len) => `(tactic| first
  | (with_reducible rfl)
  | (with_reducible assumption)
  | kd_adr
  | omega
  | ((with_reducible show (_ : Nat) ≤ sizeLine); first | (show 1 ≤ sizeLine; decide) | (show 2 ≤ sizeLine; decide) | (show 3 ≤ sizeLine; decide) | (show 4 ≤ sizeLine; decide) | (show 5 ≤ sizeLine; decide) | (show 6 ≤ sizeLine; decide) | (show 7 ≤ sizeLine; decide) | (show 8 ≤ sizeLine; decide) | (show 0 ≤ sizeLine; decide))
  | exact rfl
  | ((with_reducible show _ ∨ _); first | exact Or.inl (by leaf_len) | exact Or.inr (by leaf_len))
  | exact List.cons_ne_nil _ _
  | exact mf_ev _ _
  | exact mf_st _ _
  | exact flat_ints _
  | ((with_reducible show tyV _ _ _ _); exact Or.inl ⟨rfl, _, by kd_adr⟩)
  | ((with_reducible show ClsV _ _); exact ClsV.ty _)
  | ((with_reducible show CDivW _ _); exact CDivW.of (by omega) (by omega))
  | (apply Exists.intro (α := List V); kd_adr)
  | assumption
  | ((with_reducible show small _); unfold small; omega)
  | ((with_reducible show CPow _ _); exact ⟨by decide, by decide, by decide⟩)
  | ((with_reducible show CMul _ _); first | exact CMul.l (by omega) (by omega) | exact CMul.r (by omega) (by omega))
  | ((with_reducible show CMulW _ _); exact CMulW.of (by omega) (by omega))
  | ((with_reducible show TyX _ _ _ _); first | exact TyX.base (.int _) | exact TyX.base (.str _) | exact TyX.base (.bl _) | exact tyT (by kd_adr) | exact TyX.base (.lst (by kd_adr)))
  | ((with_reducible show PySem.W.kitOne _ _ _ = some _); first | exact kit_ty (r := true) (by decide +kernel) | exact kit_ty (r := false) (by decide +kernel))
  | decide)
-- a step
local macro_rules | `(tactic| l_ints) => `(tactic| first
  | (intro (p : Addr) (hp : (_ : Hp) p = none))
  | (intro (H' : Hp) (s : Same _ H'))
  | (intro (p : Addr) (H' : Hp) (s : Same _ H'))
  | (intro (h : IT _ _ _ _))
  | (intro (h : SqT _ _ _ _))
  | (intro (h : (_ : Hp) _ = none))
  | (intro (h : (_ : Hp) _ = some _))
  | ((with_reducible show rCatA _ _ _ _ _); refine catJ (by kd_adr) (by kd_adr) (by leaf_len) ?_)
  | ((with_reducible show rSlA _ _ none (some _) _ _); refine slTake (by kd_adr) (by omega) ?_)
  | with_reducible refine tC_i ?_
  | with_reducible refine tNil_i ?_
  | with_reducible refine tCons_i ?_
  | with_reducible refine tCall_i ?_
  | with_reducible refine tOp_i ?_
  | ((with_reducible refine tVar_i ?_ ?_); · exact rfl)
  | with_reducible refine iteT ?_
  | with_reducible refine iteF ?_
  | (with_reducible refine iteNEq ?_ ?_; · assumption)
  | (with_reducible refine iteNb ?_ ?_; · assumption)
  | (with_reducible refine iteTb ?_ ?_; · assumption)
  | (with_reducible refine iteFb ?_ ?_; · assumption)
  | ((with_reducible refine iteFb ?_ ?_); · exact rfl)
  | ((with_reducible refine iteTb ?_ ?_); · exact rfl)
  | with_reducible refine iteST rfl ?_
  | with_reducible refine iteSF (by decide +kernel) ?_
  | (refine And.intro ?_ ?_; · leaf_len)
  | apply Exists.intro (α := V)
  | apply Exists.intro (α := Int)
  | apply Exists.intro (α := Addr)
  | apply Exists.intro (α := List V)
  | apply Exists.intro (α := Str)
  | apply Exists.intro (α := Nat)
  | apply Exists.intro (α := Bool)
  | apply Exists.intro (α := Value)
  | apply Exists.intro (α := List Int)
  | apply Exists.intro (α := List (List Int))
  | apply Exists.intro (α := List Bool)
  | apply Exists.intro (α := List (Str × V))
  | apply Exists.intro (α := Option (List (Option Int)))
  | apply Exists.intro (α := Option Int)
  | apply Exists.intro (α := Pt)
  | refine Or.inr ⟨_, rfl, ?_⟩
  | apply Or.inl)

section
variable {P : Program} {w : World} {K : PySem.W.Frag} {mg : Str → Option Value} {base : Heap} {A : Ad}
theorem srt_eq : ∀ {a b : List Int}, a.Pairwise (· < ·) → b.Pairwise (· < ·) → (∀ k, k ∈ a ↔ k ∈ b) → a = b
  | [], [], _, _, _ => rfl
  | [], y :: ys, _, _, h => by have := (h y).mpr (by simp); simp at this
  | x :: xs, [], _, _, h => by have := (h x).mp (by simp); simp at this
  | x :: xs, y :: ys, p, q, h => by
    obtain ⟨p1, p2⟩ := List.pairwise_cons.mp p
    obtain ⟨q1, q2⟩ := List.pairwise_cons.mp q
    have e : x = y := by
      have h1 := (h x).mp (by simp)
      have h2 := (h y).mpr (by simp)
      rcases List.mem_cons.mp h1 with h1 | h1
      · exact h1
      · rcases List.mem_cons.mp h2 with h2 | h2
        · exact h2.symm
        · have := q1 x h1
          have := p1 y h2
          omega
    subst e
    rw [srt_eq p2 q2 fun k => ⟨fun hk => by
      have := (h k).mp (by simp [hk])
      rcases List.mem_cons.mp this with z | z
      · have := p1 k hk
        omega
      · exact z, fun hk => by
      have := (h k).mpr (by simp [hk])
      rcases List.mem_cons.mp this with z | z
      · have := q1 k hk
        omega
      · exact z⟩]
theorem srt_of {ys ks : List Int} (pm : ys.Perm ks) (pw : ys.Pairwise (· ≤ ·)) (nd : ks.Nodup) : ys.Pairwise (· < ·) := by
  have n2 : ys.Pairwise (· ≠ ·) := pm.symm.nodup nd
  exact (pw.and n2).imp fun {a b} h => by
    have h1 := h.1
    have h2 := h.2
    omega
/-- the standings of a machine that pass -/
noncomputable def pick (n : Nat) (P : Int → Prop) : List Int := ((List.range n).map fun (i : Nat) => (i : Int)).filter fun k => @decide (P k) (Classical.propDecidable _)
theorem pick_mem {n : Nat} {P : Int → Prop} {k : Int} : k ∈ pick n P ↔ (0 ≤ k ∧ k < (n : Int)) ∧ P k := by
  unfold pick
  rw [List.mem_filter, List.mem_map]
  refine ⟨fun ⟨⟨i, hi, e⟩, h⟩ => ⟨by have := List.mem_range.mp hi; omega, by simpa using h⟩, fun ⟨⟨h0, h1⟩, h⟩ => ⟨⟨k.toNat, List.mem_range.mpr (by omega), by omega⟩, by simpa using h⟩⟩
theorem pick_srt {n : Nat} {P : Int → Prop} : (pick n P).Pairwise (· < ·) := by
  unfold pick
  refine List.Pairwise.filter _ ?_
  rw [List.pairwise_map]
  exact List.pairwise_lt_range.imp fun h => by omega
theorem pick_eq {n : Nat} {P : Int → Prop} {a : List Int} (h : a.Pairwise (· < ·)) (hm : ∀ k, k ∈ a ↔ (0 ≤ k ∧ k < (n : Int)) ∧ P k) : a = pick n P := srt_eq h pick_srt fun k => (hm k).trans pick_mem.symm
theorem stepsOf_mem {n : Int} {evs : List (List Int)} (oks : ∀ e ∈ evs, okEv n e) {s f j : Nat} (hf : f < 2) : ∀ x ∈ stepsOf evs s f j, 0 ≤ x ∧ x < n := fun x hx => by
  unfold stepsOf at hx
  obtain ⟨e, he, rfl⟩ := List.mem_map.mp hx
  obtain ⟨y, _, e2, h0, h1⟩ := okAt (oks e (List.mem_filter.mp he).1) hf
  rw [e2]
  exact ⟨h0, h1⟩
theorem steps_ok {n : Int} {evs : List (List Int)} (oks : ∀ e ∈ evs, okEv n e) (n0 : 0 ≤ n) (hl : evs.length ≤ 1000) {s f : Nat} (hf : f < 2) : ∀ ns ∈ stepsAll evs s f n.toNat, ns.length ≤ 1000 ∧ ∀ x ∈ ns, 0 ≤ x ∧ x < ((stepsAll evs s f n.toNat).length : Int) := fun ns h => by
  rw [stepsAll_len]
  unfold stepsAll at h
  obtain ⟨j, _, rfl⟩ := List.mem_map.mp h
  refine ⟨Nat.le_trans (stepsOf_len _ _ _ _) hl, fun x hx => ?_⟩
  have := stepsOf_mem oks hf x hx
  omega
theorem Rch.in_ {nss : List (List Int)} {st : Int} (h : ∀ ns ∈ nss, ∀ x ∈ ns, 0 ≤ x ∧ x < (nss.length : Int)) (h0 : 0 ≤ st ∧ st < (nss.length : Int)) {k : Int} (r : Rch nss st k) : 0 ≤ k ∧ k < (nss.length : Int) := by
  induction r with
  | refl => exact h0
  | @step k x _ hx ih =>
    have hk : k.toNat < nss.length := by omega
    rw [List.getD_eq_getElem?_getD, List.getElem?_eq_getElem hk] at hx
    exact h _ (List.getElem_mem hk) x hx
/-- what is reached from a standing -/
noncomputable def rchL (evs : List (List Int)) (n : Nat) (s : Int) : List Int := pick n fun k => Rch (stepsAll evs 0 1 n) s k
def spReached (K : PySem.W.Frag) (C : Addr) : Sp := fun vs H Q _ => ∃ (m : V) (n : Int) (evs : List (List Int)), vs = [m] ∧ MachAt K C H m n evs ∧ 1 ≤ n ∧ n ≤ 60 ∧ evs.length ≤ 1000 ∧ (∀ e ∈ evs, okEv n e) ∧
  ∀ (q : Addr) (H' : Hp), Same H H' → IT K H' (.ref q) (rchL evs n.toNat 0) → Q (.ref q) H'

theorem sc_reached : FnScope ["machine"] ["machine"] (defScope s_reached) := ⟨rfl, rfl, rfl, by decide +kernel, rfl, by decide +kernel, by decide +kernel⟩
theorem ok_reached (T : Txt K mg A) : FnOk P w K mg base CX0 2 A.f_reached A.d_reached ["machine"] (spReached K A.C_Machine) := by
  refine T.F_reached.ok sc_reached (fun vs H Q E h => ?_) (fun cdv A1 outer s H vs Q E hr h => ?_)
  · obtain ⟨m, n, evs, rfl, _⟩ := h
    rfl
  · obtain ⟨m, n, evs, rfl, hM, n1, n60, hl, oks, k⟩ := h
    refine ⟨_, (pss_one (ps_ret (pe_callTy (call_tupleK K rfl) (by rfl) T.z_tuple (by decide +kernel) (pa_cons (pe_callB (call_sortedDI rfl) (by rfl) T.z_sorted (by decide +kernel) (pa_cons (pe_call (ok_spread T) (hr.mono (by decide)) rfl T.m_spread T.F_spread.kp T.B_spread .nil pass0 (pa_cons (pe_call (ok_steps T) (hr.mono (by decide)) rfl T.m_steps T.F_steps.kp T.B_steps .nil pass0 (pa_cons (pv 0) (pa_cons pe_int (pa_cons pe_int pa_nil)))) (pa_cons pe_int pa_nil))) pa_nil)) pa_nil)))), ?_⟩
    have ok := steps_ok oks (by omega) hl (s := 0) (f := 1) (by decide)
    refine ⟨_, rfl, m, n, evs, 0, 1, rfl, hM, by omega, by omega, hl, by decide, by decide, oks, fun D H1 s1 hD L => ?_⟩
    refine ⟨D, 0, _, rfl, L, by decide, by rw [stepsAll_len]; omega, by rw [stepsAll_len]; omega, ok, fun F H2 ks s2 hF hFF nd hks lk => ?_⟩
    rw [stepsAll_len] at lk
    refine ⟨F, dTr ks, ks, rfl, .inl hFF, dTr_keys ks, by omega, fun ys p pm pw hp => ?_⟩
    refine ⟨p, _, rfl, .inl ⟨SqL.lt upd_same, fun q hq => ?_⟩⟩
    have s3 := Same.new (o := .lst (ys.map V.int)) hp
    have s4 := Same.new (o := .tup (ys.map V.int)) hq
    refine k q _ (((s1.trans s2).trans s3).trans s4) ?_
    have e : ys = rchL evs n.toNat 0 := pick_eq (srt_of pm pw nd) fun x => by
      rw [pm.mem_iff, hks x]
      refine ⟨fun r => ⟨?_, r⟩, fun h => h.2⟩
      have z := r.in_ (fun ns h => (ok ns h).2) ⟨by decide, by rw [stepsAll_len]; omega⟩
      rw [stepsAll_len] at z
      exact z
    rw [← e]
    exact IT.new rfl
end
end Myk05

namespace Myk05
open PySem L2 My EnT
-- Same from behind
local macro_rules | `(tactic| nest_cls) => `(tactic| first
  | exact Same.refl _
  | assumption
  | (refine Same.back (Same.new (by assumption)) ?_; nest_cls)
  | (refine Same.back (by assumption) ?_; nest_cls)
  | (refine Same.chg ?_ (by first | assumption | exact Free.flip (by assumption) (by nest_cls)); nest_cls))
-- Keep from behind
local macro_rules | `(tactic| mem_news) => `(tactic| first
  | exact Keep.refl _
  | assumption
  | (refine Keep.back (Keep.new (by assumption)) ?_; mem_news)
  | (refine Keep.back (Keep.lst (by assumption)) ?_; mem_news)
  | (refine Keep.back (Keep.lst (by kd_adr)) ?_; mem_news)
  | (refine Keep.back (Keep.of (by assumption)) ?_; mem_news)
  | (refine Keep.back (Keep.ofBut (by assumption) (by kba_ints)) ?_; mem_news)
  | (refine Keep.back (by assumption) ?_; mem_news))
-- the pot
local macro_rules | `(tactic| kba_ints) => `(tactic| first
  | assumption
  | (refine Pt.At.back (Same.new (by assumption)) ?_; kba_ints)
  | (refine Pt.At.back (by assumption) ?_; kba_ints)
  | exact Pt.At.flip (by assumption) (by nest_cls))
-- a fact of a heap, from behind
local macro_rules | `(tactic| kd_adr) => `(tactic| first
  | ((with_reducible show IT _ _ _ _); first
    | assumption
    | exact IT.new2
    | exact IT.new1
    | exact IT.new3
    | exact IT.new4
    | exact IT.flip (by assumption) (by mem_news)
    | exact IT.flip IT.new2 (by mem_news)
    | exact IT.flip IT.new3 (by mem_news)
    | exact IT.flip IT.new1 (by mem_news)
    | exact IT.flip IT.new4 (by mem_news))
  | ((with_reducible show ITs _ _ _ _); first
    | assumption
    | exact ITs.flip (by assumption) (by mem_news))
  | ((with_reducible show SqT _ _ _ _); first
    | assumption
    | exact SqT.lt upd_same
    | exact SqT.lt (by assumption)
    | exact IT.sq (by assumption)
    | exact SqT.flip (by assumption) (by mem_news)
    | exact SqT.flip (SqT.lt (by assumption)) (by mem_news)
    | exact SqT.flip (IT.sq (by assumption)) (by mem_news)
    | exact SqT.flip (SqT.lt upd_same) (by mem_news))
  | ((with_reducible show SqL _ _ _ _); first
    | assumption
    | exact SqL.lt upd_same
    | exact SqL.lt (by assumption)
    | exact SqL.flip (by assumption) (by nest_cls)
    | exact SqL.flip (SqL.lt (by assumption)) (by nest_cls)
    | exact SqL.flip (SqL.lt upd_same) (by nest_cls))
  | ((with_reducible show Parts _ _ _ _ _); first | assumption | exact Parts.flip (by assumption) (by mem_news))
  | ((with_reducible show MachAt _ _ _ _ _ _); first | assumption | exact MachAt.flip (by assumption) (by mem_news))
  | ((with_reducible show ShIs _ _ _ _ _); first | assumption | exact ShIs.flip (by assumption) (by mem_news))
  | ((with_reducible show RunIs _ _ _ _ _); first | assumption | exact RunIs.flip (by assumption) (by mem_news))
  | ((with_reducible show LTs _ _ _ _); first | assumption | exact LTs.flip (by assumption) (by nest_cls))
  | ((with_reducible show Pt.At _ _); kba_ints)
  | ((with_reducible show Same _ _); nest_cls)
  | ((with_reducible show Keep _ _); mem_news)
  | ((with_reducible show (_ : Hp) _ = some _); first
    | assumption
    | exact upd_same
    | exact At.flip (by assumption) (by nest_cls)
    | exact At.flip upd_same (by nest_cls)))
-- a side condition
local macro_rules | `(tactic| leaf_len) => `(tactic| first
  | (with_reducible rfl)
  | (with_reducible assumption)
  | kd_adr
  | omega
  | ((with_reducible show (_ : Nat) ≤ sizeLine); first | (show 1 ≤ sizeLine; decide) | (show 2 ≤ sizeLine; decide) | (show 3 ≤ sizeLine; decide) | (show 4 ≤ sizeLine; decide) | (show 5 ≤ sizeLine; decide) | (show 6 ≤ sizeLine; decide) | (show 7 ≤ sizeLine; decide) | (show 8 ≤ sizeLine; decide) | (show 0 ≤ sizeLine; decide))
  | exact rfl
  | ((with_reducible show _ ∨ _); first | exact Or.inl (by leaf_len) | exact Or.inr (by leaf_len))
  | exact List.cons_ne_nil _ _
  | exact mf_ev _ _
  | exact mf_st _ _
  | exact flat_ints _
  | ((with_reducible show tyV _ _ _ _); exact Or.inl ⟨rfl, _, by kd_adr⟩)
  | ((with_reducible show ClsV _ _); exact ClsV.ty _)
  | ((with_reducible show CDivW _ _); exact CDivW.of (by omega) (by omega))
  | (apply Exists.intro (α := List V); kd_adr)
  | assumption
  | ((with_reducible show small _); unfold small; omega)
  | ((with_reducible show CPow _ _); exact ⟨by decide, by decide, by decide⟩)
  | ((with_reducible show CMul _ _); first | exact CMul.l (by omega) (by omega) | exact CMul.r (by omega) (by omega))
  | ((with_reducible show CMulW _ _); exact CMulW.of (by omega) (by omega))
  | ((with_reducible show TyX _ _ _ _); first | exact TyX.base (.int _) | exact TyX.base (.str _) | exact TyX.base (.bl _) | exact tyT (by kd_adr) | exact TyX.base (.lst (by kd_adr)))
  | ((with_reducible show PySem.W.kitOne _ _ _ = some _); first | exact kit_ty (r := true) (by decide +kernel) | exact kit_ty (r := false) (by decide +kernel))
  | decide)
-- a step
local macro_rules | `(tactic| l_ints) => `(tactic| first
  | (intro (p : Addr) (hp : (_ : Hp) p = none))
  | (intro (H' : Hp) (s : Same _ H'))
  | (intro (p : Addr) (H' : Hp) (s : Same _ H'))
  | (intro (h : IT _ _ _ _))
  | (intro (h : SqT _ _ _ _))
  | (intro (h : (_ : Hp) _ = none))
  | (intro (h : (_ : Hp) _ = some _))
  | ((with_reducible show rCatA _ _ _ _ _); refine catJ (by kd_adr) (by kd_adr) (by leaf_len) ?_)
  | ((with_reducible show rSlA _ _ none (some _) _ _); refine slTake (by kd_adr) (by omega) ?_)
  | with_reducible refine tC_i ?_
  | with_reducible refine tNil_i ?_
  | with_reducible refine tCons_i ?_
  | with_reducible refine tCall_i ?_
  | with_reducible refine tOp_i ?_
  | ((with_reducible refine tVar_i ?_ ?_); · exact rfl)
  | with_reducible refine iteT ?_
  | with_reducible refine iteF ?_
  | (with_reducible refine iteNEq ?_ ?_; · assumption)
  | (with_reducible refine iteNb ?_ ?_; · assumption)
  | (with_reducible refine iteTb ?_ ?_; · assumption)
  | (with_reducible refine iteFb ?_ ?_; · assumption)
  | ((with_reducible refine iteFb ?_ ?_); · exact rfl)
  | ((with_reducible refine iteTb ?_ ?_); · exact rfl)
  | with_reducible refine iteST rfl ?_
  | with_reducible refine iteSF (by decide +kernel) ?_
  | (refine And.intro ?_ ?_; · leaf_len)
  | apply Exists.intro (α := V)
  | apply Exists.intro (α := Int)
  | apply Exists.intro (α := Addr)
  | apply Exists.intro (α := List V)
  | apply Exists.intro (α := Str)
  | apply Exists.intro (α := Nat)
  | apply Exists.intro (α := Bool)
  | apply Exists.intro (α := Value)
  | apply Exists.intro (α := List Int)
  | apply Exists.intro (α := List (List Int))
  | apply Exists.intro (α := List Bool)
  | apply Exists.intro (α := List (Str × V))
  | apply Exists.intro (α := Option (List (Option Int)))
  | apply Exists.intro (α := Option Int)
  | apply Exists.intro (α := Pt)
  | refine Or.inr ⟨_, rfl, ?_⟩
  | apply Or.inl)

section
variable {P : Program} {w : World} {K : PySem.W.Frag} {mg : Str → Option Value} {base : Heap} {A : Ad}
theorem stepsAll_getD {evs : List (List Int)} {s f n j : Nat} : (stepsAll evs s f n).getD j [] = if j < n then stepsOf evs s f j else [] := by
  unfold stepsAll
  rw [List.getD_eq_getElem?_getD, List.getElem?_map]
  by_cases c : j < n
  · rw [if_pos c, List.getElem?_range c]
    rfl
  · rw [if_neg c, List.getElem?_eq_none (by rw [List.length_range]; omega)]
    rfl
theorem edge_rev {n : Int} {evs : List (List Int)} (oks : ∀ e ∈ evs, okEv n e) {s f : Nat} (hs : s < 2) (hf : f < 2) {k x : Int} (k0 : 0 ≤ k) (h : x ∈ (stepsAll evs s f n.toNat).getD k.toNat []) : k ∈ (stepsAll evs f s n.toNat).getD x.toNat [] := by
  rw [stepsAll_getD] at h ⊢
  split at h
  · unfold stepsOf at h
    obtain ⟨e, he, rfl⟩ := List.mem_map.mp h
    obtain ⟨he1, he2⟩ := List.mem_filter.mp he
    obtain ⟨y, _, e2, h0, h1⟩ := okAt (oks e he1) hf
    rw [e2, if_pos (by omega)]
    unfold stepsOf
    refine List.mem_map.mpr ⟨e, List.mem_filter.mpr ⟨he1, ?_⟩, ?_⟩
    · rw [e2]
      simp
      omega
    · have := eq_of_beq he2
      omega
  · cases h
theorem Rch.trans {nss : List (List Int)} {a b c : Int} (h : Rch nss a b) (g : Rch nss b c) : Rch nss a c := by
  induction g with
  | refl => exact h
  | step _ hx ih => exact .step ih hx
theorem rch_rev {n : Int} {evs : List (List Int)} (oks : ∀ e ∈ evs, okEv n e) (n0 : 0 ≤ n) (hl : evs.length ≤ 1000) {s f : Nat} (hs : s < 2) (hf : f < 2) {a b : Int} (a0 : 0 ≤ a ∧ a < n) (h : Rch (stepsAll evs s f n.toNat) a b) : Rch (stepsAll evs f s n.toNat) b a := by
  induction h with
  | refl => exact .refl
  | @step k x r hx ih =>
    have hk := r.in_ (fun ns h => (steps_ok oks n0 hl hf ns h).2) (by rw [stepsAll_len]; omega)
    exact (Rch.step .refl (edge_rev oks hs hf hk.1 hx)).trans ih
/-- the knot of a standing -/
noncomputable def mutL (evs : List (List Int)) (n : Nat) (s : Int) : List Int := pick n fun k => Rch (stepsAll evs 0 1 n) s k ∧ Rch (stepsAll evs 0 1 n) k s
theorem pick_len {n : Nat} {P : Int → Prop} : (pick n P).length ≤ n := by
  unfold pick
  have := List.length_filter_le (fun k => @decide (P k) (Classical.propDecidable _)) ((List.range n).map fun (i : Nat) => (i : Int))
  rw [List.length_map, List.length_range] at this
  exact this
def knF (f : Int → List Int) (st : List (List Int) × List Int) (s : Int) : List (List Int) × List Int := if s ∈ st.2 then st else (st.1 ++ [f s], st.2 ++ f s)
def kn (f : Int → List Int) (l : List Int) : List (List Int) × List Int := l.foldl (knF f) ([], [])
theorem kn_snoc (f : Int → List Int) (l : List Int) (s : Int) : kn f (l ++ [s]) = knF f (kn f l) s := by
  unfold kn
  rw [List.foldl_append]
  rfl
theorem kn_len (f : Int → List Int) : ∀ (l : List Int) (st : List (List Int) × List Int), (l.foldl (knF f) st).1.length ≤ st.1.length + l.length
  | [], st => Nat.le_refl _
  | s :: l, st => by
    have ih := kn_len f l (knF f st s)
    have h : (knF f st s).1.length ≤ st.1.length + 1 := by
      unfold knF
      split
      · omega
      · show (st.1 ++ [f s]).length ≤ _
        rw [List.length_append]
        exact Nat.le_refl _
    rw [List.foldl_cons, List.length_cons]
    omega
/-- a comprehension from ints to ints over a list, with what has stayed -/
theorem lcIS {K : PySem.W.Frag} {a D : Addr} {ns : List Int} {g : TG} {tt : L2.TT} {te : TE} {vs : List Nat} {σ : L2.St} {H1 : Hp} {Qd : Hp → Prop} (f : Int → Bool)
    (hS : SqL K H1 a (ns.map V.int)) (hD : H1 D = none) (hl : ns.length < sizeLine)
    (hs : ∀ (n : Int) (H : Hp) (Q1 : Hp → Prop) (Q2 : V → Hp → Prop), n ∈ ns → Same H1 H → (f n = true → Q2 (.int n) H) → (f n = false → Q1 H) → g (.int n) (wipe σ vs) H fun σ2 H2 => wipe σ2 vs = wipe σ vs ∧ tt σ2 H2 fun b H3 => if b = true then te σ2 H3 Q2 else Q1 H3)
    (hd : Qd (upd H1 D (.lst ((ns.filter f).map V.int)))) :
    ∃ W : Nat → Nat → Hp → Prop, (∃ m, W 0 m (upd H1 D (.lst []))) ∧ ∀ i m H, W i m H →
      ((Itl K a).stop i H ∧ Qd H) ∨ ((Itl K a).go i H ∧ ∃ Nx : Hp → Prop, (∀ H', Nx H' → ∃ m', m' < m ∧ W (i + 1) m' H') ∧ ∀ x H', (Itl K a).yld i H x H' → g x (wipe σ vs) H' fun σ2 H2 => wipe σ2 vs = wipe σ vs ∧ tt σ2 H2 fun b H3 =>
        if b = true then te σ2 H3 fun y H4 => ∃ acc, H4 D = some (.lst acc) ∧ acc.length < sizeLine ∧ Nx (upd H4 D (.lst (acc ++ [y]))) else Nx H3) := by
  have sub : ∀ (H : Hp) (l : List V), H = upd H1 D (.lst l) → SqL K H a (ns.map V.int) := fun H l q => by
    rw [q]
    exact Same.seq (Same.new hD) hS
  refine lc_list (K := K) (a := a) (xs := ns.map V.int) (fun i H => H = upd H1 D (.lst (((ns.take i).filter f).map V.int))) rfl (fun i H _ q => sub H _ q) ?_ (fun H q => ?_)
  · intro i x H hi q
    obtain ⟨n, hn, rfl⟩ : ∃ n, ns[i]? = some n ∧ x = V.int n := by
      rw [List.getElem?_map] at hi
      cases z : ns[i]? with
      | none => rw [z] at hi; cases hi
      | some n => rw [z] at hi; exact ⟨n, rfl, (Option.some.inj hi).symm⟩
    have tk := take_succ hn
    have len : ((ns.take i).filter f).length < sizeLine := by
      have q1 := List.length_filter_le f (ns.take i)
      rw [List.length_take] at q1
      omega
    refine hs n H _ _ (List.mem_of_getElem? hn) (by rw [q]; exact Same.new hD) (fun c => ⟨_, by rw [q]; exact upd_same, by rw [List.length_map]; exact len, ?_⟩) (fun c => ?_)
    · show upd H D _ = _
      rw [tk, q, upd_upd, List.filter_append, List.map_append]
      simp [c]
    · show H = _
      rw [tk, q, List.filter_append]
      simp [c]
  · rw [List.length_map, List.take_length] at q
    rw [q]
    exact hd
theorem Same.but {l : List Addr} {H H1 H2 : Hp} (a : Same H H1) (b : But l H1 H2) (h : ∀ x ∈ l, H x = none) : Same H H2 := fun c o e => b c o (fun z => by
  rw [h c z] at e
  cases e) (a c o e)
theorem But.keep1 {H H' : Hp} {p : Addr} {o : HO} (h : H p = some o) (i : Im o = false) (b : But [p] H H') : Keep H H' := fun c u im e => b c u (fun z => by
  have z' : c = p := by simpa using z
  rw [z', h] at e
  cases e
  rw [i] at im
  cases im) e
def spKnots (K : PySem.W.Frag) (C : Addr) : Sp := fun vs H Q _ => ∃ (m : V) (n : Int) (evs : List (List Int)), vs = [m] ∧ MachAt K C H m n evs ∧ 1 ≤ n ∧ n ≤ 60 ∧ evs.length ≤ 1000 ∧ (∀ e ∈ evs, okEv n e) ∧
  ∀ (D : Addr) (H' : Hp), Same H H' → H D = none → LTs K H' D (kn (mutL evs n.toNat) (rchL evs n.toNat 0)).1 → Q (.ref D) H'

theorem sc_knots : FnScope ["machine", "forth", "back", "found", "placed", "standing", "leading", "other", "knot"] ["machine"] (defScope s_knots) := ⟨rfl, rfl, rfl, by decide +kernel, rfl, by decide +kernel, by decide +kernel⟩
theorem ok_knots (T : Txt K mg A) : FnOk P w K mg base CX0 3 A.f_knots A.d_knots ["machine"] (spKnots K A.C_Machine) := by
  refine T.F_knots.ok sc_knots (fun vs H Q E h => ?_) (fun cdv A1 outer s H vs Q E hr h => ?_)
  · obtain ⟨m, n, evs, rfl, _⟩ := h
    rfl
  · obtain ⟨m, n, evs, rfl, hM, n1, n60, hl, oks, k⟩ := h
    refine ⟨_, (pss_cons (ps_set (i := 1) sc_knots.nd rfl (Or.inl rfl) (pe_call (ok_steps T) (hr.mono (by decide)) rfl T.m_steps T.F_steps.kp T.B_steps .nil pass0 (pa_cons (pv 0) (pa_cons pe_int (pa_cons pe_int pa_nil)))))
      (pss_cons (ps_set (i := 2) sc_knots.nd rfl (Or.inl rfl) (pe_call (ok_steps T) (hr.mono (by decide)) rfl T.m_steps T.F_steps.kp T.B_steps .nil pass0 (pa_cons (pv 0) (pa_cons pe_int (pa_cons pe_int pa_nil)))))
      (pss_cons (ps_set (i := 3) sc_knots.nd rfl (Or.inl rfl) (pe_lst pa_nil))
      (pss_cons (ps_set (i := 4) sc_knots.nd rfl (Or.inl rfl) (pe_callTy0 (cr_set0W w rfl) (by rfl) T.z_set (by decide +kernel)))
      (pss_cons (ps_for PassesOwn.never rfl (pi_tup (pe_call (ok_reached T) (hr.mono (by decide)) rfl T.m_reached T.F_reached.kp T.B_reached .nil pass0 (pa_cons (pv 0) pa_nil))) (pg_name (i := 5) sc_knots.nd rfl (Or.inl rfl))
        (pss_cons (ps_if (pt_cmpR (or_sinW w rfl) (pv 5) (pv 4) (by with_unfolding_all rfl)) (pss_one ps_continue) pss_nil)
      (pss_cons (ps_set (i := 6) sc_knots.nd rfl (Or.inr rfl) (pe_call (ok_spread T) (hr.mono (by decide)) rfl T.m_spread T.F_spread.kp T.B_spread .nil pass0 (pa_cons (pv 2) (pa_cons (pv 5) pa_nil))))
      (pss_cons (ps_setLc (i := 8) (own := [("other", 7)]) rfl sc_knots.nd rfl rfl (sw_true rfl rfl rfl (by decide +kernel)) (pi_list (pe_callB (call_sortedDI rfl) (by rfl) T.z_sorted (by decide +kernel) (pa_cons (pe_call (ok_spread T) (hr.mono (by decide)) rfl T.m_spread T.F_spread.kp T.B_spread .nil pass0 (pa_cons (pv 1) (pa_cons (pv 5) pa_nil))) pa_nil))) (blkOk_by (N := ["machine", "forth", "back", "found", "placed", "standing", "leading", "other", "knot"]) (sc := defScope s_knots) (by decide +kernel)) (fun _ _ _ _ _ => by exact (pg_name (i := 7) sc_knots.nd rfl (Or.inl rfl))) (fun _ _ _ _ _ => by exact (pts_one (pt_cmp (pc_din (hu1 hr) (pv 7) (pv 6))))) (fun _ _ _ _ _ => by exact (pv 7)))
      (pss_cons (ps_for PassesOwn.never rfl (pi_list (pv 8)) (pg_name (i := 7) sc_knots.nd rfl (Or.inl rfl))
        (pss_one (ps_expr (pe_saddW w rfl (pv 4) (pa_cons (pv 7) pa_nil)))))
      (pss_one (ps_expr (pe_bm PySem.F.plainAttrs_list PySem.F.slot_list_append PySem.F.type_list_append mt_append (pv 3) (pa_cons (pe_callTy (call_tupleK K rfl) (by rfl) T.z_tuple (by decide +kernel) (pa_cons (pv 8) pa_nil)) pa_nil)))))))))
      (pss_one (ps_ret (pv 3)))))))), ?_⟩
    have okF := steps_ok oks (by omega) hl (s := 0) (f := 1) (by decide)
    have okB := steps_ok oks (by omega) hl (s := 1) (f := 0) (by decide)
    refine ⟨_, rfl, m, n, evs, 0, 1, rfl, hM, by omega, by omega, hl, by decide, by decide, oks, fun Fo H1 s1 hFo LF => ?_⟩
    refine ⟨_, rfl, m, n, evs, 1, 0, rfl, hM.keep (Keep.of s1), by omega, by omega, hl, by decide, by decide, oks, fun Bk H2 s2 hBk LB => ?_⟩
    refine ⟨Nat.zero_le _, fun D hD => ⟨rfl, fun Pl hPl => ?_⟩⟩
    have sD := Same.new (o := .lst []) hD
    have sP := Same.new (o := SetO w Pl (fun _ => false) 0) hPl
    have s12 := s1.trans s2
    have hD0 : H D = none := s12.free hD
    have hP0 : H Pl = none := (s12.trans sD).free hPl
    have nDP : D ≠ Pl := ne_of_none upd_same hPl
    have hDD := sP _ _ (upd_same (H := H2) (a := D) (o := .lst []))
    have hPP := upd_same (H := upd H2 D (.lst [])) (a := Pl) (o := SetO w Pl (fun _ => false) 0)
    have s0 := (s12.trans sD).trans sP
    have LF2 := LF.same s2
    have LB2 := LB
    have s23 := sD.trans sP
    generalize upd (upd H2 D (.lst [])) Pl (SetO w Pl (fun _ => false) 0) = H3 at hDD hPP s0 s23 ⊢
    refine ⟨_, rfl, m, n, evs, rfl, hM.keep (Keep.of s0), n1, n60, hl, oks, fun rq H4 s4 hI => ?_⟩
    obtain ⟨_, er, hrq⟩ := hI
    cases er
    refine ⟨rq, rfl, ⟨_, hrq⟩, ?_⟩
    generalize hrs : rchL evs n.toNat 0 = rs at hrq k
    have lrs : rs.length ≤ 60 := by
      rw [← hrs]
      unfold rchL
      exact Nat.le_trans pick_len (by omega)
    have hin : ∀ s ∈ rs, 0 ≤ s ∧ s < n := fun s hs => by
      rw [← hrs] at hs
      have := (pick_mem.mp hs).1
      omega
    have hD2 := hD
    have hP2 : H2 Pl = none := sD.free hPl
    have s24 := s23.trans s4
    refine for_tup (K := K) (a := rq) (xs := rs.map V.int) (fun i σ H' => Same H2 H' ∧ Keep H4 H' ∧ ∃ (u5 u6 u7 u8 : Option V) (S : Int → Bool) (cnt : Nat), σ = [some m, some (.ref Fo), some (.ref Bk), some (.ref D), some (.ref Pl), u5, u6, u7, u8] ∧
        LTs K H' D (kn (mutL evs n.toNat) (rs.take i)).1 ∧ H' Pl = some (SetO w Pl S cnt) ∧ (∀ k, S k = decide (k ∈ (kn (mutL evs n.toNat) (rs.take i)).2)) ∧ cnt ≤ 60 * i)
      ⟨s24, Keep.refl _, none, none, none, none, _, 0, rfl, ⟨[], s4 _ _ hDD, .nil⟩, s4 _ _ hPP, fun k => by simp [kn], Nat.zero_le _⟩ (fun i σ H' _ z => SqT.keep z.2.1 hrq) ?_ ?_
    · rintro i y σ Ha hi ⟨sa, ka, u5, u6, u7, u8, S, cnt, rfl, hDa, hPa, hSS, hcnt⟩
      obtain ⟨s, hs, rfl⟩ : ∃ s, rs[i]? = some s ∧ y = V.int s := by
        rw [List.getElem?_map] at hi
        cases z : rs[i]? with
        | none => rw [z] at hi; cases hi
        | some n => rw [z] at hi; exact ⟨n, rfl, (Option.some.inj hi).symm⟩
      have il := (List.getElem?_eq_some_iff.mp hs).1
      obtain ⟨q0, q1⟩ := hin s (List.mem_of_getElem? hs)
      have tk := take_succ hs
      have kl := kn_len (mutL evs n.toNat) (rs.take i) ([], [])
      have ltk : (rs.take i).length = i := by rw [List.length_take]; omega
      rw [ltk] at kl
      have kl : (kn (mutL evs n.toNat) (rs.take i)).1.length ≤ 0 + i := kl
      have snoc : kn (mutL evs n.toNat) (rs.take (i + 1)) = knF (mutL evs n.toNat) (kn (mutL evs n.toNat) (rs.take i)) s := by rw [tk, kn_snoc]
      generalize kn (mutL evs n.toNat) (rs.take i) = acc at hDa hSS kl snoc
      refine ⟨_, rfl, _, rfl, s, Pl, S, cnt, rfl, rfl, hPa, _, rfl, ?_⟩
      rw [hSS s]
      by_cases c : s ∈ acc.2
      · rw [decide_eq_true c]
        have e : knF (mutL evs n.toNat) acc s = acc := if_pos c
        rw [e] at snoc
        refine iteT ⟨sa, ka, _, _, _, _, S, cnt, rfl, by rw [snoc]; exact hDa, hPa, fun k => by rw [snoc]; exact hSS k, by omega⟩
      · rw [decide_eq_false c]
        have e : knF (mutL evs n.toNat) acc s = (acc.1 ++ [mutL evs n.toNat s], acc.2 ++ mutL evs n.toNat s) := if_neg c
        rw [e] at snoc
        refine iteF ⟨_, rfl, _, rfl, Bk, s, _, rfl, LB2.same sa, q0, by rw [stepsAll_len]; omega, by rw [stepsAll_len]; omega, okB, fun F1 Hb ks1 sb _ hF1 nd1 hk1 lk1 => ?_⟩
        refine ⟨_, rfl, _, rfl, Fo, s, _, rfl, (LF2.same sa).same sb, q0, by rw [stepsAll_len]; omega, by rw [stepsAll_len]; omega, okF, fun F2 Hc ks2 sc _ hF2 nd2 hk2 lk2 => ?_⟩
        rw [stepsAll_len] at lk2
        refine ⟨F2, dTr ks2, ks2, rfl, .inl hF2, dTr_keys ks2, by omega, fun ys p pm pw hp => ⟨p, rfl, ⟨_, SqL.lt upd_same⟩, fun Dk hDk => ?_⟩⟩
        have sp := Same.new (o := .lst (ys.map V.int)) hp
        have ly : ys.length < sizeLine := by
          rw [pm.length_eq]
          exact Nat.lt_of_le_of_lt (show ks2.length ≤ 60 by omega) (by decide)
        refine lcIS (K := K) (a := p) (ns := ys) (fun x => decide (x ∈ ks1)) (SqL.lt upd_same) hDk ly (fun x Hx Q1 Q2 hx sx h1 h2 => ⟨rfl, _, rfl, _, rfl, F1, _, rfl, DGet.k (k := Sum.inl x) (sx _ _ (sp _ _ (sc _ _ hF1))), _, rfl, ?_⟩) ?_
        · rw [dTr_has]
          cases c : decide (x ∈ ks1) with
          | true => exact iteT ⟨_, rfl, h1 c⟩
          | false => exact iteF (h2 c)
        have em : ys.filter (fun x => decide (x ∈ ks1)) = mutL evs n.toNat s := pick_eq ((srt_of pm pw nd2).filter _) fun x => by
          rw [List.mem_filter, pm.mem_iff, hk2 x]
          have rin : ∀ {x : Int}, Rch (stepsAll evs 0 1 n.toNat) s x → 0 ≤ x ∧ x < (n.toNat : Int) := fun r => by
            have z := r.in_ (fun ns h => (okF ns h).2) ⟨q0, by rw [stepsAll_len]; omega⟩
            rw [stepsAll_len] at z
            exact z
          refine ⟨fun ⟨h1, h2⟩ => ⟨rin h1, h1, ?_⟩, fun ⟨h0, h1, h2⟩ => ⟨h1, ?_⟩⟩
          · exact rch_rev oks (by omega) hl (s := 1) (f := 0) (by decide) (by decide) ⟨q0, q1⟩ ((hk1 x).mp (of_decide_eq_true h2))
          · exact decide_eq_true ((hk1 x).mpr (rch_rev oks (by omega) hl (s := 0) (f := 1) (by decide) (by decide) (by omega) h2))
        rw [em]
        have lm : (mutL evs n.toNat s).length ≤ 60 := Nat.le_trans pick_len (by omega)
        have sDk := Same.new (o := .lst ((mutL evs n.toNat s).map V.int)) hDk
        have sad := ((sb.trans sc).trans sp).trans sDk
        have hKd := upd_same (H := upd Hc p (.lst (ys.map V.int))) (a := Dk) (o := .lst ((mutL evs n.toNat s).map V.int))
        clear em
        generalize mutL evs n.toNat s = kk at lm sad hKd snoc ⊢
        have nPk : Dk ≠ Pl := fun z => by
          have := sp _ _ (sc _ _ (sb _ _ hPa))
          rw [← z, hDk] at this
          cases this
        have nDk : D ≠ Dk := fun z => by
          obtain ⟨_, hx, _⟩ := hDa
          have := sp _ _ (sc _ _ (sb _ _ hx))
          rw [z, hDk] at this
          cases this
        generalize upd (upd Hc p (.lst (ys.map V.int))) Dk (.lst (kk.map V.int)) = Hd at sad hKd ⊢
        refine ⟨_, rfl, Dk, rfl, ⟨_, SqL.lt hKd⟩, ?_⟩
        refine for_list (K := K) (a := Dk) (xs := kk.map V.int) (fun j σ H' => But [Pl] Hd H' ∧ ∃ (u7 : Option V) (S : Int → Bool) (cnt : Nat), σ = [some m, some (.ref Fo), some (.ref Bk), some (.ref D), some (.ref Pl), some (.int s), some (.ref F1), u7, some (.ref Dk)] ∧
            H' Pl = some (SetO w Pl S cnt) ∧ (∀ k, S k = decide (k ∈ acc.2 ++ kk.take j)) ∧ cnt ≤ 60 * i + j)
          ⟨But.refl _ _, u7, S, cnt, rfl, sad _ _ hPa, fun k => by rw [hSS k, List.take_zero, List.append_nil], by omega⟩ (fun j σ H' _ z => SqL.lt (z.1 _ _ (by simpa using nPk) hKd)) ?_ ?_
        · rintro j y σ He hj ⟨be, u7, S, cnt, rfl, hPe, hSe, hce⟩
          obtain ⟨x, hx, rfl⟩ : ∃ x, kk[j]? = some x ∧ y = V.int x := by
            rw [List.getElem?_map] at hj
            cases z : kk[j]? with
            | none => rw [z] at hj; cases hj
            | some n => rw [z] at hj; exact ⟨n, rfl, (Option.some.inj hj).symm⟩
          have jl := (List.getElem?_eq_some_iff.mp hx).1
          refine ⟨_, rfl, ⟨Pl, S, cnt, rfl, hPe⟩, _, rfl, Pl, x, S, cnt, rfl, rfl, hPe, (by unfold scanBound; omega), ?_⟩
          refine ⟨be.trans (But.at (by simp)), _, _, _, rfl, upd_same, fun k => ?_, ?_⟩
          · rw [take_succ hx, hSe k]
            show (decide (k ∈ acc.2 ++ kk.take j) || decide (k = x)) = _
            rw [← List.append_assoc]
            simp [List.mem_append, Bool.or_assoc]
          · split <;> omega
        · rintro σ He ⟨be, u7, S', cnt', rfl, hPe, hSe, hce⟩
          rw [List.length_map, List.take_length] at hSe
          rw [List.length_map] at hce
          obtain ⟨xs, hx, al⟩ := hDa
          have hPd := sad _ _ hPa
          have kde := But.keep1 hPd rfl be
          have hxe := be _ _ (by simpa using nDP) (sad _ _ hx)
          have hke := be _ _ (by simpa using nPk) hKd
          have lx := al.len
          refine ⟨_, rfl, .inl ⟨rfl, _, SqL.lt hxe⟩, _, rfl, Dk, _, rfl, .inl ⟨SqL.lt hke, fun q hq => ?_⟩⟩
          have sq := Same.new (o := .tup (kk.map V.int)) hq
          refine ⟨D, xs, _, rfl, rfl, sq _ _ hxe, Nat.lt_of_le_of_lt (show xs.length ≤ 1000 by omega) (by decide), ?_⟩
          have kp := Keep.lst (o := .lst (xs ++ [.ref q])) (sq _ _ hxe)
          have kall : Keep Ha (upd He q (.tup (kk.map V.int))) := ((Keep.of sad).trans kde).trans (Keep.of sq)
          refine ⟨Same.chg ((Same.but (sa.trans sad) be fun x hx => by
            have e : x = Pl := by simpa using hx
            rw [e]; exact hP2).trans sq) hD2, (ka.trans kall).trans kp, _, _, _, _, S', cnt', rfl, ?_, ?_, fun k => by rw [snoc]; exact hSe k, by omega⟩
          · rw [snoc]
            exact ⟨_, upd_same, (al.imp fun _ _ z => (z.keep kall).keep kp).snoc ((IT.new (K := K) (H := He) (p := q) (xs := kk.map V.int) rfl).keep kp)⟩
          · rw [upd_ne nDP.symm]
            exact sq _ _ hPe
    · rintro σ Ha ⟨sa, ka, u5, u6, u7, u8, S, cnt, rfl, hDa, hPa, hSS, hcnt⟩
      rw [List.length_map, List.take_length] at hDa
      exact ⟨_, rfl, k D Ha (s12.trans sa) hD0 hDa⟩
end
end Myk05

namespace Myk05
open PySem L2 My EnT
-- Same from behind
local macro_rules | `(tactic| nest_cls) => `(tactic| first
  | exact Same.refl _
  | assumption
  | (refine Same.back (Same.new (by assumption)) ?_; nest_cls)
  | (refine Same.back (by assumption) ?_; nest_cls)
  | (refine Same.chg ?_ (by first | assumption | exact Free.flip (by assumption) (by nest_cls)); nest_cls))
-- Keep from behind
local macro_rules | `(tactic| mem_news) => `(tactic| first
  | exact Keep.refl _
  | assumption
  | (refine Keep.back (Keep.new (by assumption)) ?_; mem_news)
  | (refine Keep.back (Keep.lst (by assumption)) ?_; mem_news)
  | (refine Keep.back (Keep.lst (by kd_adr)) ?_; mem_news)
  | (refine Keep.back (Keep.of (by assumption)) ?_; mem_news)
  | (refine Keep.back (Keep.ofBut (by assumption) (by kba_ints)) ?_; mem_news)
  | (refine Keep.back (by assumption) ?_; mem_news))
-- the pot
local macro_rules | `(tactic| kba_ints) => `(tactic| first
  | assumption
  | (refine Pt.At.back (Same.new (by assumption)) ?_; kba_ints)
  | (refine Pt.At.back (by assumption) ?_; kba_ints)
  | exact Pt.At.flip (by assumption) (by nest_cls))
-- a fact of a heap, from behind
local macro_rules | `(tactic| kd_adr) => `(tactic| first
  | ((with_reducible show IT _ _ _ _); first
    | assumption
    | exact IT.new2
    | exact IT.new1
    | exact IT.new3
    | exact IT.new4
    | exact IT.flip (by assumption) (by mem_news)
    | exact IT.flip IT.new2 (by mem_news)
    | exact IT.flip IT.new3 (by mem_news)
    | exact IT.flip IT.new1 (by mem_news)
    | exact IT.flip IT.new4 (by mem_news))
  | ((with_reducible show ITs _ _ _ _); first
    | assumption
    | exact ITs.flip (by assumption) (by mem_news))
  | ((with_reducible show SqT _ _ _ _); first
    | assumption
    | exact SqT.lt upd_same
    | exact SqT.lt (by assumption)
    | exact IT.sq (by assumption)
    | exact SqT.flip (by assumption) (by mem_news)
    | exact SqT.flip (SqT.lt (by assumption)) (by mem_news)
    | exact SqT.flip (IT.sq (by assumption)) (by mem_news)
    | exact SqT.flip (SqT.lt upd_same) (by mem_news))
  | ((with_reducible show SqL _ _ _ _); first
    | assumption
    | exact SqL.lt upd_same
    | exact SqL.lt (by assumption)
    | exact SqL.flip (by assumption) (by nest_cls)
    | exact SqL.flip (SqL.lt (by assumption)) (by nest_cls)
    | exact SqL.flip (SqL.lt upd_same) (by nest_cls))
  | ((with_reducible show Parts _ _ _ _ _); first | assumption | exact Parts.flip (by assumption) (by mem_news))
  | ((with_reducible show MachAt _ _ _ _ _ _); first | assumption | exact MachAt.flip (by assumption) (by mem_news))
  | ((with_reducible show ShIs _ _ _ _ _); first | assumption | exact ShIs.flip (by assumption) (by mem_news))
  | ((with_reducible show RunIs _ _ _ _ _); first | assumption | exact RunIs.flip (by assumption) (by mem_news))
  | ((with_reducible show LTs _ _ _ _); first | assumption | exact LTs.flip (by assumption) (by nest_cls))
  | ((with_reducible show Pt.At _ _); kba_ints)
  | ((with_reducible show Same _ _); nest_cls)
  | ((with_reducible show Keep _ _); mem_news)
  | ((with_reducible show (_ : Hp) _ = some _); first
    | assumption
    | exact upd_same
    | exact At.flip (by assumption) (by nest_cls)
    | exact At.flip upd_same (by nest_cls)))
-- a side condition
local macro_rules | `(tactic| leaf_len) => `(tactic| first
  | (with_reducible rfl)
  | (with_reducible assumption)
  | kd_adr
  | omega
  | ((with_reducible show (_ : Nat) ≤ sizeLine); first | (show 1 ≤ sizeLine; decide) | (show 2 ≤ sizeLine; decide) | (show 3 ≤ sizeLine; decide) | (show 4 ≤ sizeLine; decide) | (show 5 ≤ sizeLine; decide) | (show 6 ≤ sizeLine; decide) | (show 7 ≤ sizeLine; decide) | (show 8 ≤ sizeLine; decide) | (show 0 ≤ sizeLine; decide))
  | exact rfl
  | ((with_reducible show _ ∨ _); first | exact Or.inl (by leaf_len) | exact Or.inr (by leaf_len))
  | exact List.cons_ne_nil _ _
  | exact mf_ev _ _
  | exact mf_st _ _
  | exact flat_ints _
  | ((with_reducible show tyV _ _ _ _); exact Or.inl ⟨rfl, _, by kd_adr⟩)
  | ((with_reducible show ClsV _ _); exact ClsV.ty _)
  | ((with_reducible show CDivW _ _); exact CDivW.of (by omega) (by omega))
  | (apply Exists.intro (α := List V); kd_adr)
  | assumption
  | ((with_reducible show small _); unfold small; omega)
  | ((with_reducible show CPow _ _); exact ⟨by decide, by decide, by decide⟩)
  | ((with_reducible show CMul _ _); first | exact CMul.l (by omega) (by omega) | exact CMul.r (by omega) (by omega))
  | ((with_reducible show CMulW _ _); exact CMulW.of (by omega) (by omega))
  | ((with_reducible show TyX _ _ _ _); first | exact TyX.base (.int _) | exact TyX.base (.str _) | exact TyX.base (.bl _) | exact tyT (by kd_adr) | exact TyX.base (.lst (by kd_adr)))
  | ((with_reducible show PySem.W.kitOne _ _ _ = some _); first | exact kit_ty (r := true) (by decide +kernel) | exact kit_ty (r := false) (by decide +kernel))
  | decide)
-- a step
local macro_rules | `(tactic| l_ints) => `(tactic| first
  | (intro (p : Addr) (hp : (_ : Hp) p = none))
  | (intro (H' : Hp) (s : Same _ H'))
  | (intro (p : Addr) (H' : Hp) (s : Same _ H'))
  | (intro (h : IT _ _ _ _))
  | (intro (h : SqT _ _ _ _))
  | (intro (h : (_ : Hp) _ = none))
  | (intro (h : (_ : Hp) _ = some _))
  | ((with_reducible show rCatA _ _ _ _ _); refine catJ (by kd_adr) (by kd_adr) (by leaf_len) ?_)
  | ((with_reducible show rSlA _ _ none (some _) _ _); refine slTake (by kd_adr) (by omega) ?_)
  | with_reducible refine tC_i ?_
  | with_reducible refine tNil_i ?_
  | with_reducible refine tCons_i ?_
  | with_reducible refine tCall_i ?_
  | with_reducible refine tOp_i ?_
  | ((with_reducible refine tVar_i ?_ ?_); · exact rfl)
  | with_reducible refine iteT ?_
  | with_reducible refine iteF ?_
  | (with_reducible refine iteNEq ?_ ?_; · assumption)
  | (with_reducible refine iteNb ?_ ?_; · assumption)
  | (with_reducible refine iteTb ?_ ?_; · assumption)
  | (with_reducible refine iteFb ?_ ?_; · assumption)
  | ((with_reducible refine iteFb ?_ ?_); · exact rfl)
  | ((with_reducible refine iteTb ?_ ?_); · exact rfl)
  | with_reducible refine iteST rfl ?_
  | with_reducible refine iteSF (by decide +kernel) ?_
  | (refine And.intro ?_ ?_; · leaf_len)
  | apply Exists.intro (α := V)
  | apply Exists.intro (α := Int)
  | apply Exists.intro (α := Addr)
  | apply Exists.intro (α := List V)
  | apply Exists.intro (α := Str)
  | apply Exists.intro (α := Nat)
  | apply Exists.intro (α := Bool)
  | apply Exists.intro (α := Value)
  | apply Exists.intro (α := List Int)
  | apply Exists.intro (α := List (List Int))
  | apply Exists.intro (α := List Bool)
  | apply Exists.intro (α := List (Str × V))
  | apply Exists.intro (α := Option (List (Option Int)))
  | apply Exists.intro (α := Option Int)
  | apply Exists.intro (α := Pt)
  | refine Or.inr ⟨_, rfl, ?_⟩
  | apply Or.inl)

section
variable {P : Program} {w : World} {K : PySem.W.Frag} {mg : Str → Option Value} {base : Heap} {A : Ad}
theorem mem_F {n : Int} {evs : List (List Int)} {k x : Int} (k0 : 0 ≤ k) (h : x ∈ (stepsAll evs 0 1 n.toNat).getD k.toNat []) : ∃ e ∈ evs, e.getD 0 0 = k ∧ e.getD 1 0 = x := by
  rw [stepsAll_getD] at h
  split at h
  · unfold stepsOf at h
    obtain ⟨e, he, rfl⟩ := List.mem_map.mp h
    obtain ⟨h1, h2⟩ := List.mem_filter.mp he
    have := eq_of_beq h2
    exact ⟨e, h1, by omega, rfl⟩
  · cases h
theorem of_F {n : Int} {evs : List (List Int)} (oks : ∀ e ∈ evs, okEv n e) {e : List Int} (he : e ∈ evs) : e.getD 1 0 ∈ (stepsAll evs 0 1 n.toNat).getD (e.getD 0 0).toNat [] := by
  obtain ⟨y, _, e2, h0, h1⟩ := okAt (oks e he) (s := 0) (by decide)
  rw [stepsAll_getD, e2, if_pos (by omega)]
  unfold stepsOf
  refine List.mem_map.mpr ⟨e, List.mem_filter.mpr ⟨he, ?_⟩, rfl⟩
  rw [e2]
  simp
  omega
theorem inV_ints (x : Int) : ∀ ns : List Int, inV (.int x) (ns.map V.int) = decide (x ∈ ns)
  | [] => by simp [inV]
  | n :: ns => by
    have ih := inV_ints x ns
    unfold inV at ih ⊢
    rw [List.map_cons, List.any_cons, ih]
    show ((n == x) || decide (x ∈ ns)) = decide (x ∈ n :: ns)
    by_cases c : x = n
    · subst c; simp
    · have c' : ¬ n = x := fun z => c z.symm
      simp [c, c']
theorem flat_ints : ∀ ns : List Int, (ns.map V.int).all flatV = true
  | [] => rfl
  | n :: ns => by rw [List.map_cons, List.all_cons, flat_ints ns]; rfl
def spFrom (K : PySem.W.Frag) : Sp := fun vs H Q _ => ∃ (x : V) (s n : Int) (evs : List (List Int)), vs = [x, .int s] ∧ Parts K H x n evs ∧ 0 ≤ s ∧ s < n ∧ n ≤ 60 ∧ evs.length ≤ 1000 ∧ (∀ e ∈ evs, okEv n e) ∧
  ∀ (D : Addr) (H' : Hp) (ks : List Int), Same H H' → H D = none → H' D = some (.lst (ks.map V.int)) → ks.Nodup → (∀ k, k ∈ ks ↔ Rch (stepsAll evs 0 1 n.toNat) s k) → ks.length ≤ n.toNat → Q (.ref D) H'

theorem sc_law_from : FnScope ["parts", "start", "found", "at", "before", "after", "tries", "points"] ["parts", "start"] (defScope s_law_from) := ⟨rfl, rfl, rfl, by decide +kernel, rfl, by decide +kernel, by decide +kernel⟩
theorem ok_law_from (T : Txt K mg A) : FnOk P w K mg base CX0 1 A.f_law_from A.d_law_from ["parts", "start"] (spFrom K) := by
  refine T.F_law_from.ok sc_law_from (fun vs H Q E h => ?_) (fun cdv A1 outer s H vs Q E hr h => ?_)
  · obtain ⟨x, s, n, evs, rfl, _⟩ := h
    rfl
  · obtain ⟨x, st, n, evs, rfl, hP, s0, s1, n60, hl, oks, k⟩ := h
    refine ⟨_, (pss_cons (ps_set (i := 2) sc_law_from.nd rfl (Or.inl rfl) (pe_lst (pa_cons (pv 1) pa_nil)))
      (pss_cons (ps_for PassesOwn.never rfl (pi_range1 rfl T.z_range (pa_cons (pe_ix (ix_tupK K rfl) (pv 0) pe_int (fun _ _ => rfl)) pa_nil)) (pg_name (i := 3) sc_law_from.nd rfl (Or.inl rfl))
        (pss_one (ps_if (pt_cmpR op_lt (pv 3) (pe_callB (call_lenK K rfl) (by rfl) T.z_len (by decide +kernel) (pa_cons (pv 2) pa_nil)) (nomark _)) (pss_one (ps_for PassesOwn.never rfl (pi_tup (pe_ix (ix_tupK K rfl) (pv 0) pe_int (fun _ _ => rfl))) (pg_tupK K rfl 4 rfl (pgs_cons (pg_name (i := 4) sc_law_from.nd rfl (Or.inl rfl)) (pgs_cons (pg_name (i := 5) sc_law_from.nd rfl (Or.inl rfl)) (pgs_cons (pg_name (i := 6) sc_law_from.nd rfl (Or.inl rfl)) (pgs_cons (pg_name (i := 7) sc_law_from.nd rfl (Or.inl rfl)) pgs_nil)))) rfl rfl)
        (pss_one (ps_if (PW.pt (pw_and (pt_cmpR op_eq (pv 4) (pe_ix (ix_listK K rfl) (pv 2) (pv 3) (fun _ _ => rfl)) (nomark _)) (pw_and1 (pt_cmpR (op_notInK K rfl) (pv 5) (pv 2) (by with_unfolding_all rfl))))) (pss_one (ps_expr (pe_bm PySem.F.plainAttrs_list PySem.F.slot_list_append PySem.F.type_list_append mt_append (pv 2) (pa_cons (pv 5) pa_nil)))) pss_nil)))) pss_nil)))
      (pss_one (ps_ret (pv 2))))), ?_⟩
    have lF : (stepsAll evs 0 1 n.toNat).length = n.toNat := stepsAll_len
    refine ⟨_, rfl, (by show 1 ≤ sizeLine; decide), fun D hD => ?_⟩
    have sD := Same.new (o := .lst [.int st]) hD
    refine ⟨_, rfl, ixP0 (hP.keep (Keep.of sD)) ⟨n, rfl, by omega, by omega, ?_⟩⟩
    refine for_range (lo := 0) (n := n.toNat) (fun i σ H' => Same H H' ∧ ∃ (ks : List Int) (u3 u4 u5 u6 u7 : Option V), σ = [some x, some (.int st), some (.ref D), u3, u4, u5, u6, u7] ∧ H' D = some (.lst (ks.map V.int)) ∧ Spr (stepsAll evs 0 1 n.toNat) st ks [] ∧
        ∀ k ∈ ks.take i, ∀ y ∈ (stepsAll evs 0 1 n.toNat).getD k.toNat [], y ∈ ks)
      ⟨sD, [st], none, none, none, none, none, rfl, upd_same, ⟨by simp, fun k hk => ?_, fun k hk => ?_, by simp, fun k hk => by cases hk⟩, fun k hk => by simp at hk⟩ ?_ ?_
    · rw [show k = st by simpa using hk, lF]
      omega
    · rw [show k = st by simpa using hk]
      exact .refl
    · rintro i σ H1 hi ⟨s1', ks, u3, u4, u5, u6, u7, rfl, hD1, sp, cl⟩
      have lk := sp.len
      rw [lF] at lk
      refine ⟨_, rfl, _, rfl, D, _, rfl, .inl (SqL.lt hD1), _, _, rfl, rfl, _, rfl, ?_⟩
      rw [List.length_map]
      by_cases c : i < ks.length
      · have e : decide ((0 + (i : Int)) < (ks.length : Int)) = true := decide_eq_true (by omega)
        rw [e]
        have hk := List.getElem?_eq_getElem c
        generalize ks[i] = kk at hk
        have kin := sp.in_ kk (List.mem_of_getElem? hk)
        refine iteT ⟨_, rfl, ixP1 (hP.keep (Keep.of s1')) fun w hw => ?_⟩
        obtain ⟨xw, xs, rfl, hx, al⟩ := hw
        refine ⟨xw, rfl, ⟨_, hx⟩, ?_⟩
        refine for_tup (K := K) (a := xw) (xs := xs) (fun j σ H' => Same H H' ∧ Keep H1 H' ∧ ∃ (ks1 : List Int) (u4 u5 u6 u7 : Option V), σ = [some x, some (.int st), some (.ref D), some (.int (0 + (i : Int))), u4, u5, u6, u7] ∧ H' D = some (.lst (ks1.map V.int)) ∧ Spr (stepsAll evs 0 1 n.toNat) st ks1 [] ∧
            (∃ r, ks1 = ks ++ r) ∧ ∀ e ∈ evs.take j, e.getD 0 0 = kk → e.getD 1 0 ∈ ks1)
          ⟨s1', Keep.refl _, ks, _, _, _, _, rfl, hD1, sp, ⟨[], by simp⟩, fun e he => by simp at he⟩ (fun j σ H' _ z => SqT.keep z.2.1 hx) ?_ ?_
        · rintro j y σ H2 hj ⟨s2, k2, ks1, u4, u5, u6, u7, rfl, hD2, sp1, ⟨r, er⟩, cl1⟩
          obtain ⟨e, he, hI⟩ := al.getL hj
          have hem := List.mem_of_getElem? he
          obtain ⟨b, a, t, p, rfl⟩ := (oks e hem).four
          obtain ⟨z, rfl, hz⟩ := hI.keep k2
          have tk := take_succ he
          have hk1 : ks1[i]? = some kk := by rw [er, List.getElem?_append_left c]; exact hk
          have lk1 := sp1.len
          rw [lF] at lk1
          obtain ⟨_, _, a0, a1⟩ : (0 ≤ b ∧ b < n ∧ 0 ≤ a ∧ a < n) := by
            obtain ⟨b', a', t', p', h, h1, h2, h3, h4, _⟩ := oks _ hem
            injection h with h5 h6
            injection h6 with h7 h8
            rw [h5, h7]
            exact ⟨h1, h2, h3, h4⟩
          refine ⟨z, _, rfl, hz, rfl, .int b, _, rfl, .int a, _, rfl, .int t, _, rfl, .int p, _, rfl, rfl, ?_⟩
          dsimp only
          refine ⟨_, rfl, _, rfl, _, rfl, D, _, 0 + (i : Int), .int kk, rfl, rfl, SqL.lt hD2, at_ge (by omega) (by rw [show (0 + (i : Int)).toNat = i by omega, List.getElem?_map, hk1]; rfl), rfl, _, rfl, ?_⟩
          have stay : (b = kk → a ∈ ks1) → ∀ e ∈ evs.take (j + 1), e.getD 0 0 = kk → e.getD 1 0 ∈ ks1 := fun hh e he hb => by
            rw [tk] at he
            rcases List.mem_append.mp he with he | he
            · exact cl1 e he hb
            · rw [show e = [b, a, t, p] by simpa using he] at hb ⊢
              exact hh hb
          by_cases c1 : b = kk
          · have e1 : decide (V.int b = V.int kk) = true := decide_eq_true (congrArg V.int c1)
            rw [e1]
            refine iteT ⟨_, rfl, _, rfl, D, _, rfl, .inl (SqL.lt hD2), rfl, flat_ints _, _, rfl, ?_⟩
            by_cases c2 : a ∈ ks1
            · have ev : inV (.int a) (ks1.map V.int) = true := (inV_ints _ _).trans (decide_eq_true c2)
              rw [ev]
              exact iteF ⟨s2, k2, ks1, _, _, _, _, rfl, hD2, sp1, ⟨r, er⟩, stay fun _ => c2⟩
            · have ev : inV (.int a) (ks1.map V.int) = false := (inV_ints _ _).trans (decide_eq_false c2)
              rw [ev]
              refine iteT ⟨_, rfl, .inl ⟨rfl, _, SqL.lt hD2⟩, _, rfl, D, _, _, rfl, rfl, hD2, ?_, ?_⟩
              · rw [List.length_map]
                exact Nat.lt_of_le_of_lt (show ks1.length ≤ 1000 by omega) (by decide)
              · refine ⟨Same.chg s2 hD, k2.trans (Keep.lst hD2), ks1 ++ [a], _, _, _, _, rfl, by rw [upd_same, List.map_append]; rfl, ⟨?_, fun q hq => ?_, fun q hq => ?_, by simp [sp1.st_], fun q hq => by cases hq⟩, ⟨r ++ [a], by rw [er, List.append_assoc]⟩, fun e he hb => ?_⟩
                · rw [List.nodup_append]
                  refine ⟨sp1.nd, by simp, fun q hq z hz e => ?_⟩
                  have ez : z = a := by simpa using hz
                  rw [e, ez] at hq
                  exact c2 hq
                · rcases List.mem_append.mp hq with hq | hq
                  · exact sp1.in_ q hq
                  · rw [show q = a by simpa using hq, lF]
                    omega
                · rcases List.mem_append.mp hq with hq | hq
                  · exact sp1.rc q hq
                  · rw [show q = a by simpa using hq]
                    refine .step (sp1.rc kk (List.mem_of_getElem? hk1)) ?_
                    have z := of_F oks hem
                    rw [← c1]
                    exact z
                · rw [tk] at he
                  rcases List.mem_append.mp he with he | he
                  · exact List.mem_append.mpr (.inl (cl1 e he hb))
                  · rw [show e = [b, a, t, p] by simpa using he]
                    exact List.mem_append.mpr (.inr (by simp))
          · have e1 : decide (V.int b = V.int kk) = false := decide_eq_false fun z => c1 (by injection z)
            rw [e1]
            exact iteF ⟨s2, k2, ks1, _, _, _, _, rfl, hD2, sp1, ⟨r, er⟩, stay fun h => absurd h c1⟩
        · rintro σ H2 ⟨s2, k2, ks1, u4, u5, u6, u7, rfl, hD2, sp1, ⟨r, er⟩, cl1⟩
          rw [al.len, List.take_length] at cl1
          refine ⟨s2, ks1, _, _, _, _, _, rfl, hD2, sp1, fun q hq y hy => ?_⟩
          have e2 : ks1.take (i + 1) = ks.take i ++ [kk] := by
            rw [er, List.take_append_of_le_length (by omega), take_succ hk]
          rw [e2] at hq
          rcases List.mem_append.mp hq with hq | hq
          · rw [er]
            exact List.mem_append.mpr (.inl (cl q hq y hy))
          · rw [show q = kk by simpa using hq] at hy
            obtain ⟨e, he, h1, h2⟩ := mem_F kin.1 hy
            rw [← h2]
            exact cl1 e he h1
      · have e : decide ((0 + (i : Int)) < (ks.length : Int)) = false := decide_eq_false (by omega)
        rw [e]
        refine iteF ⟨s1', ks, _, _, _, _, _, rfl, hD1, sp, fun q hq => cl q ?_⟩
        rw [List.take_of_length_le (by omega)] at hq ⊢
        exact hq
    · rintro σ H1 ⟨s1', ks, u3, u4, u5, u6, u7, rfl, hD1, sp, cl⟩
      have lk := sp.len
      rw [lF] at lk
      rw [List.take_of_length_le (by omega)] at cl
      exact ⟨_, rfl, k D H1 ks s1' hD hD1 sp.nd (fun q => ⟨sp.rc q, fun r => r.all sp.st_ cl⟩) lk⟩
end
end Myk05

namespace Myk05
open PySem L2 My EnT
-- Same from behind
local macro_rules | `(tactic| nest_cls) => `(tactic| first
  | exact Same.refl _
  | assumption
  | (refine Same.back (Same.new (by assumption)) ?_; nest_cls)
  | (refine Same.back (by assumption) ?_; nest_cls)
  | (refine Same.chg ?_ (by first | assumption | exact Free.flip (by assumption) (by nest_cls)); nest_cls))
-- Keep from behind
local macro_rules | `(tactic| mem_news) => `(tactic| first
  | exact Keep.refl _
  | assumption
  | (refine Keep.back (Keep.new (by assumption)) ?_; mem_news)
  | (refine Keep.back (Keep.lst (by assumption)) ?_; mem_news)
  | (refine Keep.back (Keep.lst (by kd_adr)) ?_; mem_news)
  | (refine Keep.back (Keep.of (by assumption)) ?_; mem_news)
  | (refine Keep.back (Keep.ofBut (by assumption) (by kba_ints)) ?_; mem_news)
  | (refine Keep.back (by assumption) ?_; mem_news))
-- the pot
local macro_rules | `(tactic| kba_ints) => `(tactic| first
  | assumption
  | (refine Pt.At.back (Same.new (by assumption)) ?_; kba_ints)
  | (refine Pt.At.back (by assumption) ?_; kba_ints)
  | exact Pt.At.flip (by assumption) (by nest_cls))
-- a fact of a heap, from behind
local macro_rules | `(tactic| kd_adr) => `(tactic| first
  | ((with_reducible show IT _ _ _ _); first
    | assumption
    | exact IT.new2
    | exact IT.new1
    | exact IT.new3
    | exact IT.new4
    | exact IT.flip (by assumption) (by mem_news)
    | exact IT.flip IT.new2 (by mem_news)
    | exact IT.flip IT.new3 (by mem_news)
    | exact IT.flip IT.new1 (by mem_news)
    | exact IT.flip IT.new4 (by mem_news))
  | ((with_reducible show ITs _ _ _ _); first
    | assumption
    | exact ITs.flip (by assumption) (by mem_news))
  | ((with_reducible show SqT _ _ _ _); first
    | assumption
    | exact SqT.lt upd_same
    | exact SqT.lt (by assumption)
    | exact IT.sq (by assumption)
    | exact SqT.flip (by assumption) (by mem_news)
    | exact SqT.flip (SqT.lt (by assumption)) (by mem_news)
    | exact SqT.flip (IT.sq (by assumption)) (by mem_news)
    | exact SqT.flip (SqT.lt upd_same) (by mem_news))
  | ((with_reducible show SqL _ _ _ _); first
    | assumption
    | exact SqL.lt upd_same
    | exact SqL.lt (by assumption)
    | exact SqL.flip (by assumption) (by nest_cls)
    | exact SqL.flip (SqL.lt (by assumption)) (by nest_cls)
    | exact SqL.flip (SqL.lt upd_same) (by nest_cls))
  | ((with_reducible show Parts _ _ _ _ _); first | assumption | exact Parts.flip (by assumption) (by mem_news))
  | ((with_reducible show MachAt _ _ _ _ _ _); first | assumption | exact MachAt.flip (by assumption) (by mem_news))
  | ((with_reducible show ShIs _ _ _ _ _); first | assumption | exact ShIs.flip (by assumption) (by mem_news))
  | ((with_reducible show RunIs _ _ _ _ _); first | assumption | exact RunIs.flip (by assumption) (by mem_news))
  | ((with_reducible show LTs _ _ _ _); first | assumption | exact LTs.flip (by assumption) (by nest_cls))
  | ((with_reducible show Pt.At _ _); kba_ints)
  | ((with_reducible show Same _ _); nest_cls)
  | ((with_reducible show Keep _ _); mem_news)
  | ((with_reducible show (_ : Hp) _ = some _); first
    | assumption
    | exact upd_same
    | exact At.flip (by assumption) (by nest_cls)
    | exact At.flip upd_same (by nest_cls)))
-- a side condition
local macro_rules | `(tactic| leaf_len) => `(tactic| first
  | (with_reducible rfl)
  | (with_reducible assumption)
  | kd_adr
  | omega
  | ((with_reducible show (_ : Nat) ≤ sizeLine); first | (show 1 ≤ sizeLine; decide) | (show 2 ≤ sizeLine; decide) | (show 3 ≤ sizeLine; decide) | (show 4 ≤ sizeLine; decide) | (show 5 ≤ sizeLine; decide) | (show 6 ≤ sizeLine; decide) | (show 7 ≤ sizeLine; decide) | (show 8 ≤ sizeLine; decide) | (show 0 ≤ sizeLine; decide))
  | exact rfl
  | ((with_reducible show _ ∨ _); first | exact Or.inl (by leaf_len) | exact Or.inr (by leaf_len))
  | exact List.cons_ne_nil _ _
  | exact mf_ev _ _
  | exact mf_st _ _
  | exact flat_ints _
  | ((with_reducible show tyV _ _ _ _); exact Or.inl ⟨rfl, _, by kd_adr⟩)
  | ((with_reducible show ClsV _ _); exact ClsV.ty _)
  | ((with_reducible show CDivW _ _); exact CDivW.of (by omega) (by omega))
  | (apply Exists.intro (α := List V); kd_adr)
  | assumption
  | ((with_reducible show small _); unfold small; omega)
  | ((with_reducible show CPow _ _); exact ⟨by decide, by decide, by decide⟩)
  | ((with_reducible show CMul _ _); first | exact CMul.l (by omega) (by omega) | exact CMul.r (by omega) (by omega))
  | ((with_reducible show CMulW _ _); exact CMulW.of (by omega) (by omega))
  | ((with_reducible show TyX _ _ _ _); first | exact TyX.base (.int _) | exact TyX.base (.str _) | exact TyX.base (.bl _) | exact tyT (by kd_adr) | exact TyX.base (.lst (by kd_adr)))
  | ((with_reducible show PySem.W.kitOne _ _ _ = some _); first | exact kit_ty (r := true) (by decide +kernel) | exact kit_ty (r := false) (by decide +kernel))
  | decide)
-- a step
local macro_rules | `(tactic| l_ints) => `(tactic| first
  | (intro (p : Addr) (hp : (_ : Hp) p = none))
  | (intro (H' : Hp) (s : Same _ H'))
  | (intro (p : Addr) (H' : Hp) (s : Same _ H'))
  | (intro (h : IT _ _ _ _))
  | (intro (h : SqT _ _ _ _))
  | (intro (h : (_ : Hp) _ = none))
  | (intro (h : (_ : Hp) _ = some _))
  | ((with_reducible show rCatA _ _ _ _ _); refine catJ (by kd_adr) (by kd_adr) (by leaf_len) ?_)
  | ((with_reducible show rSlA _ _ none (some _) _ _); refine slTake (by kd_adr) (by omega) ?_)
  | with_reducible refine tC_i ?_
  | with_reducible refine tNil_i ?_
  | with_reducible refine tCons_i ?_
  | with_reducible refine tCall_i ?_
  | with_reducible refine tOp_i ?_
  | ((with_reducible refine tVar_i ?_ ?_); · exact rfl)
  | with_reducible refine iteT ?_
  | with_reducible refine iteF ?_
  | (with_reducible refine iteNEq ?_ ?_; · assumption)
  | (with_reducible refine iteNb ?_ ?_; · assumption)
  | (with_reducible refine iteTb ?_ ?_; · assumption)
  | (with_reducible refine iteFb ?_ ?_; · assumption)
  | ((with_reducible refine iteFb ?_ ?_); · exact rfl)
  | ((with_reducible refine iteTb ?_ ?_); · exact rfl)
  | with_reducible refine iteST rfl ?_
  | with_reducible refine iteSF (by decide +kernel) ?_
  | (refine And.intro ?_ ?_; · leaf_len)
  | apply Exists.intro (α := V)
  | apply Exists.intro (α := Int)
  | apply Exists.intro (α := Addr)
  | apply Exists.intro (α := List V)
  | apply Exists.intro (α := Str)
  | apply Exists.intro (α := Nat)
  | apply Exists.intro (α := Bool)
  | apply Exists.intro (α := Value)
  | apply Exists.intro (α := List Int)
  | apply Exists.intro (α := List (List Int))
  | apply Exists.intro (α := List Bool)
  | apply Exists.intro (α := List (Str × V))
  | apply Exists.intro (α := Option (List (Option Int)))
  | apply Exists.intro (α := Option Int)
  | apply Exists.intro (α := Pt)
  | refine Or.inr ⟨_, rfl, ?_⟩
  | apply Or.inl)

section
variable {P : Program} {w : World} {K : PySem.W.Frag} {mg : Str → Option Value} {base : Heap} {A : Ad}
/-! ### data compared -/
structure Nice (n : Nat) (x : PyData) : Prop where
  c : x.canLay0 = true
  d : x.depth ≤ n
  r : PyData.eqv x x = true
theorem Nice.all {n : Nat} : ∀ {ds : List PyData}, (∀ d ∈ ds, Nice n d) → PyData.canLayAll0 ds = true ∧ PyData.depthAll ds ≤ n ∧ PyData.eqvAll ds ds = true
  | [], _ => ⟨rfl, Nat.zero_le _, rfl⟩
  | d :: ds, h => by
    obtain ⟨h1, h2, h3⟩ := h d (by simp)
    obtain ⟨i1, i2, i3⟩ := Nice.all (ds := ds) fun e he => h e (by simp [he])
    refine ⟨?_, ?_, ?_⟩
    · rw [PyData.canLayAll0, h1, i1]; rfl
    · rw [PyData.depthAll]; exact Nat.max_le.mpr ⟨h2, i2⟩
    · rw [PyData.eqvAll, h3, i3]; rfl
theorem Nice.tup {n : Nat} {ds : List PyData} (h : ∀ d ∈ ds, Nice n d) : Nice (n + 1) (.tuple ds) := by
  obtain ⟨h1, h2, h3⟩ := Nice.all h
  exact ⟨by rw [PyData.canLay0]; exact h1, by rw [PyData.depth]; omega, by rw [PyData.eqv]; exact h3⟩
theorem Nice.lst {n : Nat} {ds : List PyData} (h : ∀ d ∈ ds, Nice n d) : Nice (n + 1) (.list ds) := by
  obtain ⟨h1, h2, h3⟩ := Nice.all h
  exact ⟨by rw [PyData.canLay0]; exact h1, by rw [PyData.depth]; omega, by rw [PyData.eqv]; exact h3⟩
theorem Nice.int {n : Nat} (i : Int) : Nice n (.int i) := ⟨by rw [PyData.canLay0], by rw [PyData.depth]; omega, by rw [PyData.eqv]; exact beq_self_eq_true i⟩
theorem Nice.shaped {n : Nat} {d : PyData} (h : Nice n d) (hn : n ≤ 64) : SeqAt.shaped d = true := by
  unfold SeqAt.shaped
  rw [h.c, decide_eq_true (Nat.le_trans h.d hn)]
  rfl
def dI (ns : List Int) : PyData := .tuple (ns.map .int)
def dIs (nss : List (List Int)) : PyData := .list (nss.map dI)
theorem nice_dI (ns : List Int) : Nice 1 (dI ns) := Nice.tup fun d hd => by
  obtain ⟨i, _, rfl⟩ := List.mem_map.mp hd
  exact Nice.int i
theorem nice_dIs (nss : List (List Int)) : Nice 2 (dIs nss) := Nice.lst fun d hd => by
  obtain ⟨i, _, rfl⟩ := List.mem_map.mp hd
  exact nice_dI i
theorem dp_ints {K : PySem.W.Frag} {H : Hp} : ∀ ns : List Int, DpAll K H (ns.map V.int) (ns.map .int)
  | [] => .nil
  | n :: ns => .cons (.int n) (dp_ints ns)
theorem IT.dp {K : PySem.W.Frag} {H : Hp} {v : V} {ns : List Int} (h : IT K H v ns) : Dp K H v (dI ns) := by
  obtain ⟨q, rfl, s⟩ := h
  exact .tup s (dp_ints ns)
theorem dp_its {K : PySem.W.Frag} {H : Hp} {xs : List V} {nss : List (List Int)} (h : All2 (IT K H) xs nss) : DpAll K H xs (nss.map dI) := by
  induction h with
  | nil => exact .nil
  | cons r _ ih => exact .cons (IT.dp r) ih
theorem LTs.dp {K : PySem.W.Frag} {H : Hp} {D : Addr} {nss : List (List Int)} (h : LTs K H D nss) : Dp K H (.ref D) (dIs nss) := by
  obtain ⟨xs, h1, h2⟩ := h
  exact .lst (SqL.lt h1) (dp_its h2)
theorem LTs.same {K : PySem.W.Frag} {H H' : Hp} {D : Addr} {nss : List (List Int)} (h : LTs K H D nss) (s : Same H H') : LTs K H' D nss := h.but (But.of (l := []) s) (Keep.of s) (by simp)
/-- the two are alike: x != y -/
theorem neL {K : PySem.W.Frag} {H : Hp} {D E : Addr} {nss : List (List Int)} {Q : VK} (h : LTs K H D nss) (g : LTs K H E nss) (q : Q (.bl false) H) : rNeD K (.ref D) (.ref E) H Q := by
  have n := nice_dIs nss
  refine ⟨_, _, LTs.dp h, LTs.dp g, n.shaped (by decide), n.shaped (by decide), ?_⟩
  rw [n.r]
  exact q
/-! ### comprehensions by a property of each value -/
theorem all2_unit {P : V → Prop} : ∀ {acc : List V} {us : List Unit}, All2 (fun v _ => P v) acc us → ∀ v ∈ acc, P v
  | _, _, .nil, v, h => by cases h
  | _, _, .cons r t, v, h => by
    rcases List.mem_cons.mp h with e | h
    · rw [e]; exact r
    · exact all2_unit t v h
theorem lcPL {K : PySem.W.Frag} {a D : Addr} {xs : List V} {Pr : Hp → V → Prop} {g : TG} {tt : L2.TT} {te : TE} {vs : List Nat} {σ : L2.St} {H1 : Hp} {Qd : Hp → Prop}
    (hS : SqL K H1 a xs) (hD : H1 D = none) (hl : xs.length < sizeLine) (mono : ∀ H H' v, Keep H H' → Pr H v → Pr H' v)
    (hs : ∀ (i : Nat) (x : V) (H : Hp) (Q1 : Hp → Prop) (Q2 : V → Hp → Prop), xs[i]? = some x → Same H1 H → (∀ y H', Same H H' → Pr H' y → Q2 y H') →
      g x (wipe σ vs) H fun σ2 H2 => wipe σ2 vs = wipe σ vs ∧ tt σ2 H2 fun b H3 => if b = true then te σ2 H3 Q2 else Q1 H3)
    (hd : ∀ H acc, Same H1 H → H D = some (.lst acc) → acc.length = xs.length → (∀ v ∈ acc, Pr H v) → Qd H) :
    ∃ W : Nat → Nat → Hp → Prop, (∃ m, W 0 m (upd H1 D (.lst []))) ∧ ∀ i m H, W i m H →
      ((Itl K a).stop i H ∧ Qd H) ∨ ((Itl K a).go i H ∧ ∃ Nx : Hp → Prop, (∀ H', Nx H' → ∃ m', m' < m ∧ W (i + 1) m' H') ∧ ∀ x H', (Itl K a).yld i H x H' → g x (wipe σ vs) H' fun σ2 H2 => wipe σ2 vs = wipe σ vs ∧ tt σ2 H2 fun b H3 =>
        if b = true then te σ2 H3 fun y H4 => ∃ acc, H4 D = some (.lst acc) ∧ acc.length < sizeLine ∧ Nx (upd H4 D (.lst (acc ++ [y]))) else Nx H3) :=
  lcGL (K := K) (a := a) (xs := xs) (bs := List.replicate xs.length ()) (R := fun H v _ => Pr H v) hS hD (by rw [List.length_replicate]; exact hl) (by rw [List.length_replicate]) (fun H H' v _ => mono H H' v)
    (fun i x b H Q1 Q2 hi _ s k => hs i x H Q1 Q2 hi s k) (fun H acc s hA al => hd H acc s hA (by rw [al.len, List.length_replicate]) (all2_unit al))
/-- over a range, where the pot is drawn from -/
theorem lcBR {p : Pt} {D : Addr} {lo : Int} {n : Nat} {Pr : Hp → V → Prop} {g : TG} {tt : L2.TT} {te : TE} {vs : List Nat} {σ : L2.St} {H1 : Hp} {Qd : Hp → Prop}
    (hp : p.At H1) (hD : H1 D = none) (hl : n < sizeLine) (mono : ∀ H H' v, Keep H H' → Pr H v → Pr H' v)
    (hs : ∀ (i : Nat) (H : Hp) (Q1 : Hp → Prop) (Q2 : V → Hp → Prop), i < n → p.At H → But p.l H1 H → (∀ y H', p.At H' → But p.l H H' → Pr H' y → Q2 y H') →
      g (.int (lo + i)) (wipe σ vs) H fun σ2 H2 => wipe σ2 vs = wipe σ vs ∧ tt σ2 H2 fun b H3 => if b = true then te σ2 H3 Q2 else Q1 H3)
    (hd : ∀ H acc, p.At H → But p.l H1 H → H D = some (.lst acc) → acc.length = n → (∀ v ∈ acc, Pr H v) → Qd H) :
    ∃ W : Nat → Nat → Hp → Prop, (∃ m, W 0 m (upd H1 D (.lst []))) ∧ ∀ i m H, W i m H →
      ((Itr lo n).stop i H ∧ Qd H) ∨ ((Itr lo n).go i H ∧ ∃ Nx : Hp → Prop, (∀ H', Nx H' → ∃ m', m' < m ∧ W (i + 1) m' H') ∧ ∀ x H', (Itr lo n).yld i H x H' → g x (wipe σ vs) H' fun σ2 H2 => wipe σ2 vs = wipe σ vs ∧ tt σ2 H2 fun b H3 =>
        if b = true then te σ2 H3 fun y H4 => ∃ acc, H4 D = some (.lst acc) ∧ acc.length < sizeLine ∧ Nx (upd H4 D (.lst (acc ++ [y]))) else Nx H3) := by
  have fD := hp.fresh hD
  refine lc_range (fun i H => p.At H ∧ But p.l H1 H ∧ ∃ acc, H D = some (.lst acc) ∧ acc.length = i ∧ ∀ v ∈ acc, Pr H v) ⟨hp.same (Same.new hD), But.new hD, [], upd_same, rfl, fun _ h => by cases h⟩ ?_ (fun H ⟨h1, h2, acc, h3, h4, h5⟩ => hd H acc h1 h2 h3 h4 h5)
  rintro i H hi ⟨h1, h2, acc, h3, h4, h5⟩
  refine hs i H _ _ hi h1 h2 fun y H' h1' b r => ⟨acc, b _ _ (Pt.out fD) h3, by omega, ?_⟩
  have kp : Keep H' (upd H' D (.lst (acc ++ [y]))) := Keep.lst (b _ _ (Pt.out fD) h3)
  refine ⟨h1'.but (l := [D]) (But.at (by simp)) (by simp; exact fD.1.symm) (by simp; exact fD.2.1.symm) (by simp; exact fD.2.2.symm), (h2.trans b).chg hD, acc ++ [y], upd_same, by rw [List.length_append, h4]; rfl, fun v hv => ?_⟩
  rcases List.mem_append.mp hv with z | z
  · exact mono _ _ _ kp (mono _ _ _ (h1.keep b) (h5 v z))
  · rw [List.mem_singleton.mp z]; exact mono _ _ _ kp r
theorem walk_last {evs : List (List Int)} {run : List Int} {s : Int} {n : Nat} (h : walkTo evs 0 run = some s) (hn : run.length = n + 1) : ∃ k, run[n]? = some k ∧ s = evA (evs.getD k.toNat []) := by
  have hk := List.getElem?_eq_getElem (show n < run.length by omega)
  refine ⟨_, hk, ?_⟩
  have tk := take_succ hk
  rw [List.take_of_length_le (by omega)] at tk
  rw [tk, walkTo_app] at h
  cases z : walkTo evs 0 (run.take n) with
  | none => rw [z] at h; cases h
  | some t =>
    rw [z] at h
    have h' : (if _ then some _ else none) = some s := h
    split at h'
    · exact (Option.some.inj h').symm
    · cases h'

theorem made_ok {C x dx : Addr} {n : Int} {w : V} {evs : List (List Int)} {H1 : Hp} {Q : Hp → Prop} {E : XK} (hx : H1 x = none) (hd : H1 dx = none) (n0 : 1 ≤ n) (n1 : n ≤ 12) (hw : ITs K H1 w evs) (l30 : evs.length ≤ 30) (ok : ∀ e ∈ evs, okEv n e)
    (k : ∀ H2, Same H1 H2 → MachAt K C H2 (.ref x) n evs → Q H2) : spInitR K C [.ref x, .int n, w] (upd (upd H1 dx (.own x)) x (.ins C dx [])) (fun v H2 => v = .non ∧ Q H2) E := by
  have s1 : Same H1 (upd (upd H1 dx (.own x)) x (.ins C dx [])) := Same.chg (Same.new hd) hx
  refine ⟨x, dx, n, w, evs, rfl, upd_same, n0, n1, hw.keep (Keep.of s1), l30, ok, fun H' hm hk => ⟨rfl, ?_⟩⟩
  have s2 : Same H1 H' := fun b o e => hk b o (ne_of_none e hx) (s1 b o e)
  exact k H' s2 ⟨x, dx, w, rfl, hm, hw.keep (Keep.of s2)⟩

end
end Myk05

namespace Myk05
open PySem L2 My EnT
-- Same from behind
local macro_rules | `(tactic| nest_cls) => `(tactic| first
  | exact Same.refl _
  | assumption
  | (refine Same.back (Same.new (by assumption)) ?_; nest_cls)
  | (refine Same.back (by assumption) ?_; nest_cls)
  | (refine Same.chg ?_ (by first | assumption | exact Free.flip (by assumption) (by nest_cls)); nest_cls))
-- Keep from behind
local macro_rules | `(tactic| mem_news) => `(tactic| first
  | exact Keep.refl _
  | assumption
  | (refine Keep.back (Keep.new (by assumption)) ?_; mem_news)
  | (refine Keep.back (Keep.lst (by assumption)) ?_; mem_news)
  | (refine Keep.back (Keep.lst (by kd_adr)) ?_; mem_news)
  | (refine Keep.back (Keep.of (by assumption)) ?_; mem_news)
  | (refine Keep.back (Keep.ofBut (by assumption) (by kba_ints)) ?_; mem_news)
  | (refine Keep.back (by assumption) ?_; mem_news))
-- the pot
local macro_rules | `(tactic| kba_ints) => `(tactic| first
  | assumption
  | (refine Pt.At.back (Same.new (by assumption)) ?_; kba_ints)
  | (refine Pt.At.back (by assumption) ?_; kba_ints)
  | exact Pt.At.flip (by assumption) (by nest_cls))
-- a fact of a heap, from behind
local macro_rules | `(tactic| kd_adr) => `(tactic| first
  | ((with_reducible show IT _ _ _ _); first
    | assumption
    | exact IT.new2
    | exact IT.new1
    | exact IT.new3
    | exact IT.new4
    | exact IT.flip (by assumption) (by mem_news)
    | exact IT.flip IT.new2 (by mem_news)
    | exact IT.flip IT.new3 (by mem_news)
    | exact IT.flip IT.new1 (by mem_news)
    | exact IT.flip IT.new4 (by mem_news))
  | ((with_reducible show ITs _ _ _ _); first
    | assumption
    | exact ITs.flip (by assumption) (by mem_news))
  | ((with_reducible show SqT _ _ _ _); first
    | assumption
    | exact SqT.lt upd_same
    | exact SqT.lt (by assumption)
    | exact IT.sq (by assumption)
    | exact SqT.flip (by assumption) (by mem_news)
    | exact SqT.flip (SqT.lt (by assumption)) (by mem_news)
    | exact SqT.flip (IT.sq (by assumption)) (by mem_news)
    | exact SqT.flip (SqT.lt upd_same) (by mem_news))
  | ((with_reducible show SqL _ _ _ _); first
    | assumption
    | exact SqL.lt upd_same
    | exact SqL.lt (by assumption)
    | exact SqL.flip (by assumption) (by nest_cls)
    | exact SqL.flip (SqL.lt (by assumption)) (by nest_cls)
    | exact SqL.flip (SqL.lt upd_same) (by nest_cls))
  | ((with_reducible show Parts _ _ _ _ _); first | assumption | exact Parts.flip (by assumption) (by mem_news))
  | ((with_reducible show MachAt _ _ _ _ _ _); first | assumption | exact MachAt.flip (by assumption) (by mem_news))
  | ((with_reducible show ShIs _ _ _ _ _); first | assumption | exact ShIs.flip (by assumption) (by mem_news))
  | ((with_reducible show RunIs _ _ _ _ _); first | assumption | exact RunIs.flip (by assumption) (by mem_news))
  | ((with_reducible show LTs _ _ _ _); first | assumption | exact LTs.flip (by assumption) (by nest_cls))
  | ((with_reducible show Pt.At _ _); kba_ints)
  | ((with_reducible show Same _ _); nest_cls)
  | ((with_reducible show Keep _ _); mem_news)
  | ((with_reducible show (_ : Hp) _ = some _); first
    | assumption
    | exact upd_same
    | exact At.flip (by assumption) (by nest_cls)
    | exact At.flip upd_same (by nest_cls)))
-- a side condition
local macro_rules | `(tactic| leaf_len) => `(tactic| first
  | (with_reducible rfl)
  | (with_reducible assumption)
  | kd_adr
  | omega
  | ((with_reducible show (_ : Nat) ≤ sizeLine); first | (show 1 ≤ sizeLine; decide) | (show 2 ≤ sizeLine; decide) | (show 3 ≤ sizeLine; decide) | (show 4 ≤ sizeLine; decide) | (show 5 ≤ sizeLine; decide) | (show 6 ≤ sizeLine; decide) | (show 7 ≤ sizeLine; decide) | (show 8 ≤ sizeLine; decide) | (show 0 ≤ sizeLine; decide))
  | exact rfl
  | ((with_reducible show _ ∨ _); first | exact Or.inl (by leaf_len) | exact Or.inr (by leaf_len))
  | exact List.cons_ne_nil _ _
  | exact mf_ev _ _
  | exact mf_st _ _
  | exact flat_ints _
  | ((with_reducible show tyV _ _ _ _); exact Or.inl ⟨rfl, _, by kd_adr⟩)
  | ((with_reducible show ClsV _ _); exact ClsV.ty _)
  | ((with_reducible show CDivW _ _); exact CDivW.of (by omega) (by omega))
  | (apply Exists.intro (α := List V); kd_adr)
  | assumption
  | ((with_reducible show small _); unfold small; omega)
  | ((with_reducible show CPow _ _); exact ⟨by decide, by decide, by decide⟩)
  | ((with_reducible show CMul _ _); first | exact CMul.l (by omega) (by omega) | exact CMul.r (by omega) (by omega))
  | ((with_reducible show CMulW _ _); exact CMulW.of (by omega) (by omega))
  | ((with_reducible show TyX _ _ _ _); first | exact TyX.base (.int _) | exact TyX.base (.str _) | exact TyX.base (.bl _) | exact tyT (by kd_adr) | exact TyX.base (.lst (by kd_adr)))
  | ((with_reducible show PySem.W.kitOne _ _ _ = some _); first | exact kit_ty (r := true) (by decide +kernel) | exact kit_ty (r := false) (by decide +kernel))
  | decide)
-- a step
local macro_rules | `(tactic| l_ints) => `(tactic| first
  | (intro (p : Addr) (hp : (_ : Hp) p = none))
  | (intro (H' : Hp) (s : Same _ H'))
  | (intro (p : Addr) (H' : Hp) (s : Same _ H'))
  | (intro (h : IT _ _ _ _))
  | (intro (h : SqT _ _ _ _))
  | (intro (h : (_ : Hp) _ = none))
  | (intro (h : (_ : Hp) _ = some _))
  | ((with_reducible show rCatA _ _ _ _ _); refine catJ (by kd_adr) (by kd_adr) (by leaf_len) ?_)
  | ((with_reducible show rSlA _ _ none (some _) _ _); refine slTake (by kd_adr) (by omega) ?_)
  | with_reducible refine tC_i ?_
  | with_reducible refine tNil_i ?_
  | with_reducible refine tCons_i ?_
  | with_reducible refine tCall_i ?_
  | with_reducible refine tOp_i ?_
  | ((with_reducible refine tVar_i ?_ ?_); · exact rfl)
  | with_reducible refine iteT ?_
  | with_reducible refine iteF ?_
  | (with_reducible refine iteNEq ?_ ?_; · assumption)
  | (with_reducible refine iteNb ?_ ?_; · assumption)
  | (with_reducible refine iteTb ?_ ?_; · assumption)
  | (with_reducible refine iteFb ?_ ?_; · assumption)
  | ((with_reducible refine iteFb ?_ ?_); · exact rfl)
  | ((with_reducible refine iteTb ?_ ?_); · exact rfl)
  | with_reducible refine iteST rfl ?_
  | with_reducible refine iteSF (by decide +kernel) ?_
  | (refine And.intro ?_ ?_; · leaf_len)
  | apply Exists.intro (α := V)
  | apply Exists.intro (α := Int)
  | apply Exists.intro (α := Addr)
  | apply Exists.intro (α := List V)
  | apply Exists.intro (α := Str)
  | apply Exists.intro (α := Nat)
  | apply Exists.intro (α := Bool)
  | apply Exists.intro (α := Value)
  | apply Exists.intro (α := List Int)
  | apply Exists.intro (α := List (List Int))
  | apply Exists.intro (α := List Bool)
  | apply Exists.intro (α := List (Str × V))
  | apply Exists.intro (α := Option (List (Option Int)))
  | apply Exists.intro (α := Option Int)
  | apply Exists.intro (α := Pt)
  | refine Or.inr ⟨_, rfl, ?_⟩
  | apply Or.inl)

section
variable {P : Program} {w : World} {K : PySem.W.Frag} {mg : Str → Option Value} {base : Heap} {A : Ad}
theorem hu65 {k : Nat} {A : Around} (hr : Room k A) : A.units + 65 < cLine := by have := hr.un; omega
theorem sub_len : ∀ (l D : List Int), l.Nodup → (∀ x ∈ l, x ∈ D) → l.length ≤ D.length
  | [], D, _, _ => Nat.zero_le _
  | x :: l, D, nd, h => by
    obtain ⟨n1, n2⟩ := List.nodup_cons.mp nd
    have hx := h x (by simp)
    have ih := sub_len l (D.erase x) n2 fun y hy => (List.mem_erase_of_ne (fun e => n1 (by rw [← e]; exact hy))).mpr (h y (by simp [hy]))
    have e := List.length_erase_of_mem hx
    have p : 0 < D.length := List.length_pos_of_mem hx
    rw [List.length_cons]
    omega
def kdF (f : Int → List Int) (acc : List (List Int)) (s : Int) : List (List Int) := if f s ∈ acc then acc else acc ++ [f s]
/-- the knots of a list of standings, one behind another -/
theorem kn_all {f : Int → List Int} {L : List Int} (h1 : ∀ s ∈ L, s ∈ f s) (h2 : ∀ s ∈ L, ∀ q ∈ f s, q ∈ L ∧ f q = f s) (h3 : ∀ s ∈ L, (f s).Pairwise (· < ·)) :
    ∀ (l : List Int) (acc : List (List Int)) (pl : List Int), l.Pairwise (· < ·) → (∀ s ∈ l, s ∈ L) → pl = acc.flatten → (∀ ns ∈ acc, ∃ t r, ns = t :: r ∧ ns = f t ∧ t ∈ L ∧ ∀ s ∈ l, t < s) → SrtO.Srtd SrtT.lexI acc →
      (∀ q ∈ L, (∀ s ∈ l, q < s) → q ∈ pl) → pl.Nodup → (∀ q ∈ pl, q ∈ L) → (∀ q ∈ L, q ∉ l → ∀ s ∈ l, q < s) →
      SrtO.Srtd SrtT.lexI (l.foldl (knF f) (acc, pl)).1 ∧ (l.foldl (knF f) (acc, pl)).1 = l.foldl (kdF f) acc ∧ (l.foldl (knF f) (acc, pl)).2 = (l.foldl (knF f) (acc, pl)).1.flatten ∧ (l.foldl (knF f) (acc, pl)).2.Nodup ∧
        (∀ q, q ∈ (l.foldl (knF f) (acc, pl)).2 ↔ q ∈ L) ∧ ∀ ns ∈ (l.foldl (knF f) (acc, pl)).1, ns ≠ []
  | [], acc, pl, _, _, e, ha, hs, hq, nd, hp, _ => ⟨hs, rfl, e, nd, fun q => ⟨hp q, fun m => hq q m fun s z => by cases z⟩, fun ns hn z => by
    obtain ⟨t, r, h, _⟩ := ha ns hn
    rw [z] at h
    cases h⟩
  | s :: l, acc, pl, pw, sub, e, ha, hs, hq, nd, hp, ho => by
    obtain ⟨p1, p2⟩ := List.pairwise_cons.mp pw
    have sL := sub s (by simp)
    have iff : s ∈ pl ↔ f s ∈ acc := by
      rw [e, List.mem_flatten]
      refine ⟨fun ⟨ns, n1, n2⟩ => ?_, fun h => ⟨f s, h, h1 s sL⟩⟩
      obtain ⟨t, r, _, e2, tL, _⟩ := ha ns n1
      rw [e2] at n2
      rw [(h2 t tL s n2).2, ← e2]
      exact n1
    have ho' : ∀ q ∈ L, q ∉ l → ∀ x ∈ l, q < x := fun q qL nq x xl => by
      by_cases c : q = s
      · rw [c]; exact p1 x xl
      · have := ho q qL (by simp [c, nq]) s (by simp)
        have := p1 x xl
        omega
    rw [List.foldl_cons, List.foldl_cons]
    by_cases c : s ∈ pl
    · have e1 : knF f (acc, pl) s = (acc, pl) := if_pos c
      have e2 : kdF f acc s = acc := if_pos (iff.mp c)
      rw [e1, e2]
      refine kn_all h1 h2 h3 l acc pl p2 (fun x hx => sub x (by simp [hx])) e (fun ns hn => ?_) hs (fun q qL hl => ?_) nd hp ho'
      · obtain ⟨t, r, a1, a2, a3, a4⟩ := ha ns hn
        exact ⟨t, r, a1, a2, a3, fun x hx => a4 x (by simp [hx])⟩
      · by_cases cq : q = s
        · rw [cq]; exact c
        · refine hq q qL fun x hx => ?_
          refine ho q qL (fun z => ?_) x hx
          rcases List.mem_cons.mp z with z | z
          · exact cq z
          · have := hl q z
            omega
    · have e1 : knF f (acc, pl) s = (acc ++ [f s], pl ++ f s) := if_neg c
      have e2 : kdF f acc s = acc ++ [f s] := if_neg fun z => c (iff.mpr z)
      rw [e1, e2]
      have disj : ∀ q ∈ f s, q ∉ pl := fun q hqs hqp => by
        rw [e, List.mem_flatten] at hqp
        obtain ⟨ns, n1, n2⟩ := hqp
        obtain ⟨t, r, _, e3, tL, _⟩ := ha ns n1
        rw [e3] at n2
        have z := (h2 s sL q hqs).2.symm.trans (h2 t tL q n2).2
        exact c (iff.mpr (by rw [z, ← e3]; exact n1))
      have least : ∀ q ∈ f s, s ≤ q := fun q hqs => by
        by_cases z : s ≤ q
        · exact z
        · exfalso
          refine disj q hqs (hq q (h2 s sL q hqs).1 fun x hx => ?_)
          rcases List.mem_cons.mp hx with hx | hx
          · omega
          · have := p1 x hx
            omega
      obtain ⟨r, er⟩ : ∃ r, f s = s :: r := by
        have hm := h1 s sL
        have hp3 := h3 s sL
        cases hfs : f s with
        | nil => rw [hfs] at hm; cases hm
        | cons x xs =>
          rw [hfs] at hm hp3
          have lx := least x (by rw [hfs]; simp)
          rcases List.mem_cons.mp hm with hm | hm
          · exact ⟨xs, by rw [hm]⟩
          · have := (List.pairwise_cons.mp hp3).1 s hm
            omega
      refine kn_all h1 h2 h3 l (acc ++ [f s]) (pl ++ f s) p2 (fun x hx => sub x (by simp [hx])) (by rw [e]; simp) (fun ns hn => ?_) ?_ (fun q qL hl => ?_) ?_ (fun q hqp => ?_) ho'
      · rcases List.mem_append.mp hn with hn | hn
        · obtain ⟨t, r, a1, a2, a3, a4⟩ := ha ns hn
          exact ⟨t, r, a1, a2, a3, fun x hx => a4 x (by simp [hx])⟩
        · rw [show ns = f s by simpa using hn]
          exact ⟨s, r, er, rfl, sL, fun x hx => p1 x hx⟩
      · refine SrtO.srtd_snoc hs fun ns hn => ?_
        obtain ⟨t, r', a1, _, _, a4⟩ := ha ns hn
        have lt := a4 s (by simp)
        rw [er, a1]
        show (if s = t then SrtT.lexI r r' else decide (s < t)) = false
        rw [if_neg (by omega)]
        exact decide_eq_false (by omega)
      · by_cases cq : q = s
        · rw [cq]
          exact List.mem_append.mpr (.inr (h1 s sL))
        · refine List.mem_append.mpr (.inl (hq q qL fun x hx => ho q qL (fun z => ?_) x hx))
          rcases List.mem_cons.mp z with z | z
          · exact cq z
          · have := hl q z
            omega
      · rw [List.nodup_append]
        refine ⟨nd, (h3 s sL).imp fun h => by omega, fun x hx y hy z => disj y hy (by rw [← z]; exact hx)⟩
      · rcases List.mem_append.mp hqp with hqp | hqp
        · exact hp q hqp
        · exact (h2 s sL q hqp).1
theorem mutL_facts {n : Int} {evs : List (List Int)} (oks : ∀ e ∈ evs, okEv n e) (n0 : 0 < n) (hl : evs.length ≤ 1000) :
    (∀ s ∈ rchL evs n.toNat 0, s ∈ mutL evs n.toNat s) ∧ (∀ s ∈ rchL evs n.toNat 0, ∀ q ∈ mutL evs n.toNat s, q ∈ rchL evs n.toNat 0 ∧ mutL evs n.toNat q = mutL evs n.toNat s) := by
  refine ⟨fun s hs => pick_mem.mpr ⟨(pick_mem.mp hs).1, .refl, .refl⟩, fun s hs q hq => ?_⟩
  obtain ⟨a1, a2⟩ := pick_mem.mp hs
  obtain ⟨b1, b2, b3⟩ := pick_mem.mp hq
  refine ⟨pick_mem.mpr ⟨b1, a2.trans b2⟩, srt_eq pick_srt pick_srt fun k => ?_⟩
  unfold mutL
  rw [pick_mem, pick_mem]
  exact ⟨fun ⟨h, h1, h2⟩ => ⟨h, b2.trans h1, h2.trans b3⟩, fun ⟨h, h1, h2⟩ => ⟨h, b3.trans h1, h2.trans b2⟩⟩
theorem knots_facts {n : Int} {evs : List (List Int)} (oks : ∀ e ∈ evs, okEv n e) (n0 : 0 < n) (hl : evs.length ≤ 1000) :
    SrtO.Srtd SrtT.lexI (kn (mutL evs n.toNat) (rchL evs n.toNat 0)).1 ∧ (kn (mutL evs n.toNat) (rchL evs n.toNat 0)).1 = (rchL evs n.toNat 0).foldl (kdF (mutL evs n.toNat)) [] ∧
      ((kn (mutL evs n.toNat) (rchL evs n.toNat 0)).1.map fun ns => (ns.length : Int)).sum = (rchL evs n.toNat 0).length ∧ ∀ ns ∈ (kn (mutL evs n.toNat) (rchL evs n.toNat 0)).1, ns ≠ [] := by
  obtain ⟨h1, h2⟩ := mutL_facts oks n0 hl
  obtain ⟨a1, a2, a3, a4, a5, a6⟩ := kn_all h1 h2 (fun s _ => pick_srt) (rchL evs n.toNat 0) [] [] pick_srt (fun _ h => h) rfl (fun _ h => by cases h) List.Pairwise.nil (fun q hq h => by
    have := h q hq
    omega) List.nodup_nil (fun _ h => by cases h) (fun q hq nq => absurd hq nq)
  refine ⟨a1, a2, ?_, a6⟩
  have nd : (rchL evs n.toNat 0).Nodup := pick_srt.imp fun h => by omega
  have e1 := sub_len _ _ a4 fun q hq => (a5 q).mp hq
  have e2 := sub_len _ _ nd fun q hq => (a5 q).mpr hq
  have e3 : ∀ l : List (List Int), (l.map fun ns => (ns.length : Int)).sum = (l.flatten.length : Int) := fun l => by
    induction l with
    | nil => rfl
    | cons x l ih => rw [List.map_cons, List.sum_cons, ih, List.flatten_cons, List.length_append]; omega
  rw [e3]
  unfold kn
  rw [← a3]
  omega
theorem neI {K : PySem.W.Frag} {H : Hp} {x y : V} {ns : List Int} {Q : VK} (h : IT K H x ns) (g : IT K H y ns) (q : Q (.bl false) H) : rNeD K x y H Q := by
  have n := nice_dI ns
  refine ⟨_, _, IT.dp h, IT.dp g, n.shaped (by decide), n.shaped (by decide), ?_⟩
  rw [n.r]
  exact q

end
end Myk05

namespace Myk05
open PySem L2 My EnT
-- Same from behind
local macro_rules | `(tactic| nest_cls) => `(tactic| first
  | exact Same.refl _
  | assumption
  | (refine Same.back (Same.new (by assumption)) ?_; nest_cls)
  | (refine Same.back (by assumption) ?_; nest_cls)
  | (refine Same.chg ?_ (by first | assumption | exact Free.flip (by assumption) (by nest_cls)); nest_cls))
-- Keep from behind
local macro_rules | `(tactic| mem_news) => `(tactic| first
  | exact Keep.refl _
  | assumption
  | (refine Keep.back (Keep.new (by assumption)) ?_; mem_news)
  | (refine Keep.back (Keep.lst (by assumption)) ?_; mem_news)
  | (refine Keep.back (Keep.lst (by kd_adr)) ?_; mem_news)
  | (refine Keep.back (Keep.of (by assumption)) ?_; mem_news)
  | (refine Keep.back (Keep.ofBut (by assumption) (by kba_ints)) ?_; mem_news)
  | (refine Keep.back (by assumption) ?_; mem_news))
-- the pot
local macro_rules | `(tactic| kba_ints) => `(tactic| first
  | assumption
  | (refine Pt.At.back (Same.new (by assumption)) ?_; kba_ints)
  | (refine Pt.At.back (by assumption) ?_; kba_ints)
  | exact Pt.At.flip (by assumption) (by nest_cls))
-- a fact of a heap, from behind
local macro_rules | `(tactic| kd_adr) => `(tactic| first
  | ((with_reducible show IT _ _ _ _); first
    | assumption
    | exact IT.new2
    | exact IT.new1
    | exact IT.new3
    | exact IT.new4
    | exact IT.flip (by assumption) (by mem_news)
    | exact IT.flip IT.new2 (by mem_news)
    | exact IT.flip IT.new3 (by mem_news)
    | exact IT.flip IT.new1 (by mem_news)
    | exact IT.flip IT.new4 (by mem_news))
  | ((with_reducible show ITs _ _ _ _); first
    | assumption
    | exact ITs.flip (by assumption) (by mem_news))
  | ((with_reducible show SqT _ _ _ _); first
    | assumption
    | exact SqT.lt upd_same
    | exact SqT.lt (by assumption)
    | exact IT.sq (by assumption)
    | exact SqT.flip (by assumption) (by mem_news)
    | exact SqT.flip (SqT.lt (by assumption)) (by mem_news)
    | exact SqT.flip (IT.sq (by assumption)) (by mem_news)
    | exact SqT.flip (SqT.lt upd_same) (by mem_news))
  | ((with_reducible show SqL _ _ _ _); first
    | assumption
    | exact SqL.lt upd_same
    | exact SqL.lt (by assumption)
    | exact SqL.flip (by assumption) (by nest_cls)
    | exact SqL.flip (SqL.lt (by assumption)) (by nest_cls)
    | exact SqL.flip (SqL.lt upd_same) (by nest_cls))
  | ((with_reducible show Parts _ _ _ _ _); first | assumption | exact Parts.flip (by assumption) (by mem_news))
  | ((with_reducible show MachAt _ _ _ _ _ _); first | assumption | exact MachAt.flip (by assumption) (by mem_news))
  | ((with_reducible show ShIs _ _ _ _ _); first | assumption | exact ShIs.flip (by assumption) (by mem_news))
  | ((with_reducible show RunIs _ _ _ _ _); first | assumption | exact RunIs.flip (by assumption) (by mem_news))
  | ((with_reducible show LTs _ _ _ _); first | assumption | exact LTs.flip (by assumption) (by nest_cls))
  | ((with_reducible show Pt.At _ _); kba_ints)
  | ((with_reducible show Same _ _); nest_cls)
  | ((with_reducible show Keep _ _); mem_news)
  | ((with_reducible show (_ : Hp) _ = some _); first
    | assumption
    | exact upd_same
    | exact At.flip (by assumption) (by nest_cls)
    | exact At.flip upd_same (by nest_cls)))
-- a side condition
local macro_rules | `(tactic| leaf_len) => `(tactic| first
  | (with_reducible rfl)
  | (with_reducible assumption)
  | kd_adr
  | omega
  | ((with_reducible show (_ : Nat) ≤ sizeLine); first | (show 1 ≤ sizeLine; decide) | (show 2 ≤ sizeLine; decide) | (show 3 ≤ sizeLine; decide) | (show 4 ≤ sizeLine; decide) | (show 5 ≤ sizeLine; decide) | (show 6 ≤ sizeLine; decide) | (show 7 ≤ sizeLine; decide) | (show 8 ≤ sizeLine; decide) | (show 0 ≤ sizeLine; decide))
  | exact rfl
  | ((with_reducible show _ ∨ _); first | exact Or.inl (by leaf_len) | exact Or.inr (by leaf_len))
  | exact List.cons_ne_nil _ _
  | exact mf_ev _ _
  | exact mf_st _ _
  | exact flat_ints _
  | ((with_reducible show tyV _ _ _ _); exact Or.inl ⟨rfl, _, by kd_adr⟩)
  | ((with_reducible show ClsV _ _); exact ClsV.ty _)
  | ((with_reducible show CDivW _ _); exact CDivW.of (by omega) (by omega))
  | (apply Exists.intro (α := List V); kd_adr)
  | assumption
  | ((with_reducible show small _); unfold small; omega)
  | ((with_reducible show CPow _ _); exact ⟨by decide, by decide, by decide⟩)
  | ((with_reducible show CMul _ _); first | exact CMul.l (by omega) (by omega) | exact CMul.r (by omega) (by omega))
  | ((with_reducible show CMulW _ _); exact CMulW.of (by omega) (by omega))
  | ((with_reducible show TyX _ _ _ _); first | exact TyX.base (.int _) | exact TyX.base (.str _) | exact TyX.base (.bl _) | exact tyT (by kd_adr) | exact TyX.base (.lst (by kd_adr)))
  | ((with_reducible show PySem.W.kitOne _ _ _ = some _); first | exact kit_ty (r := true) (by decide +kernel) | exact kit_ty (r := false) (by decide +kernel))
  | decide)
-- a step
local macro_rules | `(tactic| l_ints) => `(tactic| first
  | (intro (p : Addr) (hp : (_ : Hp) p = none))
  | (intro (H' : Hp) (s : Same _ H'))
  | (intro (p : Addr) (H' : Hp) (s : Same _ H'))
  | (intro (h : IT _ _ _ _))
  | (intro (h : SqT _ _ _ _))
  | (intro (h : (_ : Hp) _ = none))
  | (intro (h : (_ : Hp) _ = some _))
  | ((with_reducible show rCatA _ _ _ _ _); refine catJ (by kd_adr) (by kd_adr) (by leaf_len) ?_)
  | ((with_reducible show rSlA _ _ none (some _) _ _); refine slTake (by kd_adr) (by omega) ?_)
  | with_reducible refine tC_i ?_
  | with_reducible refine tNil_i ?_
  | with_reducible refine tCons_i ?_
  | with_reducible refine tCall_i ?_
  | with_reducible refine tOp_i ?_
  | ((with_reducible refine tVar_i ?_ ?_); · exact rfl)
  | with_reducible refine iteT ?_
  | with_reducible refine iteF ?_
  | (with_reducible refine iteNEq ?_ ?_; · assumption)
  | (with_reducible refine iteNb ?_ ?_; · assumption)
  | (with_reducible refine iteTb ?_ ?_; · assumption)
  | (with_reducible refine iteFb ?_ ?_; · assumption)
  | ((with_reducible refine iteFb ?_ ?_); · exact rfl)
  | ((with_reducible refine iteTb ?_ ?_); · exact rfl)
  | with_reducible refine iteST rfl ?_
  | with_reducible refine iteSF (by decide +kernel) ?_
  | (refine And.intro ?_ ?_; · leaf_len)
  | apply Exists.intro (α := V)
  | apply Exists.intro (α := Int)
  | apply Exists.intro (α := Addr)
  | apply Exists.intro (α := List V)
  | apply Exists.intro (α := Str)
  | apply Exists.intro (α := Nat)
  | apply Exists.intro (α := Bool)
  | apply Exists.intro (α := Value)
  | apply Exists.intro (α := List Int)
  | apply Exists.intro (α := List (List Int))
  | apply Exists.intro (α := List Bool)
  | apply Exists.intro (α := List (Str × V))
  | apply Exists.intro (α := Option (List (Option Int)))
  | apply Exists.intro (α := Option Int)
  | apply Exists.intro (α := Pt)
  | refine Or.inr ⟨_, rfl, ?_⟩
  | apply Or.inl)

section
variable {P : Program} {w : World} {K : PySem.W.Frag} {mg : Str → Option Value} {base : Heap} {A : Ad}
theorem dI_eqv : ∀ a b : List Int, PyData.eqv (dI a) (dI b) = decide (a = b) := by
  have h : ∀ a b : List Int, PyData.eqvAll (a.map PyData.int) (b.map PyData.int) = decide (a = b) := by
    intro a
    induction a with
    | nil =>
      intro b
      cases b with
      | nil => simp [PyData.eqvAll]
      | cons => simp [PyData.eqvAll]
    | cons x a ih =>
      intro b
      cases b with
      | nil => simp [PyData.eqvAll]
      | cons y b =>
        rw [List.map_cons, List.map_cons, PyData.eqvAll, ih b, PyData.eqv]
        by_cases c : x = y
        · subst c; simp
        · simp [c]
  intro a b
  unfold dI
  rw [PyData.eqv]
  exact h a b
theorem dI_any (a : List Int) : ∀ nss : List (List Int), ((nss.map dI).any fun z => PyData.eqv z (dI a)) = decide (a ∈ nss)
  | [] => by simp
  | n :: nss => by
    rw [List.map_cons, List.any_cons, dI_any a nss, dI_eqv]
    by_cases c : n = a
    · subst c; simp
    · have c' : ¬ a = n := fun z => c z.symm
      simp [c, c']
/-- a list of new tuples of ints -/
def LTt (H : Hp) (D : Addr) (nss : List (List Int)) : Prop := ∃ xs, H D = some (.lst xs) ∧ All2 (fun v ns => ∃ q, v = V.ref q ∧ H q = some (.tup (ns.map V.int))) xs nss
theorem LTt.s {K : PySem.W.Frag} {H : Hp} {D : Addr} {nss : List (List Int)} (h : LTt H D nss) : LTs K H D nss := by
  obtain ⟨xs, h1, h2⟩ := h
  exact ⟨xs, h1, h2.imp fun v ns ⟨q, e, z⟩ => ⟨q, e, SqT.lt z⟩⟩
theorem LTt.same {H H' : Hp} {D : Addr} {nss : List (List Int)} (h : LTt H D nss) (s : Same H H') : LTt H' D nss := by
  obtain ⟨xs, h1, h2⟩ := h
  exact ⟨xs, s _ _ h1, h2.imp fun v ns ⟨q, e, z⟩ => ⟨q, e, s _ _ z⟩⟩
theorem LTt.but {H H' : Hp} {l : List Addr} {D : Addr} {nss : List (List Int)} (h : LTt H D nss) (b : But l H H') (k : Keep H H') (n : D ∉ l) : LTt H' D nss := by
  obtain ⟨xs, h1, h2⟩ := h
  exact ⟨xs, b _ _ n h1, h2.imp fun v ns ⟨q, e, z⟩ => ⟨q, e, k _ _ rfl z⟩⟩
def toI : V → Int
  | .int n => n
  | _ => 0
def rowOf (H : Hp) : V → List Int
  | .ref q => match H q with
    | some (.tup ys) => ys.map toI
    | _ => []
  | _ => []
theorem rowOf_tup {H : Hp} {q : Addr} {ns : List Int} (h : H q = some (.tup (ns.map V.int))) : rowOf H (.ref q) = ns := by
  show (match H q with
    | some (.tup ys) => ys.map toI
    | _ => []) = ns
  rw [h]
  show (ns.map V.int).map toI = ns
  rw [List.map_map]
  exact List.map_id' ns
/-- sorted of such a list, in order already -/
theorem sortL {K : PySem.W.Frag} {H : Hp} {D : Addr} {nss : List (List Int)} {Q : VK} (h : LTt H D nss) (so : SrtO.Srtd SrtT.lexI nss) (ne : ∀ ns ∈ nss, ns ≠ []) (k : ∀ (p : Addr) (H' : Hp), Same H H' → H p = none → LTs K H' p nss → Q (.ref p) H') :
    rSortedL K [V.ref D] H Q := by
  obtain ⟨xs, h1, al⟩ := id h
  have hx : ∀ x ∈ xs, ∃ t, x = V.ref t ∧ SqT K H t ((rowOf H x).map V.int) ∧ rowOf H x ≠ [] := fun x hx => by
    obtain ⟨i, hi⟩ := List.mem_iff_getElem?.mp hx
    obtain ⟨ns, hn, q, rfl, hq⟩ := al.getL hi
    rw [rowOf_tup hq]
    exact ⟨q, rfl, SqT.lt hq, ne ns (List.mem_of_getElem? hn)⟩
  have hm : xs.map (rowOf H) = nss := by
    clear h1 hx h so ne k
    induction al with
    | nil => rfl
    | cons r _ ih =>
      obtain ⟨q, rfl, hq⟩ := r
      rw [List.map_cons, ih, rowOf_tup hq]
  have sx : SrtO.Srtd (fun x y => SrtT.lexI (rowOf H x) (rowOf H y)) xs := by
    have z := so
    rw [← hm] at z
    exact List.pairwise_map.mp z
  refine ⟨D, xs, rowOf H, rfl, SqL.lt h1, hx, fun ys p hs hb hp => ?_⟩
  have e : ys = xs := SrtO.stb_uniq (SrtT.swo (rowOf H)) hs sx hb
  rw [e]
  have s := Same.new (o := .lst xs) hp
  exact k p _ s hp ⟨xs, upd_same, al.imp fun v ns ⟨q, e, z⟩ => ⟨q, e, SqT.lt (s _ _ z)⟩⟩
/-- the standings that the law has found from one -/
def WayOk (evs : List (List Int)) (n : Nat) (H : Hp) (kvs : List (Key × V)) (s : Int) : Prop := ∃ (a : Addr) (ks : List Int), valV kvs (Sum.inl s) = some (.ref a) ∧ H a = some (.lst (ks.map V.int)) ∧ ∀ q, q ∈ ks ↔ Rch (stepsAll evs 0 1 n) s q
theorem putK_len (kvs : List (Key × V)) (k : Key) (v : V) : (putK kvs k v).length ≤ kvs.length + 1 := by
  unfold putK
  split
  · rw [List.length_map]; omega
  · rw [List.length_append]; exact Nat.le_refl _

theorem sc_law : FnScope ["script", "pot", "turn", "great", "parts", "machine", "there", "ways", "standing", "due", "other", "knot", "told"] ["script"] (defScope s_law) := ⟨rfl, rfl, rfl, by decide +kernel, rfl, by decide +kernel, by decide +kernel⟩
theorem ok_law (T : Txt K mg A) : FnOk P w K mg base CX0 7 A.f_law A.d_law ["script"] (spLaw K) := by
  refine T.F_law.ok sc_law (fun vs H Q E h => ?_) (fun cdv A1 outer s H vs Q E hr h => ?_)
  · obtain ⟨a, ns, rfl, _⟩ := h
    rfl
  · obtain ⟨a, ns, rfl, hS, hlen, k⟩ := h
    refine ⟨_, (pss_cons (ps_set (i := 1) sc_law.nd rfl (Or.inl rfl) (pe_call (ok_law_pot T) (hr.mono (by decide)) rfl T.m_law_pot T.F_law_pot.kp T.B_law_pot .nil pass0 (pa_cons (pv 0) pa_nil)))
      (pss_cons (ps_for PassesOwn.never rfl (pi_range1 rfl T.z_range (pa_cons pe_int pa_nil)) (pg_name (i := 2) sc_law.nd rfl (Or.inl rfl))
        (pss_cons (ps_set (i := 3) sc_law.nd rfl (Or.inl rfl) (pe_cmpR op_eq (pe_call (ok_law_draw T) (hr.mono (by decide)) rfl T.m_law_draw T.F_law_draw.kp T.B_law_draw .nil pass0 (pa_cons (pv 1) (pa_cons pe_int pa_nil))) pe_int (nomark _)))
      (pss_cons (ps_set (i := 4) sc_law.nd rfl (Or.inl rfl) (pe_call (ok_law_parts T) (hr.mono (by decide)) rfl T.m_law_parts T.F_law_parts.kp T.B_law_parts .nil pass0 (pa_cons (pv 1) (pa_cons (pe_ifExp (pt_val (pv 3)) pe_int pe_int) (pa_cons (pe_ifExp (pt_val (pv 3)) pe_int pe_int) pa_nil)))))
      (pss_cons (ps_set (i := 5) sc_law.nd rfl (Or.inl rfl) (pe_make T.mk_Machine (ok_Machine___init__ T) (hr.mono (by decide)) rfl T.m_Machine T.B_Machine___init__ .nil pass0 (pa_cons (pe_ix (ix_tupK K rfl) (pv 4) pe_int (fun _ _ => rfl)) (pa_cons (pe_ix (ix_tupK K rfl) (pv 4) pe_int (fun _ _ => rfl)) pa_nil))))
      (pss_cons (ps_set (i := 6) sc_law.nd rfl (Or.inl rfl) (pe_callB (cr_sortedK K rfl) (by rfl) T.z_sorted (by decide +kernel) (pa_cons (pe_call (ok_law_from T) (hr.mono (by decide)) rfl T.m_law_from T.F_law_from.kp T.B_law_from .nil pass0 (pa_cons (pv 4) (pa_cons pe_int pa_nil))) pa_nil)))
      (pss_cons (ps_set (i := 7) sc_law.nd rfl (Or.inr rfl) pe_dnewK)
      (pss_cons (ps_for PassesOwn.never rfl (pi_list (pv 6)) (pg_name (i := 8) sc_law.nd rfl (Or.inr rfl))
        (pss_one (ps_dput (hu1 hr) (pv 7) (pv 8) (pe_call (ok_law_from T) (hr.mono (by decide)) rfl T.m_law_from T.F_law_from.kp T.B_law_from .nil pass0 (pa_cons (pv 4) (pa_cons (pv 8) pa_nil))) rfl)))
      (pss_cons (ps_set (i := 9) sc_law.nd rfl (Or.inl rfl) (pe_lst pa_nil))
      (pss_cons (ps_for PassesOwn.never rfl (pi_list (pv 6)) (pg_name (i := 8) sc_law.nd rfl (Or.inr rfl))
        (pss_cons (ps_set (i := 11) sc_law.nd rfl (Or.inl rfl) (pe_callTy (call_tupleK K rfl) (by rfl) T.z_tuple (by decide +kernel) (pa_cons (pe_lc (own := [("other", 10)]) rfl sc_law.nd (pi_list (pv 6)) (blkOk_by (N := ["script", "pot", "turn", "great", "parts", "machine", "there", "ways", "standing", "due", "other", "knot", "told"]) (sc := defScope s_law) (by decide +kernel)) (fun _ _ _ _ _ => by exact (pg_name (i := 10) sc_law.nd rfl (Or.inl rfl))) (fun _ _ _ _ _ => by exact (pts_one (PW.pt (pw_and (pt_cmpR (op_inK K rfl) (pv 10) (pe_dget (hu1 hr) (pv 7) (pv 8) (fun _ _ => rfl)) (by with_unfolding_all rfl)) (pw_and1 (pt_cmpR (op_inK K rfl) (pv 8) (pe_dget (hu1 hr) (pv 7) (pv 10) (fun _ _ => rfl)) (by with_unfolding_all rfl))))))) (fun _ _ _ _ _ => by exact (pv 10))) pa_nil)))
      (pss_one (ps_if (pt_cmpR (op_notInD (hu65 hr)) (pv 11) (pv 9) (by with_unfolding_all rfl)) (pss_one (ps_expr (pe_bm PySem.F.plainAttrs_list PySem.F.slot_list_append PySem.F.type_list_append mt_append (pv 9) (pa_cons (pv 11) pa_nil)))) pss_nil))))
      (pss_cons (ps_if (PW.pt (pw_or (pt_not (pt_val (pe_callB (call_isK K rfl) (by rfl) T.z_isinstance (by decide +kernel) (pa_cons (pe_call (ok_reached T) (hr.mono (by decide)) rfl T.m_reached T.F_reached.kp T.B_reached .nil pass0 (pa_cons (pv 5) pa_nil)) (pa_cons (pe_bltn (v := .ty "tuple") (u := .type "tuple") rfl T.z_tuple (by decide +kernel) rfl) pa_nil))))) (pw_or1 (pt_cmpR (op_neDK K rfl (hu64 hr)) (pe_call (ok_reached T) (hr.mono (by decide)) rfl T.m_reached T.F_reached.kp T.B_reached .nil pass0 (pa_cons (pv 5) pa_nil)) (pe_callTy (call_tupleK K rfl) (by rfl) T.z_tuple (by decide +kernel) (pa_cons (pv 6) pa_nil)) (nomark _))))) (pss_one (ps_ret pe_bl)) pss_nil)
      (pss_cons (ps_set (i := 12) sc_law.nd rfl (Or.inl rfl) (pe_call (ok_knots T) (hr.mono (by decide)) rfl T.m_knots T.F_knots.kp T.B_knots .nil pass0 (pa_cons (pv 5) pa_nil)))
      (pss_cons (ps_if (PW.pt (pw_or (pt_not (pt_val (pe_callB (call_isK K rfl) (by rfl) T.z_isinstance (by decide +kernel) (pa_cons (pv 12) (pa_cons (pe_bltn (v := .ty "list") (u := .type "list") rfl T.z_list (by decide +kernel) rfl) pa_nil))))) (pw_or (pt_cmpR (op_neDK K rfl (hu64 hr)) (pv 12) (pe_callB cr_sortedL (by rfl) T.z_sorted (by decide +kernel) (pa_cons (pv 9) pa_nil)) (nomark _)) (pw_or1 (pt_cmpR op_ne (pe_callB (cr_sumK K rfl rfl) (by rfl) T.z_sum (by decide +kernel) (pa_cons (pe_lc (own := [("knot", 11)]) rfl sc_law.nd (pi_list (pv 12)) (blkOk_by (N := ["script", "pot", "turn", "great", "parts", "machine", "there", "ways", "standing", "due", "other", "knot", "told"]) (sc := defScope s_law) (by decide +kernel)) (fun _ _ _ _ _ => by exact (pg_name (i := 11) sc_law.nd rfl (Or.inl rfl))) (fun _ _ _ _ _ => by exact pts_nil) (fun _ _ _ _ _ => by exact (pe_callB (call_lenK K rfl) (by rfl) T.z_len (by decide +kernel) (pa_cons (pv 11) pa_nil)))) pa_nil)) (pe_callB (call_lenK K rfl) (by rfl) T.z_len (by decide +kernel) (pa_cons (pv 6) pa_nil)) (nomark _)))))) (pss_one (ps_ret pe_bl)) pss_nil)
      (pss_cons (ps_expr (pe_bm0 PySem.F.plainAttrs_list PySem.F.slot_list_clear PySem.F.type_list_clear mt_clear (pv 12)))
      (pss_one (ps_if (pt_cmpR (op_neDK K rfl (hu64 hr)) (pe_call (ok_knots T) (hr.mono (by decide)) rfl T.m_knots T.F_knots.kp T.B_knots .nil pass0 (pa_cons (pv 5) pa_nil)) (pe_callB cr_sortedL (by rfl) T.z_sorted (by decide +kernel) (pa_cons (pv 9) pa_nil)) (nomark _)) (pss_one (ps_ret pe_bl)) pss_nil)))))))))))))))
      (pss_one (ps_ret pe_bl)))), ?_⟩
    refine ⟨_, rfl, a, ns, rfl, hS, hlen, fun p H1 hp1 s1 _ => ?_⟩
    refine ⟨4, rfl, by decide, by decide, ?_⟩
    refine for_range (lo := 0) (n := (4 : Int).toNat) (fun i σ H => p.At H ∧ ∃ u2 u3 u4 u5 u6 u7 u8 u9 u11 u12, σ = [some (.ref a), some (.ref p.a), u2, u3, u4, u5, u6, u7, u8, u9, none, u11, u12])
      ⟨hp1, none, none, none, none, none, none, none, none, none, none, rfl⟩ ?_ (fun σ H _ => k H)
    rintro i σ H2 hi ⟨hp2, u2, u3, u4, u5, u6, u7, u8, u9, u11, u12, rfl⟩
    refine ⟨_, rfl, p, 4, rfl, hp2, by decide, small_of (by decide), fun r H3 r0 r1 hp3 b3 => ⟨rfl, ?_⟩⟩
    generalize decide (V.int r = V.int 0) = great
    refine ⟨_, rfl, ?_⟩
    cases great
    all_goals
      refine ⟨_, rfl, _, rfl, ?_⟩
      first | refine iteT ?_ | refine iteF ?_
      refine ⟨_, rfl, _, rfl, ?_⟩
      first | refine iteT ?_ | refine iteF ?_
      refine ⟨p, _, _, rfl, hp3, by decide, by decide, by decide, by decide, fun v H4 n evs hp4 b4 hv n0 n1 l0 l1 all => ?_⟩
      have oks : ∀ e ∈ evs, okEv n e := fun e he => (all e he).ok
      refine ⟨_, rfl, ixP0 hv ⟨_, rfl, ixP1 hv fun w hw => fun x dx nx ndx nex => made_ok nx ndx n0 (by omega) hw (by omega) oks fun H5 s5 hM => ?_⟩⟩
      have hp5 := hp4.same s5
      have hv5 := hv.keep (Keep.of s5)
      have n60 : n ≤ 60 := by omega
      have len : evs.length ≤ 1000 := by omega
      -- there
      refine ⟨_, rfl, .ref v, 0, n, evs, rfl, hv5, by decide, by omega, n60, len, oks, fun D0 H6 ks0 s6 hD0 hks nd0 hk0 lk0 => ⟨D0, ks0, rfl, SqL.lt hks, by omega, fun rs pp pm pw hpp => ?_⟩⟩
      have lF : (stepsAll evs 0 1 n.toNat).length = n.toNat := stepsAll_len
      have okF := steps_ok oks (by omega) len (s := 0) (f := 1) (by decide)
      have rin : ∀ {s x : Int}, 0 ≤ s → s < n → Rch (stepsAll evs 0 1 n.toNat) s x → 0 ≤ x ∧ x < (n.toNat : Int) := fun q0 q1 r => by
        have z := r.in_ (fun ns h => (okF ns h).2) ⟨q0, by rw [lF]; omega⟩
        rw [lF] at z
        exact z
      have ers : rs = rchL evs n.toNat 0 := pick_eq (srt_of pm pw nd0) fun q => by
        rw [pm.mem_iff, hk0 q]
        exact ⟨fun r => ⟨rin (by decide) (by omega) r, r⟩, fun h => h.2⟩
      obtain ⟨g1, g2⟩ := mutL_facts oks (by omega) len
      obtain ⟨f1, f2, f3, f4⟩ := knots_facts oks (by omega) len
      have rmem : ∀ s ∈ rs, (0 ≤ s ∧ s < n) ∧ Rch (stepsAll evs 0 1 n.toNat) 0 s := fun s hs => by
        rw [ers] at hs
        obtain ⟨h1, h2⟩ := pick_mem.mp hs
        exact ⟨by omega, h2⟩
      have rof : ∀ s, 0 ≤ s → s < n → Rch (stepsAll evs 0 1 n.toNat) 0 s → s ∈ rs := fun s q0 q1 r => by
        rw [ers]
        exact pick_mem.mpr ⟨by omega, r⟩
      have rsrt : rs.Pairwise (· < ·) := by rw [ers]; exact pick_srt
      have lrs : rs.length ≤ 60 := by rw [ers]; exact Nat.le_trans pick_len (by omega)
      have sp := Same.new (o := .lst (rs.map V.int)) hpp
      have hR := upd_same (H := H6) (a := pp) (o := .lst (rs.map V.int))
      have s57 := s6.trans sp
      generalize upd H6 pp (.lst (rs.map V.int)) = H7 at hR s57 ⊢
      have hp7 := hp5.same s57
      have hM7 := hM.keep (Keep.of s57)
      have hv7 := hv5.keep (Keep.of s57)
      clear hks hD0 sp pm pw hpp
      -- ways
      refine fun W hW => ?_
      have sW := Same.new (o := .dK []) hW
      have hWW := upd_same (H := H7) (a := W) (o := .dK [])
      have nWp : pp ≠ W := ne_of_none hR hW
      refine ⟨_, rfl, pp, rfl, ⟨_, SqL.lt (sW _ _ hR)⟩, ?_⟩
      refine for_list (K := K) (a := pp) (xs := rs.map V.int) (fun j σ H' => Same H7 H' ∧ ∃ (gb : Bool) (u8 : Option V) (kvs : List (Key × V)), σ = [some (.ref a), some (.ref p.a), some (.int (0 + (i : Int))), some (.bl gb), some (.ref v), some (.ref x), some (.ref pp), some (.ref W), u8, u9, none, u11, u12] ∧
          H' W = some (.dK kvs) ∧ kvs.length ≤ j ∧ ∀ s ∈ rs.take j, WayOk evs n.toNat H' kvs s)
        ⟨sW, _, u8, [], rfl, hWW, Nat.le_refl _, fun s h => by simp at h⟩ (fun j σ H' _ z => SqL.lt (z.1 _ _ hR)) ?_ ?_
      · rintro j y σ H8 hj ⟨s8, gb, u8, kvs, rfl, hW8, lk8, ok8⟩
        obtain ⟨s, hs, rfl⟩ : ∃ s, rs[j]? = some s ∧ y = V.int s := by
          rw [List.getElem?_map] at hj
          cases z : rs[j]? with
          | none => rw [z] at hj; cases hj
          | some n => rw [z] at hj; exact ⟨n, rfl, (Option.some.inj hj).symm⟩
        have jl := (List.getElem?_eq_some_iff.mp hs).1
        obtain ⟨⟨q0, q1⟩, _⟩ := rmem s (List.mem_of_getElem? hs)
        refine ⟨_, rfl, _, rfl, .ref v, s, n, evs, rfl, hv7.keep (Keep.of s8), q0, q1, n60, len, oks, fun D H9 ks s9 hDn hDk _ hkk _ => ?_⟩
        have hW9 := s9 _ _ hW8
        have nDW : D ≠ W := ne_of hDk hW9 (by intro z; cases z)
        refine ⟨_, rfl, _, rfl, W, _, rfl, DPut.k (k := Sum.inl s) hW9 (Nat.lt_of_le_of_lt (show kvs.length ≤ 60 by omega) (by decide)), ?_⟩
        refine ⟨Same.chg (s8.trans s9) hW, _, _, _, rfl, upd_same, Nat.le_trans (putK_len _ _ _) (by omega), fun t ht => ?_⟩
        by_cases c : t = s
        · rw [c]
          exact ⟨D, ks, by rw [valV_put, if_pos rfl], by rw [upd_ne nDW]; exact hDk, hkk⟩
        · rw [take_succ hs] at ht
          rcases List.mem_append.mp ht with ht | ht
          · obtain ⟨b, ks', h1, h2, h3⟩ := ok8 t ht
            have hb := s9 _ _ h2
            have nb : b ≠ W := ne_of hb hW9 (by intro z; cases z)
            exact ⟨b, ks', by rw [valV_put, if_neg fun z => c (Sum.inl.inj z)]; exact h1, by rw [upd_ne nb]; exact hb, h3⟩
          · exact absurd (by simpa using ht) c
      · rintro σ H8 ⟨s8, gb, u8, kvs, rfl, hW8, _, ok8⟩
        rw [List.length_map, List.take_length] at ok8
        have hR8 := s8 _ _ hR
        -- due
        refine ⟨Nat.zero_le _, fun Du hDu => ?_⟩
        have sDu := Same.new (o := .lst []) hDu
        have hDD := upd_same (H := H8) (a := Du) (o := .lst [])
        have nRD : pp ≠ Du := ne_of_none hR8 hDu
        have nWD : W ≠ Du := ne_of_none hW8 hDu
        refine ⟨_, rfl, pp, rfl, ⟨_, SqL.lt (sDu _ _ hR8)⟩, ?_⟩
        refine for_list (K := K) (a := pp) (xs := rs.map V.int) (fun j σ H' => Same H8 H' ∧ ∃ (gb : Bool) (u8 u11 : Option V), σ = [some (.ref a), some (.ref p.a), some (.int (0 + (i : Int))), some (.bl gb), some (.ref v), some (.ref x), some (.ref pp), some (.ref W), u8, some (.ref Du), none, u11, u12] ∧
            LTt H' Du ((rs.take j).foldl (kdF (mutL evs n.toNat)) []))
          ⟨sDu, _, _, _, rfl, [], hDD, .nil⟩ (fun j σ H' _ z => SqL.lt (z.1 _ _ hR8)) ?_ ?_
        · rintro j y σ H9 hj ⟨s9, gb, u8, u11, rfl, L9⟩
          obtain ⟨s, hs, rfl⟩ : ∃ s, rs[j]? = some s ∧ y = V.int s := by
            rw [List.getElem?_map] at hj
            cases z : rs[j]? with
            | none => rw [z] at hj; cases hj
            | some n => rw [z] at hj; exact ⟨n, rfl, (Option.some.inj hj).symm⟩
          have sm := List.mem_of_getElem? hs
          have jl := (List.getElem?_eq_some_iff.mp hs).1
          obtain ⟨⟨q0, q1⟩, qr⟩ := rmem s sm
          obtain ⟨b1, ks1, v1, h1, k1⟩ := ok8 s sm
          refine ⟨_, rfl, pp, rfl, ⟨_, SqL.lt (s9 _ _ hR8)⟩, fun Dk hDk => ?_⟩
          refine lcIS (K := K) (a := pp) (ns := rs) (fun q => @decide (Rch (stepsAll evs 0 1 n.toNat) s q ∧ Rch (stepsAll evs 0 1 n.toNat) q s) (Classical.propDecidable _)) (SqL.lt (s9 _ _ hR8)) hDk (Nat.lt_of_le_of_lt lrs (by decide)) (fun q Hx Q1 Q2 hq sx t1 t2 => ⟨rfl, ?_⟩) ?_
          · obtain ⟨b2, ks2, v2, h2, k2⟩ := ok8 q hq
            have sx := s9.trans sx
            refine ⟨_, rfl, _, rfl, _, rfl, W, _, rfl, (v1 ▸ DGet.k (k := Sum.inl s) (sx _ _ hW8)), b1, _, rfl, .inl (SqL.lt (sx _ _ h1)), rfl, flat_ints _, _, rfl, ?_⟩
            by_cases c1 : Rch (stepsAll evs 0 1 n.toNat) s q
            · have e1 : inV (.int q) (ks1.map V.int) = true := (inV_ints _ _).trans (decide_eq_true ((k1 q).mpr c1))
              rw [e1]
              refine iteT ⟨_, rfl, _, rfl, _, rfl, W, _, rfl, (v2 ▸ DGet.k (k := Sum.inl q) (sx _ _ hW8)), b2, _, rfl, .inl (SqL.lt (sx _ _ h2)), rfl, flat_ints _, _, rfl, ?_⟩
              by_cases c2 : Rch (stepsAll evs 0 1 n.toNat) q s
              · have e2 : inV (.int s) (ks2.map V.int) = true := (inV_ints _ _).trans (decide_eq_true ((k2 s).mpr c2))
                rw [e2]
                exact iteT ⟨_, rfl, t1 (@decide_eq_true _ (Classical.propDecidable _) ⟨c1, c2⟩)⟩
              · have e2 : inV (.int s) (ks2.map V.int) = false := (inV_ints _ _).trans (decide_eq_false fun z => c2 ((k2 s).mp z))
                rw [e2]
                exact iteF (t2 (@decide_eq_false _ (Classical.propDecidable _) fun z => c2 z.2))
            · have e1 : inV (.int q) (ks1.map V.int) = false := (inV_ints _ _).trans (decide_eq_false fun z => c1 ((k1 q).mp z))
              rw [e1]
              exact iteF (t2 (@decide_eq_false _ (Classical.propDecidable _) fun z => c1 z.1))
          · have em : rs.filter (fun q => @decide (Rch (stepsAll evs 0 1 n.toNat) s q ∧ Rch (stepsAll evs 0 1 n.toNat) q s) (Classical.propDecidable _)) = mutL evs n.toNat s := pick_eq (rsrt.filter _) fun q => by
              rw [List.mem_filter]
              refine ⟨fun ⟨m1, m2⟩ => ?_, fun ⟨m0, m1, m2⟩ => ⟨rof q m0.1 (by omega) (qr.trans m1), @decide_eq_true _ (Classical.propDecidable _) ⟨m1, m2⟩⟩⟩
              have z := rmem q m1
              exact ⟨by omega, @of_decide_eq_true _ (Classical.propDecidable _) m2⟩
            rw [em]
            refine ⟨Dk, _, rfl, .inl ⟨SqL.lt upd_same, fun tq htq => ?_⟩⟩
            have sk := Same.new (o := .lst ((mutL evs n.toNat s).map V.int)) hDk
            have st := Same.new (o := .tup ((mutL evs n.toNat s).map V.int)) htq
            have s10 := sk.trans st
            have hT := upd_same (H := upd H9 Dk (.lst ((mutL evs n.toNat s).map V.int))) (a := tq) (o := .tup ((mutL evs n.toNat s).map V.int))
            have L10 := L9.same s10
            have snoc : (rs.take (j + 1)).foldl (kdF (mutL evs n.toNat)) [] = if mutL evs n.toNat s ∈ (rs.take j).foldl (kdF (mutL evs n.toNat)) [] then (rs.take j).foldl (kdF (mutL evs n.toNat)) [] else (rs.take j).foldl (kdF (mutL evs n.toNat)) [] ++ [mutL evs n.toNat s] := by rw [take_succ hs, List.foldl_append]; rfl
            have lac : ((rs.take j).foldl (kdF (mutL evs n.toNat)) []).length ≤ 60 := by
              have z : ∀ (l : List Int) (acc : List (List Int)), (l.foldl (kdF (mutL evs n.toNat)) acc).length ≤ acc.length + l.length := fun l => by
                induction l with
                | nil => intro acc; exact Nat.le_refl _
                | cons q l ih =>
                  intro acc
                  have h := ih (kdF (mutL evs n.toNat) acc q)
                  have h2 : (kdF (mutL evs n.toNat) acc q).length ≤ acc.length + 1 := by
                    unfold kdF
                    split
                    · omega
                    · rw [List.length_append]; exact Nat.le_refl _
                  rw [List.foldl_cons, List.length_cons]
                  omega
              have z := z (rs.take j) []
              have : (rs.take j).length ≤ rs.length := by rw [List.length_take]; omega
              have e0 : ([] : List (List Int)).length = 0 := rfl
              omega
            generalize (rs.take j).foldl (kdF (mutL evs n.toNat)) [] = acc at L10 lac snoc
            clear em
            generalize mutL evs n.toNat s = kk at s10 hT L10 snoc sk st htq ⊢
            generalize upd (upd H9 Dk (.lst (kk.map V.int))) tq (.tup (kk.map V.int)) = H10 at s10 hT L10 ⊢
            have hIT : IT K H10 (.ref tq) kk := ⟨tq, rfl, SqT.lt hT⟩
            refine ⟨_, rfl, _, rfl, dI kk, acc.map dI, IT.dp hIT, LTs.dp (LTt.s L10), (nice_dI kk).shaped (by decide), (nice_dIs acc).shaped (by decide), _, rfl, ?_⟩
            rw [dI_any]
            by_cases c : kk ∈ acc
            · rw [decide_eq_true c]
              rw [if_pos c] at snoc
              exact iteF ⟨s9.trans s10, _, _, _, rfl, by rw [snoc]; exact L10⟩
            · rw [decide_eq_false c]
              rw [if_neg c] at snoc
              obtain ⟨xs, hx, al⟩ := L10
              have lx := al.len
              refine iteT ⟨_, rfl, .inl ⟨rfl, _, SqL.lt hx⟩, _, rfl, Du, xs, _, rfl, rfl, hx, Nat.lt_of_le_of_lt (show xs.length ≤ 60 by omega) (by decide), ?_⟩
              have kp := Keep.lst (o := .lst (xs ++ [.ref tq])) hx
              refine ⟨Same.chg (s9.trans s10) hDu, _, _, _, rfl, ?_⟩
              rw [snoc]
              exact ⟨_, upd_same, (al.imp fun _ _ ⟨q, e, z⟩ => ⟨q, e, kp _ _ rfl z⟩).snoc ⟨tq, rfl, kp _ _ rfl hT⟩⟩
        · rintro σ H9 ⟨s9, gb, u8, u11, rfl, L9⟩
          rw [List.length_map, List.take_length] at L9
          have L9 : LTt H9 Du (kn (mutL evs n.toNat) (rchL evs n.toNat 0)).1 := by rw [f2, ← ers]; exact L9
          have hM9 := (hM7.keep (Keep.of s8)).keep (Keep.of s9)
          have hR9 := s9 _ _ hR8
          have hp9 := (hp7.same s8).same s9
          refine ⟨_, rfl, .ref x, n, evs, rfl, hM9, n0, n60, len, oks, fun rq Ha sa hI => ?_⟩
          obtain ⟨_, eq1, hq1⟩ := hI
          refine isT eq1 hq1 ⟨true, rfl, iteF ?_⟩
          refine ⟨_, rfl, .ref x, n, evs, rfl, hM9.keep (Keep.of sa), n0, n60, len, oks, fun rq2 Hb sb hI2 => ?_⟩
          have sab := sa.trans sb
          rw [← ers] at hI2
          refine ⟨_, rfl, pp, _, rfl, .inl ⟨SqL.lt (sab _ _ hR9), fun tq htq => ?_⟩⟩
          have st := Same.new (o := .tup (rs.map V.int)) htq
          refine neI (hI2.keep (Keep.of st)) (IT.new rfl) ⟨_, rfl, iteF ?_⟩
          have s9c := sab.trans st
          have hMc := hM9.keep (Keep.of s9c)
          have hRc := s9c _ _ hR9
          have hpc := hp9.same s9c
          have Lc := L9.same s9c
          clear st hI2 sab sa sb
          generalize upd Hb tq (.tup (rs.map V.int)) = Hc at s9c hMc hRc hpc Lc ⊢
          refine ⟨_, rfl, .ref x, n, evs, rfl, hMc, n0, n60, len, oks, fun Tl Hd sd hTn LT => ?_⟩
          obtain ⟨xsT, hT, alT⟩ := id LT
          have hMd := hMc.keep (Keep.of sd)
          have hRd := sd _ _ hRc
          have hpd := hpc.same sd
          have Ld := Lc.same sd
          obtain ⟨_, hDd, _⟩ := id Lc
          have nDT : Du ≠ Tl := ne_of_none hDd hTn
          refine ⟨_, rfl, isLs rfl hT ⟨true, rfl, iteF ?_⟩⟩
          refine ⟨_, rfl, _, rfl, ?_⟩
          dsimp only [tNil]
          refine sortL Ld f1 f4 fun p2 He se hp2 L2 => neL (LT.same se) L2 ⟨_, rfl, iteF ?_⟩
          have hTe := se _ _ hT
          refine ⟨_, rfl, Tl, rfl, ⟨_, SqL.lt hTe⟩, fun D3 hD3 => ?_⟩
          have lxT := alT.len
          have ldue : (kn (mutL evs n.toNat) (rchL evs n.toNat 0)).1.length ≤ 60 := by
            have z := kn_len (mutL evs n.toNat) (rchL evs n.toNat 0) ([], [])
            have z : (kn (mutL evs n.toNat) (rchL evs n.toNat 0)).1.length ≤ 0 + (rchL evs n.toNat 0).length := z
            rw [← ers] at z
            rw [← ers]
            omega
          refine lcGL (K := K) (a := Tl) (xs := xsT) (bs := (kn (mutL evs n.toNat) (rchL evs n.toNat 0)).1.map fun ns => (ns.length : Int)) (R := fun _ v b => v = .int b) (SqL.lt hTe) hD3 (by rw [List.length_map]; exact Nat.lt_of_le_of_lt ldue (by decide)) (by rw [List.length_map, lxT]) (fun _ _ _ _ _ z => z) ?_ ?_
          · intro j y bb H7 Q1 Q2 hj hb s7 hq
            obtain ⟨ns, hn, hI⟩ := alT.getL hj
            rw [List.getElem?_map, hn] at hb
            have hb' : ((ns.length : Nat) : Int) = bb := Option.some.inj hb
            subst hb'
            refine ⟨rfl, _, rfl, lenI (hI.keep (Keep.of (se.trans s7))) fun ys e => ?_⟩
            rw [e]
            exact hq _ _ (Same.refl _) rfl
          · intro Hf acc sf hA al
            have ea := all2_int al
            subst ea
            have sef := se.trans sf
            have hRf := sef _ _ hRd
            have hTf := sef _ _ hT
            refine ⟨D3, _, rfl, SqL.lt hA, _, rfl, pp, _, rfl, .inl (SqL.lt hRf), ?_⟩
            rw [f3, ← ers, List.length_map]
            refine ⟨rfl, _, rfl, iteNS rfl ?_⟩
            refine ⟨_, rfl, .inl ⟨rfl, _, SqL.lt hTf⟩, Tl, _, rfl, rfl, hTf, ?_⟩
            have kg := Keep.lst (o := .lst []) hTf
            have Lg := (Ld.same sef).but (l := [Tl]) (But.at (p := Tl) (o := .lst []) (by simp)) kg (by simpa using nDT)
            have hMg := (hMd.keep (Keep.of sef)).keep kg
            have fT := hpc.fresh hTn
            have hpg := (hpd.same sef).but (l := [Tl]) (But.at (p := Tl) (o := .lst []) (by simp)) (by simp; exact fT.1.symm) (by simp; exact fT.2.1.symm) (by simp; exact fT.2.2.symm)
            refine ⟨_, rfl, .ref x, n, evs, rfl, hMg, n0, n60, len, oks, fun T2 Hh sh hT2 LT2 => ⟨_, rfl, ?_⟩⟩
            dsimp only [tNil]
            refine sortL (Lg.same sh) f1 f4 fun p3 Hi si hp3 L3 => neL (LT2.same si) L3 ⟨_, rfl, iteF ?_⟩
            exact ⟨(hpg.same sh).same si, _, _, _, _, _, _, _, _, _, _, rfl⟩
end
end Myk05

namespace Myk05
open PySem L2 My EnT
theorem all_mk {l : PySem.W.OpenLaw} {w : World} {K : PySem.W.Frag} {h : Heap} {mg : Str → Option Value} {fa : Addr} (X : K.In h) (G : h.Ns mainGlobals mg) (hfa : mg "law" = some (.ref fa))
    {f1 f2 f3 f4 f5 f6 f7 f8 f9 f10 f11 f12 f13 f14 C_Machine : Addr} {od1 an1 od2 an2 od3 an3 od4 an4 od5 an5 od6 an6 od7 an7 od8 an8 od9 an9 od10 an10 od11 an11 od12 an12 od13 an13 od14 an14 : Option Addr} {sl1 sl2 sl3 sl4 sl5 sl6 sl7 sl8 sl9 sl10 sl11 sl12 sl13 sl14 : Array (Option Value)}
    {oc1 kV1 dc1 pm1 cd1 ct1 oc2 kV2 dc2 pm2 cd2 ct2 oc3 kV3 dc3 pm3 cd3 ct3 oc4 kV4 dc4 pm4 cd4 ct4 oc5 kV5 dc5 pm5 cd5 ct5 oc6 kV6 dc6 pm6 cd6 ct6 oc7 kV7 dc7 pm7 cd7 ct7 oc8 kV8 dc8 pm8 cd8 ct8 oc9 kV9 dc9 pm9 cd9 ct9 oc10 kV10 dc10 pm10 cd10 ct10 oc11 kV11 dc11 pm11 cd11 ct11 oc12 kV12 dc12 pm12 cd12 ct12 oc13 kV13 dc13 pm13 cd13 ct13 oc14 kV14 dc14 pm14 cd14 ct14 : Value} {t_MOST_EVENTS t_MOST_POINTS t_MOST_STANDINGS t_MOST_TRIES : Tok}
    (aC_Machine : PySem.W.nsIn K mainGlobals "Machine" = some (some (.ref C_Machine)))
    (a1 : PySem.W.nsIn K mainGlobals "is_whole" = some (some (.ref f1)))
    (l1 : K.lookup f1 = some ⟨oc1, od1, .func (PySem.W.fnOf "is_whole" "is_whole" (defArgs s_is_whole) (defBody s_is_whole) (defScope s_is_whole) .none kV1 dc1 pm1 an1 cd1 ct1), sl1⟩)
    (c1 : PySem.W.codeIn K cd1 "is_whole" = true) (k1 : PySem.W.keepIn K (.ref f1) = true)
    (a2 : PySem.W.nsIn K mainGlobals "_steps" = some (some (.ref f2)))
    (l2 : K.lookup f2 = some ⟨oc2, od2, .func (PySem.W.fnOf "_steps" "_steps" (defArgs s_steps) (defBody s_steps) (defScope s_steps) .none kV2 dc2 pm2 an2 cd2 ct2), sl2⟩)
    (c2 : PySem.W.codeIn K cd2 "_steps" = true) (k2 : PySem.W.keepIn K (.ref f2) = true)
    (a3 : PySem.W.nsIn K mainGlobals "_spread" = some (some (.ref f3)))
    (l3 : K.lookup f3 = some ⟨oc3, od3, .func (PySem.W.fnOf "_spread" "_spread" (defArgs s_spread) (defBody s_spread) (defScope s_spread) .none kV3 dc3 pm3 an3 cd3 ct3), sl3⟩)
    (c3 : PySem.W.codeIn K cd3 "_spread" = true) (k3 : PySem.W.keepIn K (.ref f3) = true)
    (a4 : PySem.W.nsIn K mainGlobals "_law_pot" = some (some (.ref f4)))
    (l4 : K.lookup f4 = some ⟨oc4, od4, .func (PySem.W.fnOf "_law_pot" "_law_pot" (defArgs s_law_pot) (defBody s_law_pot) (defScope s_law_pot) .none kV4 dc4 pm4 an4 cd4 ct4), sl4⟩)
    (c4 : PySem.W.codeIn K cd4 "_law_pot" = true) (k4 : PySem.W.keepIn K (.ref f4) = true)
    (a5 : PySem.W.nsIn K mainGlobals "_law_draw" = some (some (.ref f5)))
    (l5 : K.lookup f5 = some ⟨oc5, od5, .func (PySem.W.fnOf "_law_draw" "_law_draw" (defArgs s_law_draw) (defBody s_law_draw) (defScope s_law_draw) .none kV5 dc5 pm5 an5 cd5 ct5), sl5⟩)
    (c5 : PySem.W.codeIn K cd5 "_law_draw" = true) (k5 : PySem.W.keepIn K (.ref f5) = true)
    (a6 : PySem.W.nsIn K mainGlobals "_law_from" = some (some (.ref f6)))
    (l6 : K.lookup f6 = some ⟨oc6, od6, .func (PySem.W.fnOf "_law_from" "_law_from" (defArgs s_law_from) (defBody s_law_from) (defScope s_law_from) .none kV6 dc6 pm6 an6 cd6 ct6), sl6⟩)
    (c6 : PySem.W.codeIn K cd6 "_law_from" = true) (k6 : PySem.W.keepIn K (.ref f6) = true)
    (a7 : PySem.W.nsIn K mainGlobals "is_between" = some (some (.ref f7)))
    (l7 : K.lookup f7 = some ⟨oc7, od7, .func (PySem.W.fnOf "is_between" "is_between" (defArgs s_is_between) (defBody s_is_between) (defScope s_is_between) .none kV7 dc7 pm7 an7 cd7 ct7), sl7⟩)
    (c7 : PySem.W.codeIn K cd7 "is_between" = true) (k7 : PySem.W.keepIn K (.ref f7) = true)
    (a8 : PySem.W.nsIn K mainGlobals "reached" = some (some (.ref f8)))
    (l8 : K.lookup f8 = some ⟨oc8, od8, .func (PySem.W.fnOf "reached" "reached" (defArgs s_reached) (defBody s_reached) (defScope s_reached) .none kV8 dc8 pm8 an8 cd8 ct8), sl8⟩)
    (c8 : PySem.W.codeIn K cd8 "reached" = true) (k8 : PySem.W.keepIn K (.ref f8) = true)
    (a9 : PySem.W.nsIn K mainGlobals "_law_parts" = some (some (.ref f9)))
    (l9 : K.lookup f9 = some ⟨oc9, od9, .func (PySem.W.fnOf "_law_parts" "_law_parts" (defArgs s_law_parts) (defBody s_law_parts) (defScope s_law_parts) .none kV9 dc9 pm9 an9 cd9 ct9), sl9⟩)
    (c9 : PySem.W.codeIn K cd9 "_law_parts" = true) (k9 : PySem.W.keepIn K (.ref f9) = true)
    (a10 : PySem.W.nsIn K mainGlobals "knots" = some (some (.ref f10)))
    (l10 : K.lookup f10 = some ⟨oc10, od10, .func (PySem.W.fnOf "knots" "knots" (defArgs s_knots) (defBody s_knots) (defScope s_knots) .none kV10 dc10 pm10 an10 cd10 ct10), sl10⟩)
    (c10 : PySem.W.codeIn K cd10 "knots" = true) (k10 : PySem.W.keepIn K (.ref f10) = true)
    (a11 : PySem.W.nsIn K mainGlobals "are_counts" = some (some (.ref f11)))
    (l11 : K.lookup f11 = some ⟨oc11, od11, .func (PySem.W.fnOf "are_counts" "are_counts" (defArgs s_are_counts) (defBody s_are_counts) (defScope s_are_counts) .none kV11 dc11 pm11 an11 cd11 ct11), sl11⟩)
    (c11 : PySem.W.codeIn K cd11 "are_counts" = true) (k11 : PySem.W.keepIn K (.ref f11) = true)
    (a12 : PySem.W.nsIn K mainGlobals "_is_event" = some (some (.ref f12)))
    (l12 : K.lookup f12 = some ⟨oc12, od12, .func (PySem.W.fnOf "_is_event" "_is_event" (defArgs s_is_event) (defBody s_is_event) (defScope s_is_event) .none kV12 dc12 pm12 an12 cd12 ct12), sl12⟩)
    (c12 : PySem.W.codeIn K cd12 "_is_event" = true) (k12 : PySem.W.keepIn K (.ref f12) = true)
    (a13 : PySem.W.findIn K (.ref C_Machine) "__init__" = some (some (.ref f13)))
    (i13 : PySem.W.isFn K (.ref f13) = true)
    (l13 : K.lookup f13 = some ⟨oc13, od13, .func (PySem.W.fnOf "__init__" "Machine.__init__" (defArgs s_Machine___init__) (defBody s_Machine___init__) (defScope s_Machine___init__) .none kV13 dc13 pm13 an13 cd13 ct13), sl13⟩)
    (c13 : PySem.W.codeIn K cd13 "Machine.__init__" = true) (k13 : PySem.W.keepIn K (.ref f13) = true)
    (a14 : PySem.W.nsIn K mainGlobals "law" = some (some (.ref f14)))
    (l14 : K.lookup f14 = some ⟨oc14, od14, .func (PySem.W.fnOf "law" "law" (defArgs s_law) (defBody s_law) (defScope s_law) .none kV14 dc14 pm14 an14 cd14 ct14), sl14⟩)
    (c14 : PySem.W.codeIn K cd14 "law" = true) (k14 : PySem.W.keepIn K (.ref f14) = true)
    (pg_Machine : PySem.W.plainGet K C_Machine Str.empty = true) (hd_Machine : PySem.W.hasDictIn K C_Machine = true) (po_Machine : PySem.W.plainOver K C_Machine = true) (sa_Machine : PySem.W.findIn K (.ref C_Machine) "__setattr__" = some (some (.builtin "object.__setattr__"))) (mk_Machine : PySem.W.makesIn K C_Machine = true) (kc_Machine : PySem.W.keepIn K (.ref C_Machine) = true)
    (n_events : PySem.W.findIn K (.ref C_Machine) "events" = some none)
    (n_standings : PySem.W.findIn K (.ref C_Machine) "standings" = some none)
    (z_abs : PySem.W.nsIn K mainGlobals "abs" = some none)
    (z_bool : PySem.W.nsIn K mainGlobals "bool" = some none)
    (z_enumerate : PySem.W.nsIn K mainGlobals "enumerate" = some none)
    (z_int : PySem.W.nsIn K mainGlobals "int" = some none)
    (z_isinstance : PySem.W.nsIn K mainGlobals "isinstance" = some none)
    (z_len : PySem.W.nsIn K mainGlobals "len" = some none)
    (z_list : PySem.W.nsIn K mainGlobals "list" = some none)
    (z_range : PySem.W.nsIn K mainGlobals "range" = some none)
    (z_set : PySem.W.nsIn K mainGlobals "set" = some none)
    (z_sorted : PySem.W.nsIn K mainGlobals "sorted" = some none)
    (z_sum : PySem.W.nsIn K mainGlobals "sum" = some none)
    (z_tuple : PySem.W.nsIn K mainGlobals "tuple" = some none)
    (v_MOST_EVENTS : PySem.W.nsIn K mainGlobals "MOST_EVENTS" = some (some (.int 30 t_MOST_EVENTS)))
    (v_MOST_POINTS : PySem.W.nsIn K mainGlobals "MOST_POINTS" = some (some (.int 400 t_MOST_POINTS)))
    (v_MOST_STANDINGS : PySem.W.nsIn K mainGlobals "MOST_STANDINGS" = some (some (.int 12 t_MOST_STANDINGS)))
    (v_MOST_TRIES : PySem.W.nsIn K mainGlobals "MOST_TRIES" = some (some (.int 40 t_MOST_TRIES)))
    : ∃ fd : FuncData, (∀ (s : Shared) (v : Value), BindsTo s fd ⟨[v], []⟩ [("script", v)]) ∧ ∀ base : Heap, K.In base → base.Ns mainGlobals mg → FnOk l.prog w K mg base CX0 7 fa fd ["script"] (spLaw K) := by
  have e := hfa.symm.trans (PySem.W.mg_of X G a14)
  cases e
  have F1 := fun_mk (st := s_is_whole) l1 c1 k1
  have b1 := F1.binds (ps := ["thing"]) fun _ _ _ _ _ _ us hl => match us, hl with | [_], _ => rfl
  have F2 := fun_mk (st := s_steps) l2 c2 k2
  have b2 := F2.binds (ps := ["machine", "side", "far_side"]) fun _ _ _ _ _ _ us hl => match us, hl with | [_, _, _], _ => rfl
  have F3 := fun_mk (st := s_spread) l3 c3 k3
  have b3 := F3.binds (ps := ["steps", "start"]) fun _ _ _ _ _ _ us hl => match us, hl with | [_, _], _ => rfl
  have F4 := fun_mk (st := s_law_pot) l4 c4 k4
  have b4 := F4.binds (ps := ["script"]) fun _ _ _ _ _ _ us hl => match us, hl with | [_], _ => rfl
  have F5 := fun_mk (st := s_law_draw) l5 c5 k5
  have b5 := F5.binds (ps := ["pot", "many"]) fun _ _ _ _ _ _ us hl => match us, hl with | [_, _], _ => rfl
  have F6 := fun_mk (st := s_law_from) l6 c6 k6
  have b6 := F6.binds (ps := ["parts", "start"]) fun _ _ _ _ _ _ us hl => match us, hl with | [_, _], _ => rfl
  have F7 := fun_mk (st := s_is_between) l7 c7 k7
  have b7 := F7.binds (ps := ["thing", "low", "high"]) fun _ _ _ _ _ _ us hl => match us, hl with | [_, _, _], _ => rfl
  have F8 := fun_mk (st := s_reached) l8 c8 k8
  have b8 := F8.binds (ps := ["machine"]) fun _ _ _ _ _ _ us hl => match us, hl with | [_], _ => rfl
  have F9 := fun_mk (st := s_law_parts) l9 c9 k9
  have b9 := F9.binds (ps := ["pot", "most_standings", "most_events"]) fun _ _ _ _ _ _ us hl => match us, hl with | [_, _, _], _ => rfl
  have F10 := fun_mk (st := s_knots) l10 c10 k10
  have b10 := F10.binds (ps := ["machine"]) fun _ _ _ _ _ _ us hl => match us, hl with | [_], _ => rfl
  have F11 := fun_mk (st := s_are_counts) l11 c11 k11
  have b11 := F11.binds (ps := ["tries", "points"]) fun _ _ _ _ _ _ us hl => match us, hl with | [_, _], _ => rfl
  have F12 := fun_mk (st := s_is_event) l12 c12 k12
  have b12 := F12.binds (ps := ["thing", "standings"]) fun _ _ _ _ _ _ us hl => match us, hl with | [_, _], _ => rfl
  have F13 := fun_mk (st := s_Machine___init__) l13 c13 k13
  have b13 := F13.binds (ps := ["self", "standings", "events"]) fun _ _ _ _ _ _ us hl => match us, hl with | [_, _, _], _ => rfl
  have F14 := fun_mk (st := s_law) l14 c14 k14
  have b14 := F14.binds (ps := ["script"]) fun _ _ _ _ _ _ us hl => match us, hl with | [_], _ => rfl
  have T : Txt K mg { f_is_whole := f1, d_is_whole := PySem.W.fnOf "is_whole" "is_whole" (defArgs s_is_whole) (defBody s_is_whole) (defScope s_is_whole) .none kV1 dc1 pm1 an1 cd1 ct1, f_steps := f2, d_steps := PySem.W.fnOf "_steps" "_steps" (defArgs s_steps) (defBody s_steps) (defScope s_steps) .none kV2 dc2 pm2 an2 cd2 ct2, f_spread := f3, d_spread := PySem.W.fnOf "_spread" "_spread" (defArgs s_spread) (defBody s_spread) (defScope s_spread) .none kV3 dc3 pm3 an3 cd3 ct3, f_law_pot := f4, d_law_pot := PySem.W.fnOf "_law_pot" "_law_pot" (defArgs s_law_pot) (defBody s_law_pot) (defScope s_law_pot) .none kV4 dc4 pm4 an4 cd4 ct4, f_law_draw := f5, d_law_draw := PySem.W.fnOf "_law_draw" "_law_draw" (defArgs s_law_draw) (defBody s_law_draw) (defScope s_law_draw) .none kV5 dc5 pm5 an5 cd5 ct5, f_law_from := f6, d_law_from := PySem.W.fnOf "_law_from" "_law_from" (defArgs s_law_from) (defBody s_law_from) (defScope s_law_from) .none kV6 dc6 pm6 an6 cd6 ct6, f_is_between := f7, d_is_between := PySem.W.fnOf "is_between" "is_between" (defArgs s_is_between) (defBody s_is_between) (defScope s_is_between) .none kV7 dc7 pm7 an7 cd7 ct7, f_reached := f8, d_reached := PySem.W.fnOf "reached" "reached" (defArgs s_reached) (defBody s_reached) (defScope s_reached) .none kV8 dc8 pm8 an8 cd8 ct8, f_law_parts := f9, d_law_parts := PySem.W.fnOf "_law_parts" "_law_parts" (defArgs s_law_parts) (defBody s_law_parts) (defScope s_law_parts) .none kV9 dc9 pm9 an9 cd9 ct9, f_knots := f10, d_knots := PySem.W.fnOf "knots" "knots" (defArgs s_knots) (defBody s_knots) (defScope s_knots) .none kV10 dc10 pm10 an10 cd10 ct10, f_are_counts := f11, d_are_counts := PySem.W.fnOf "are_counts" "are_counts" (defArgs s_are_counts) (defBody s_are_counts) (defScope s_are_counts) .none kV11 dc11 pm11 an11 cd11 ct11, f_is_event := f12, d_is_event := PySem.W.fnOf "_is_event" "_is_event" (defArgs s_is_event) (defBody s_is_event) (defScope s_is_event) .none kV12 dc12 pm12 an12 cd12 ct12, f_Machine___init__ := f13, d_Machine___init__ := PySem.W.fnOf "__init__" "Machine.__init__" (defArgs s_Machine___init__) (defBody s_Machine___init__) (defScope s_Machine___init__) .none kV13 dc13 pm13 an13 cd13 ct13, f_law := fa, d_law := PySem.W.fnOf "law" "law" (defArgs s_law) (defBody s_law) (defScope s_law) .none kV14 dc14 pm14 an14 cd14 ct14, C_Machine := C_Machine, t_MOST_EVENTS := t_MOST_EVENTS, t_MOST_POINTS := t_MOST_POINTS, t_MOST_STANDINGS := t_MOST_STANDINGS, t_MOST_TRIES := t_MOST_TRIES } := {
    F_is_whole := F1, B_is_whole := b1,
    m_is_whole := PySem.W.mg_of X G a1,
    F_steps := F2, B_steps := b2,
    m_steps := PySem.W.mg_of X G a2,
    F_spread := F3, B_spread := b3,
    m_spread := PySem.W.mg_of X G a3,
    F_law_pot := F4, B_law_pot := b4,
    m_law_pot := PySem.W.mg_of X G a4,
    F_law_draw := F5, B_law_draw := b5,
    m_law_draw := PySem.W.mg_of X G a5,
    F_law_from := F6, B_law_from := b6,
    m_law_from := PySem.W.mg_of X G a6,
    F_is_between := F7, B_is_between := b7,
    m_is_between := PySem.W.mg_of X G a7,
    F_reached := F8, B_reached := b8,
    m_reached := PySem.W.mg_of X G a8,
    F_law_parts := F9, B_law_parts := b9,
    m_law_parts := PySem.W.mg_of X G a9,
    F_knots := F10, B_knots := b10,
    m_knots := PySem.W.mg_of X G a10,
    F_are_counts := F11, B_are_counts := b11,
    m_are_counts := PySem.W.mg_of X G a11,
    F_is_event := F12, B_is_event := b12,
    m_is_event := PySem.W.mg_of X G a12,
    F_Machine___init__ := F13, B_Machine___init__ := b13,
    F_law := F14, B_law := b14,
    m_law := PySem.W.mg_of X G a14,
    m_Machine := PySem.W.mg_of X G aC_Machine,
    cl_Machine := ⟨pg_Machine, hd_Machine, po_Machine, sa_Machine⟩, mk_Machine := ⟨mk_Machine, a13, i13, kc_Machine⟩,
    n_events := n_events,
    n_standings := n_standings,
    z_abs := PySem.W.mg_none_of X G z_abs,
    z_bool := PySem.W.mg_none_of X G z_bool,
    z_enumerate := PySem.W.mg_none_of X G z_enumerate,
    z_int := PySem.W.mg_none_of X G z_int,
    z_isinstance := PySem.W.mg_none_of X G z_isinstance,
    z_len := PySem.W.mg_none_of X G z_len,
    z_list := PySem.W.mg_none_of X G z_list,
    z_range := PySem.W.mg_none_of X G z_range,
    z_set := PySem.W.mg_none_of X G z_set,
    z_sorted := PySem.W.mg_none_of X G z_sorted,
    z_sum := PySem.W.mg_none_of X G z_sum,
    z_tuple := PySem.W.mg_none_of X G z_tuple,
    c_MOST_EVENTS := PySem.W.mg_of X G v_MOST_EVENTS,
    c_MOST_POINTS := PySem.W.mg_of X G v_MOST_POINTS,
    c_MOST_STANDINGS := PySem.W.mg_of X G v_MOST_STANDINGS,
    c_MOST_TRIES := PySem.W.mg_of X G v_MOST_TRIES }
  exact ⟨_, fun s v => .of_eq rfl, fun base _ _ => ok_law T⟩
theorem walk {l : PySem.W.OpenLaw} {q : Program} {loose : List Str} {XP : (Str → Option Value) → Heap → Prop} {YP : World → Heap → Prop} {d : DefRec} {K : Params → PySem.W.Frag} (hn : l.most = some 63) (hdf : d.params.defaults = [])
    (hY : ∀ (w : World) (h : Heap), YP w h → (K w.params).In h)
    (F : ∀ (w : World) (mg : Str → Option Value) (fa : Addr) (h : Heap), (K w.params).In h → h.Ns mainGlobals mg → mg d.name = some (.ref fa) →
      ∃ fd : FuncData, (∀ (s : Shared) (u : Value), BindsTo s fd ⟨[u], []⟩ [("script", u)]) ∧ ∀ base : Heap, (K w.params).In base → base.Ns mainGlobals mg → FnOk l.prog w (K w.params) mg base CX0 7 fa fd ["script"] (spLaw (K w.params))) :
    PySem.W.WalkO q loose XP YP l.row.toRowW d [] (fun f vs => PySem.call f vs) :=
  L2.walk_of (n := 63) (k := 7) (x := "script") (CX := fun _ => CX0) (sp := fun w => spLaw (K w.params)) hn (by decide) hdf ⟨rfl, by decide, by decide⟩ hY F (fun _ _ a ns hl _ hS => ⟨a, ns, rfl, hS, hl, fun _ => rfl⟩) fun _ _ _ _ _ z => z
end Myk05

open PySem PySem.W PyProof.Rows
set_option maxRecDepth 100000 in
set_option maxHeartbeats 0 in
theorem PySem.Challenge.cw_neverleapt_k05_whole_standings_reached_a_holds : PySem.Challenge.rw_neverleapt_k05_whole_standings_reached_a.Holds := by
  w_on; o_law; k_head; (case hw => w_witness2)
  k_fill
  refine Myk05.walk (l := PySem.Challenge.rw_neverleapt_k05_whole_standings_reached_a) rfl rfl (fun w h Y => PySem.W.kIn_of Y) ?F
  case F =>
    intro w mg fa h KX G hmg
    refine' Myk05.all_mk KX G hmg ?aC_Machine ?a1 ?l1 ?c1 ?k1 ?a2 ?l2 ?c2 ?k2 ?a3 ?l3 ?c3 ?k3 ?a4 ?l4 ?c4 ?k4 ?a5 ?l5 ?c5 ?k5 ?a6 ?l6 ?c6 ?k6 ?a7 ?l7 ?c7 ?k7 ?a8 ?l8 ?c8 ?k8 ?a9 ?l9 ?c9 ?k9 ?a10 ?l10 ?c10 ?k10 ?a11 ?l11 ?c11 ?k11 ?a12 ?l12 ?c12 ?k12 ?a13 ?i13 ?l13 ?c13 ?k13 ?a14 ?l14 ?c14 ?k14 ?pg_Machine ?hd_Machine ?po_Machine ?sa_Machine ?mk_Machine ?kc_Machine ?n_events ?n_standings ?z_abs ?z_bool ?z_enumerate ?z_int ?z_isinstance ?z_len ?z_list ?z_range ?z_set ?z_sorted ?z_sum ?z_tuple ?v_MOST_EVENTS ?v_MOST_POINTS ?v_MOST_STANDINGS ?v_MOST_TRIES
    (case aC_Machine => k_is)
    (case a1 => k_is)
    (case l1 => k_is)
    (case c1 => k_is)
    (case k1 => k_is)
    (case a2 => k_is)
    (case l2 => k_is)
    (case c2 => k_is)
    (case k2 => k_is)
    (case a3 => k_is)
    (case l3 => k_is)
    (case c3 => k_is)
    (case k3 => k_is)
    (case a4 => k_is)
    (case l4 => k_is)
    (case c4 => k_is)
    (case k4 => k_is)
    (case a5 => k_is)
    (case l5 => k_is)
    (case c5 => k_is)
    (case k5 => k_is)
    (case a6 => k_is)
    (case l6 => k_is)
    (case c6 => k_is)
    (case k6 => k_is)
    (case a7 => k_is)
    (case l7 => k_is)
    (case c7 => k_is)
    (case k7 => k_is)
    (case a8 => k_is)
    (case l8 => k_is)
    (case c8 => k_is)
    (case k8 => k_is)
    (case a9 => k_is)
    (case l9 => k_is)
    (case c9 => k_is)
    (case k9 => k_is)
    (case a10 => k_is)
    (case l10 => k_is)
    (case c10 => k_is)
    (case k10 => k_is)
    (case a11 => k_is)
    (case l11 => k_is)
    (case c11 => k_is)
    (case k11 => k_is)
    (case a12 => k_is)
    (case l12 => k_is)
    (case c12 => k_is)
    (case k12 => k_is)
    (case a13 => k_is)
    (case i13 => k_is)
    (case l13 => k_is)
    (case c13 => k_is)
    (case k13 => k_is)
    (case a14 => k_is)
    (case l14 => k_is)
    (case c14 => k_is)
    (case k14 => k_is)
    (case pg_Machine => k_is)
    (case hd_Machine => k_is)
    (case po_Machine => k_is)
    (case sa_Machine => k_is)
    (case mk_Machine => k_is)
    (case kc_Machine => k_is)
    (case n_events => k_is)
    (case n_standings => k_is)
    (case z_abs => k_is)
    (case z_bool => k_is)
    (case z_enumerate => k_is)
    (case z_int => k_is)
    (case z_isinstance => k_is)
    (case z_len => k_is)
    (case z_list => k_is)
    (case z_range => k_is)
    (case z_set => k_is)
    (case z_sorted => k_is)
    (case z_sum => k_is)
    (case z_tuple => k_is)
    (case v_MOST_EVENTS => k_is)
    (case v_MOST_POINTS => k_is)
    (case v_MOST_STANDINGS => k_is)
    (case v_MOST_TRIES => k_is)
