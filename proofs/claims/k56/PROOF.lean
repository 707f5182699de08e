import PyProof.Rows.All
import Wide.All
import OpenK.AllK
import Wide.FinOn
import HandS.ForMost
import HandS.Iter
import HandS.Wide
import HandS.Gcd
import HandS.Evl
import HandS.TupAny
import HandS.TupMul
import HandS.IsInst
import KE.GoesEnum
import HandS.WideBits
import HandS.Style
import PySem.Challenge.RW_neverleapt_k56_whole_leaps_and_shows_of
set_option Elab.async false
set_option linter.all false
set_option maxRecDepth 100000
set_option maxHeartbeats 4000000
/-! enumerate over a tuple (of mine) -/
namespace EnT
open PySem L2 PyProof.Rows
open AutoSeq1 (wpAny_loadPart')

theorem made_tup (t : Addr) (its : Array Value) (n : Nat) (dd : Option Addr) (sl : Array (Option Value)) :
    Meets (Builtin.«enumerate.__new__» ⟨[.type "enumerate", .ref t], []⟩) (fun _ R s =>
      s.heap.get? t = some { cls := .type "tuple", dict := dd, data := .seq its n, slots := sl } ∧
      R (.ok (.ret (.ref (s.heap.push { cls := .type "tuple_iterator", data := .fields #[.ref t, .int 0 0] }).objs.size)))
        { s with heap := ((s.heap.push { cls := .type "tuple_iterator", data := .fields #[.ref t, .int 0 0] }).push ({ cls := .type "enumerate", data := .fields #[.none, .bool false, .ref s.heap.objs.size, rawInt 0, .none, .none] })) }) :=
  .of_wp fun P w A R s h => by
    obtain ⟨h0, g0, d0, t0, o0⟩ := s
    obtain ⟨ht, h⟩ := h
    have sub := sub_enumerate
    have isT : Heap.IsTuple (Shared.heap ⟨h0, g0, d0, t0, o0⟩) t its := ⟨_, ht, rfl, n, rfl⟩
    wp_walk using wpAny_loadPart' ht
    refine wpAny_stack_any fun z => wpAny_pure ?_
    split
    · rename_i c _ _ _ _ _
      cases (c == Value.type "enumerate") <;>
      · wp_walk using wpAny_loadPart' ht, wpAny_pyIter_tuple isT
        exact ⟨_, rfl, h⟩
    · wp_walk using wpAny_loadPart' ht, wpAny_pyIter_tuple isT
      exact ⟨_, rfl, h⟩

section
variable {prog : Program} {w : World} {A : Around} {E : Value → Shared → Prop} {s : Shared}
theorem call_tup {t : Addr} {its : Array Value} {Q : Value → Shared → Prop} (hT : s.heap.IsTuple t its)
    (h : ∀ h', IsEnum h' (s.heap.objs.size + 1) s.heap.objs.size 0 .none → h'.IsTupleIter s.heap.objs.size t 0 →
      (∀ b o, s.heap.get? b = some o → h'.get? b = some o) → Q (.ref (s.heap.objs.size + 1)) { s with heap := h' }) :
    wpAny (model prog w) A (call (.type "enumerate") [.ref t]) Q E s := by
  obtain ⟨⟨c, dd, dt, sl⟩, ht, hc, n, hd⟩ := hT
  have hc' : c = .type "tuple" := hc
  have hd' : dt = .seq its n := hd
  subst hc' hd'
  refine callType_new F.called_enumerate (by decide) (F.typeCall_enumerate_1 _) (F.newCall_enumerate_1 _) (fun o => F.args_object_init_2 o _) F.entry_enumerate_new
    (made_tup t its n dd sl) ⟨ht, ?_⟩
  have z : (s.heap.push { cls := .type "tuple_iterator", data := .fields #[.ref t, .int 0 0] }).objs.size = s.heap.objs.size + 1 := Heap.size_push ..
  show _ ∧ _
  rw [z]
  have e : IsEnum ((s.heap.push { cls := .type "tuple_iterator", data := .fields #[.ref t, .int 0 0] }).push
      { cls := .type "enumerate", data := .fields #[.none, .bool false, .ref s.heap.objs.size, rawInt 0, .none, .none] }) (s.heap.objs.size + 1) s.heap.objs.size 0 .none := by
    have q := Heap.get?_push_size (s.heap.push { cls := .type "tuple_iterator", data := .fields #[.ref t, .int 0 0] })
      (o := { cls := .type "enumerate", data := .fields #[.none, .bool false, .ref s.heap.objs.size, rawInt 0, .none, .none] }) rfl
    rw [z] at q
    exact q
  exact ⟨⟨_, e, rfl⟩, h _ e ⟨_, Heap.get?_push_of_some _ (Heap.get?_push_size _ rfl), rfl, rfl⟩ fun b o x => Heap.get?_push_of_some _ (Heap.get?_push_of_some _ x)⟩
end

/-- the items of the tuple at a, each in a new pair with its place -/
def Ett (K : PySem.W.Frag) (a : Addr) : It where
  go i H := ∃ (xs : List V) (x : V), SqT K H a xs ∧ xs[i]? = some x
  yld i H v H' := ∃ T x, v = .ref T ∧ H T = none ∧ H' = upd H T (.tup [.int (i : Nat), x]) ∧ ∀ xs, SqT K H a xs → xs[i]? = some x
  stop i H := ∃ xs : List V, SqT K H a xs ∧ xs.length = i

def St (a e it : Addr) (i : Nat) (h : Heap) : Prop := (∃ old, IsEnum h e it ((i : Nat) : Int) old) ∧ h.IsTupleIter it a i ∧ e ≠ it

theorem apart {h : Heap} {it a : Addr} {i : Nat} {its : Array Value} (h1 : h.IsTupleIter it a i) (h2 : h.IsTuple a its) : a ≠ it := by
  obtain ⟨o, e, c, _⟩ := h1
  obtain ⟨o', e', c', _⟩ := h2
  intro z
  rw [z, e] at e'
  cases e'
  rw [c] at c'
  exact absurd c' (by decide)

theorem turn {P : Program} {w : World} {K : PySem.W.Frag} {elts : List Expr} {kk : Nat} {tpos : Pos} (a e it : Addr) :
    Turn P w K (.Tuple elts kk tpos) (Ett K a) [e, it] e (St a e it) where
  mem := by simp
  obj := fun i h st b hb => by
    obtain ⟨⟨old, he⟩, ⟨o, ho, hc, hd⟩, _⟩ := st
    rcases (by simpa using hb : b = e ∨ b = it) with z | z
    · subst z; exact ⟨_, he, fun v q => nomatch q⟩
    · subst z; exact ⟨o, ho, fun v q => by rw [hd] at q; cases q⟩
  keep := fun i h h' st k => by
    obtain ⟨⟨old, he⟩, hi, hne⟩ := st
    exact ⟨⟨old, k e (by simp) _ he⟩, hi.at fun o q => k it (by simp) o q, hne⟩
  item := by
    intro X hP hw hK hc i pins s σ H E I hf st hg
    subst hP hw hK
    obtain ⟨⟨old, he⟩, hit, hne⟩ := st
    obtain ⟨xs, x, hq, hx⟩ := hg
    obtain ⟨its, rv, p, hz⟩ := I.tuple hq
    have isT : s.heap.IsTuple a its.toArray := p
    obtain ⟨u, hu, ru⟩ := rv.get hx
    have hu' : its.toArray[i]? = some u := by simpa using hu
    have hlt : i < its.toArray.size := by
      obtain ⟨q, _⟩ := Array.getElem?_eq_some_iff.mp hu'
      exact q
    have hai := apart hit isT
    have hae : a ≠ e := by
      intro z
      obtain ⟨o', e', c', _⟩ := isT
      have he' : s.heap.get? e = some _ := he
      rw [z, he'] at e'
      cases e'
      exact absurd (show Value.type "enumerate" = Value.type "tuple" from c') (by decide)
    have hel : e < s.heap.objs.size := Heap.lt_size he
    have hil : it < s.heap.objs.size := by obtain ⟨_, q, _⟩ := hit; exact Heap.lt_size q
    refine wpAny_pyNext_enum_itemD (Draws.tuple (prog := X.prog) (w := X.w) (A := X.A.in1) (I.ok.hd hc) it a hai its.toArray) he ⟨hit, isT⟩ hlt hne
      (by simp only [List.mem_cons, List.not_mem_nil, or_false, not_or]; exact ⟨hne, fun z => hae z.symm⟩) fun v h' tk hv ho st' hT hsz hk => ?_
    have ev : v = u := by
      have q : its.toArray[i]? = some v := hv
      rw [hu'] at q
      exact (Option.some.inj q).symm
    subst ev
    refine ⟨_, rfl, wpAny_letOwnedTupleGo_enum (s := { s with heap := h', toks := tk + 1 }) ho fun h'' he' sb => ?_⟩
    have hT2 : h''.get? s.heap.objs.size = some { cls := .type "tuple", data := .seq #[.int i tk, v] } := (sb.2 _ (Nat.ne_of_gt hel)).trans hT
    have new : ObjOk X.prog X.w (upd H s.heap.objs.size (.tup [.int (i : Nat), x])) h'' s.heap.objs.size (.tup [.int (i : Nat), x]) :=
      ⟨(by show 2 ≤ sizeLine; decide), [.int i tk, v], .cons ⟨_, rfl⟩ (.cons ru .nil), ⟨_, hT2, rfl, _, rfl⟩⟩
    have J : Inv X pins σ (upd H s.heap.objs.size (.tup [.int (i : Nat), x])) { s with heap := h'', toks := tk + 1 } :=
      I.turnedNew (ch := [e, it]) (fun b ob hb q => (sb.2 b (fun z => hb (by simp [z]))).trans (hk b ob (fun z => hb (by simp [z])) (fun z => hb (by simp [z])) q)) hf (Nat.le_refl _) new
    refine ⟨.ref s.heap.objs.size, _, J, rfl, ⟨_, x, rfl, I.hok.fresh (Nat.le_refl _), rfl, fun ys hy => by rw [I.tuple_inj hy hq]; exact hx⟩, ⟨⟨v, ?_⟩, st'.1.at fun o q => (sb.2 it (Ne.symm hne)).trans q, hne⟩, fun b hb => ?_⟩
    · have e1 : ((i + 1 : Nat) : Int) = (i : Int) + 1 := by omega
      rw [e1]
      exact he'
    · have hb' : b < s.heap.objs.size := by
        rcases (by simpa using hb : b = e ∨ b = it) with z | z
        · rw [z]; exact hel
        · rw [z]; exact hil
      rw [upd_ne (Nat.ne_of_lt hb')]
      exact (hf b hb).1
  done := by
    intro X hP hw hK hc i pins s σ H E I hf st hg
    subst hP hw hK
    obtain ⟨⟨old, he⟩, hit, hne⟩ := st
    obtain ⟨xs, hq, hx⟩ := hg
    obtain ⟨its, rv, p, hz⟩ := I.tuple hq
    have isT : s.heap.IsTuple a its.toArray := p
    obtain ⟨f0, f1, f2, f3, f4, f5⟩ := hf it (by simp)
    have hl := rv.length
    have hai := apart hit isT
    have hn : i = its.toArray.size := by simp; omega
    subst hn
    exact wpAny_pyNext_enum_endD (Draws.tuple (prog := X.prog) (w := X.w) (A := X.A.in1) (I.ok.hd hc) it a hai its.toArray) he ⟨hit, isT⟩ fun h' eb =>
      ⟨rfl, I.turned (t' := s.toks) (fun b o hb q => eb b o hb q) f0 f1 f3 f4 f5⟩
  self := fun A i s Q E st h => by
    obtain ⟨⟨_, he⟩, _⟩ := st
    exact wpAny_pyIter_enum he h
def iEnT (K : PySem.W.Frag) (ta : TA) : TI := fun σ H R => ta σ H fun vs H1 => ∃ a xs, vs = [.ref a] ∧ SqT K H1 a xs ∧ R (Ett K a) H1
theorem pi_enumT {X : Cx} {e : Expr} {ta : TA} {p pos tpos : Pos} {elts : List Expr} {kk : Nat} (hg : Gl X "enumerate") (hm : X.mg "enumerate" = none) (ha : PA X [e] ta)
    (hs : starEach [e] X.env = [(false, eval e X.env)] := by rfl) : PI X (.Tuple elts kk tpos) (.Call (.Name "enumerate" p) [e] [] pos) (iEnT X.K ta) := by
  refine ⟨fun pins s σ H R I h => ?_⟩
  refine Call_ (ld_blt I hg hm boot_enumerate (PyProof.Rows.callWith_type1 (thn (ha.run pos pins s σ H _ I h) fun us s1 z => ?_) hs rfl))
  obtain ⟨vs, H1, I1, r1, a, xs, ex, hq, q⟩ := z
  subst ex
  cases r1 with
  | cons r rr =>
    cases rr
    cases r
    obtain ⟨its, rv, p', hz⟩ := I1.tuple hq
    refine call_tup (show s1.heap.IsTuple a its.toArray from p') fun h' he hit hk => wpAny_pyIter_enum he ?_
    have J : Inv X pins σ H1 { s1 with heap := h' } := I1.kept (t' := s1.toks) hk
    refine ⟨s1.heap.objs.size + 1, [s1.heap.objs.size + 1, s1.heap.objs.size], _, _, H1, rfl, J, turn a (s1.heap.objs.size + 1) s1.heap.objs.size, ⟨⟨.none, he⟩, hit, Nat.succ_ne_self _⟩, fun b hb => ?_, q⟩
    have le : s1.heap.objs.size ≤ b := by
      rcases (by simpa using hb : b = s1.heap.objs.size + 1 ∨ b = s1.heap.objs.size) with z | z
      · rw [z]; exact Nat.le_succ _
      · rw [z]; exact Nat.le_refl _
    exact I1.fpOk le (I1.hok.fresh le)
/-- for i, x in enumerate(t): an invariant by the turn -/
theorem for_enT {K : PySem.W.Frag} {a : Addr} {xs : List V} {g : TG} {tb : TS} {D : Ends} {σ : L2.St} {H : Hp} (Pv : Nat → L2.St → Hp → Prop) (h0 : Pv 0 σ H) (hl : ∀ i σ H, i ≤ xs.length → Pv i σ H → SqT K H a xs)
    (hs : ∀ i x σ H T, xs[i]? = some x → Pv i σ H → H T = none → g (.ref T) σ (upd H T (.tup [.int (i : Nat), x])) fun σ2 H2 => tb { D with nx := Pv (i + 1), ct := Pv (i + 1), bk := D.nx } σ2 H2) (hd : ∀ σ H, Pv xs.length σ H → D.nx σ H) :
    ∃ W : Nat → Nat → L2.St → Hp → Prop, (∃ m, W 0 m σ H) ∧ ∀ i m σ H, W i m σ H →
      ((Ett K a).stop i H ∧ D.nx σ H) ∨ ((Ett K a).go i H ∧ ∃ N : L2.St → Hp → Prop, (∀ σ' H', N σ' H' → ∃ m', m' < m ∧ W (i + 1) m' σ' H') ∧ ∀ x H', (Ett K a).yld i H x H' → g x σ H' fun σ2 H2 => tb { D with nx := N, ct := N, bk := D.nx } σ2 H2) := by
  refine ⟨fun i m σ H => m = xs.length - i ∧ i ≤ xs.length ∧ Pv i σ H, ⟨xs.length, by simp, Nat.zero_le _, h0⟩, ?_⟩
  rintro i m σ H ⟨rfl, hi, p⟩
  have q := hl i σ H hi p
  by_cases hlt : i < xs.length
  · refine .inr ⟨⟨xs, xs[i], q, by simp [hlt]⟩, Pv (i + 1), fun σ' H' p' => ⟨xs.length - (i + 1), by omega, rfl, hlt, p'⟩, ?_⟩
    rintro v H' ⟨T, x, rfl, hT, rfl, hx⟩
    exact hs i x σ H T (hx xs q) p hT
  · have e : i = xs.length := by omega
    subst e
    exact .inl ⟨⟨xs, q, rfl⟩, hd σ H p⟩
end EnT

/-! what all my proofs use: frames, tuples of ints, the pot -/
namespace My
open PySem L2

theorem hu64 {k : Nat} {A : Around} (hr : Room k A) : A.units + 64 < cLine := by have := hr.un; omega

/-! ### frames -/
/-- an object that never changes in these programs -/
def Im : HO → Bool
  | .tup _ => true
  | .ins _ _ _ => true
  | .frz _ _ => true
  | _ => false
def Keep (H H' : Hp) : Prop := ∀ b o, Im o = true → H b = some o → H' b = some o
/-- all but these addresses is kept -/
def But (l : List Addr) (H H' : Hp) : Prop := ∀ b o, b ∉ l → H b = some o → H' b = some o
theorem Keep.refl (H : Hp) : Keep H H := fun _ _ _ h => h
theorem Keep.trans {H H1 H2 : Hp} (a : Keep H H1) (b : Keep H1 H2) : Keep H H2 := fun c o i h => b c o i (a c o i h)
theorem But.refl (l : List Addr) (H : Hp) : But l H H := fun _ _ _ h => h
theorem But.trans {l : List Addr} {H H1 H2 : Hp} (a : But l H H1) (b : But l H1 H2) : But l H H2 := fun c o i h => b c o i (a c o i h)
theorem But.of {l : List Addr} {H H' : Hp} (a : Same H H') : But l H H' := fun c o _ h => a c o h
theorem Keep.of {H H' : Hp} (a : Same H H') : Keep H H' := fun c o _ h => a c o h
theorem Same.new {H : Hp} {p : Addr} {o : HO} (h : H p = none) : Same H (upd H p o) := fun b u e => by
  rw [upd_ne (ne_of_none e h)]
  exact e
/-- a list may change -/
theorem Keep.lst {H : Hp} {p : Addr} {xs : List V} {o : HO} (h : H p = some (.lst xs)) : Keep H (upd H p o) := fun b u i e => by
  have n : b ≠ p := fun z => by
    rw [z, h] at e
    cases e
    cases i
  rw [upd_ne n]
  exact e
theorem Keep.new {H : Hp} {p : Addr} {o : HO} (h : H p = none) : Keep H (upd H p o) := Keep.of (Same.new h)
theorem But.at {l : List Addr} {H : Hp} {p : Addr} {o : HO} (h : p ∈ l) : But l H (upd H p o) := fun b u i e => by
  rw [upd_ne (fun z => i (by rw [z]; exact h))]
  exact e
theorem But.new {l : List Addr} {H : Hp} {p : Addr} {o : HO} (h : H p = none) : But l H (upd H p o) := But.of (Same.new h)

theorem But.chg {l : List Addr} {H H' : Hp} {p : Addr} {o : HO} (e : But l H H') (h : H p = none) : But l H (upd H' p o) := fun b u i z => by
  rw [upd_ne (ne_of_none z h)]
  exact e b u i z
theorem Same.chg {H H' : Hp} {p : Addr} {o : HO} (e : Same H H') (h : H p = none) : Same H (upd H' p o) := fun b u z => by
  rw [upd_ne (ne_of_none z h)]
  exact e b u z

variable {K : PySem.W.Frag}
theorem SqT.keep {H H' : Hp} {a : Addr} {xs : List V} (e : Keep H H') (h : SqT K H a xs) : SqT K H' a xs := by
  rcases h with (h | ⟨o, h⟩) | h
  · exact .inl (.inl (e _ _ rfl h))
  · exact .inl (.inr ⟨o, e _ _ rfl h⟩)
  · exact .inr h
theorem SqT.lt {H : Hp} {a : Addr} {xs : List V} (h : H a = some (.tup xs)) : SqT K H a xs := .inl (.inl h)
theorem SqL.lt {H : Hp} {a : Addr} {xs : List V} (h : H a = some (.lst xs)) : SqL K H a xs := .inl (.inl h)

/-! ### two lists place by place -/
inductive All2 {α β : Type} (R : α → β → Prop) : List α → List β → Prop
  | nil : All2 R [] []
  | cons {a b as bs} : R a b → All2 R as bs → All2 R (a :: as) (b :: bs)
theorem All2.len {α β : Type} {R : α → β → Prop} {as : List α} {bs : List β} (h : All2 R as bs) : as.length = bs.length := by
  induction h with
  | nil => rfl
  | cons _ _ ih => simp [ih]
theorem All2.get {α β : Type} {R : α → β → Prop} {as : List α} {bs : List β} (h : All2 R as bs) : ∀ {i : Nat} {b : β}, bs[i]? = some b → ∃ a, as[i]? = some a ∧ R a b := by
  induction h with
  | nil => intro i b e; simp at e
  | @cons a b as bs r t ih =>
    intro i y e
    cases i with
    | zero =>
      have e' : b = y := by simpa using e
      subst e'
      exact ⟨a, by simp, r⟩
    | succ i =>
      obtain ⟨x, h1, h2⟩ := ih (i := i) (b := y) (by simpa using e)
      exact ⟨x, by simpa using h1, h2⟩
theorem All2.getL {α β : Type} {R : α → β → Prop} {as : List α} {bs : List β} (h : All2 R as bs) : ∀ {i : Nat} {a : α}, as[i]? = some a → ∃ b, bs[i]? = some b ∧ R a b := by
  induction h with
  | nil => intro i b e; simp at e
  | @cons a b as bs r t ih =>
    intro i y e
    cases i with
    | zero =>
      have e' : a = y := by simpa using e
      subst e'
      exact ⟨b, by simp, r⟩
    | succ i =>
      obtain ⟨x, h1, h2⟩ := ih (i := i) (a := y) (by simpa using e)
      exact ⟨x, by simpa using h1, h2⟩
theorem All2.imp {α β : Type} {R S : α → β → Prop} {as : List α} {bs : List β} (h : All2 R as bs) (f : ∀ a b, R a b → S a b) : All2 S as bs := by
  induction h with
  | nil => exact .nil
  | cons r _ ih => exact .cons (f _ _ r) ih
theorem All2.app {α β : Type} {R : α → β → Prop} {as cs : List α} {bs ds : List β} (h : All2 R as bs) (g : All2 R cs ds) : All2 R (as ++ cs) (bs ++ ds) := by
  induction h with
  | nil => exact g
  | cons r _ ih => exact .cons r ih
theorem All2.snoc {α β : Type} {R : α → β → Prop} {as : List α} {bs : List β} {a : α} {b : β} (h : All2 R as bs) (r : R a b) : All2 R (as ++ [a]) (bs ++ [b]) := h.app (.cons r .nil)
theorem All2.take {α β : Type} {R : α → β → Prop} {as : List α} {bs : List β} (h : All2 R as bs) : ∀ n : Nat, All2 R (as.take n) (bs.take n) := by
  induction h with
  | nil => intro n; simp; exact .nil
  | cons r _ ih =>
    intro n
    cases n with
    | zero => simp; exact .nil
    | succ n => simpa using .cons r (ih n)
theorem All2.map {α β γ : Type} {R : α → β → Prop} (f : γ → α) (g : γ → β) : ∀ (l : List γ), (∀ x ∈ l, R (f x) (g x)) → All2 R (l.map f) (l.map g)
  | [], _ => .nil
  | x :: l, h => .cons (h x (by simp)) (All2.map f g l fun y hy => h y (by simp [hy]))
theorem take_succ {α : Type} {l : List α} {i : Nat} {x : α} (h : l[i]? = some x) : l.take (i + 1) = l.take i ++ [x] := by
  rw [List.take_add_one, h]
  rfl

/-! ### tuples of ints, tuples of such -/
def IT (K : PySem.W.Frag) (H : Hp) (v : V) (ns : List Int) : Prop := ∃ q, v = .ref q ∧ SqT K H q (ns.map V.int)
theorem IT.keep {H H' : Hp} {v : V} {ns : List Int} (e : Keep H H') (h : IT K H v ns) : IT K H' v ns := by
  obtain ⟨q, h1, h2⟩ := h
  exact ⟨q, h1, SqT.keep e h2⟩
theorem IT.new {H : Hp} {p : Addr} {ns : List Int} {xs : List V} (e : xs = ns.map V.int) : IT K (upd H p (.tup xs)) (.ref p) ns := ⟨p, rfl, by
  rw [← e]
  exact SqT.lt upd_same⟩
def ITs (K : PySem.W.Frag) (H : Hp) (v : V) (nss : List (List Int)) : Prop := ∃ q xs, v = .ref q ∧ SqT K H q xs ∧ All2 (IT K H) xs nss
theorem ITs.keep {H H' : Hp} {v : V} {ns : List (List Int)} (e : Keep H H') (h : ITs K H v ns) : ITs K H' v ns := by
  obtain ⟨q, xs, h1, h2, h3⟩ := h
  exact ⟨q, xs, h1, SqT.keep e h2, h3.imp fun _ _ z => z.keep e⟩

/-! ### readings of an item -/
theorem at_ge {α : Type} {xs : List α} {i : Int} {v : α} (h0 : 0 ≤ i) (h : xs[i.toNat]? = some v) : atI xs i = some v := by
  have e := atI_nat h
  rw [Int.toNat_of_nonneg h0] at e
  exact e
/-- an int of a tuple of ints -/
theorem ixI {H : Hp} {x : V} {ns : List Int} {i n : Int} {Q : V → Prop} (h : IT K H x ns) (h0 : 0 ≤ i) (hn : ns[i.toNat]? = some n) (q : Q (.int n)) :
    ∃ p xs j v, x = .ref p ∧ (V.int i) = .int j ∧ SqT K H p xs ∧ atI xs j = some v ∧ Q v := by
  obtain ⟨a, e, s⟩ := h
  exact ⟨a, _, i, .int n, e, rfl, s, at_ge h0 (by rw [List.getElem?_map, hn]; rfl), q⟩
/-- a tuple of a tuple of such -/
theorem ixT {H : Hp} {x : V} {nss : List (List Int)} {i : Int} {ns : List Int} {Q : V → Prop} (h : ITs K H x nss) (h0 : 0 ≤ i) (hn : nss[i.toNat]? = some ns) (q : ∀ v, IT K H v ns → Q v) :
    ∃ p xs j v, x = .ref p ∧ (V.int i) = .int j ∧ SqT K H p xs ∧ atI xs j = some v ∧ Q v := by
  obtain ⟨a, xs, e, s, al⟩ := h
  obtain ⟨v, hv, r⟩ := al.get hn
  exact ⟨a, _, i, v, e, rfl, s, at_ge h0 hv, q v r⟩
/-- len -/
theorem lenT {H : Hp} {x : V} {nss : List (List Int)} {Q : List V → Prop} (h : ITs K H x nss) (q : ∀ ys : List V, ys.length = nss.length → Q ys) : ∃ p ys, [x] = [V.ref p] ∧ (SqL K H p ys ∨ SqT K H p ys) ∧ Q ys := by
  obtain ⟨a, xs, e, s, al⟩ := h
  exact ⟨a, xs, by rw [e], .inr s, q _ al.len⟩
theorem lenI {H : Hp} {x : V} {ns : List Int} {Q : List V → Prop} (h : IT K H x ns) (q : ∀ ys : List V, ys.length = ns.length → Q ys) : ∃ p ys, [x] = [V.ref p] ∧ (SqL K H p ys ∨ SqT K H p ys) ∧ Q ys := by
  obtain ⟨a, e, s⟩ := h
  exact ⟨a, _, by rw [e], .inr s, q _ (List.length_map _)⟩

/-! ### the pot -/
structure Pt where
  a : Addr
  g : Addr
  s : Addr
def Pt.At (p : Pt) (H : Hp) : Prop := p.g ≠ p.s ∧ ∃ (gs ss : List Int) (t n : Int), H p.a = some (.lst [.ref p.g, .ref p.s, .int t, .int n]) ∧ H p.g = some (.lst (gs.map V.int)) ∧ H p.s = some (.lst (ss.map V.int)) ∧ ss ≠ []
def Pt.l (p : Pt) : List Addr := [p.a, p.g]
theorem Pt.At.same {p : Pt} {H H' : Hp} (h : p.At H) (e : Same H H') : p.At H' := by
  obtain ⟨h1, gs, ss, t, n, h2, h3, h4, h5⟩ := h
  exact ⟨h1, gs, ss, t, n, e _ _ h2, e _ _ h3, e _ _ h4, h5⟩
/-- what the pot isn't may change too -/
theorem Pt.At.but {p : Pt} {H H' : Hp} {l : List Addr} (h : p.At H) (e : But l H H') (ha : p.a ∉ l) (hg : p.g ∉ l) (hs : p.s ∉ l) : p.At H' := by
  obtain ⟨h1, gs, ss, t, n, h2, h3, h4, h5⟩ := h
  exact ⟨h1, gs, ss, t, n, e _ _ ha h2, e _ _ hg h3, e _ _ hs h4, h5⟩
theorem Pt.At.keep {p : Pt} {H H' : Hp} (h : p.At H) (e : But p.l H H') : Keep H H' := fun b o i hb => by
  obtain ⟨h1, gs, ss, t, n, h2, h3, h4, h5⟩ := h
  refine e b o (fun z => ?_) hb
  have z' : b = p.a ∨ b = p.g := by simpa [Pt.l] using z
  rcases z' with z | z
  · rw [z, h2] at hb
    cases hb
    cases i
  · rw [z, h3] at hb
    cases hb
    cases i
/-- a new object isn't of the pot -/
theorem Pt.At.fresh {p : Pt} {H : Hp} (h : p.At H) {D : Addr} (n : H D = none) : D ≠ p.a ∧ D ≠ p.g ∧ D ≠ p.s := by
  obtain ⟨h1, gs, ss, t, n', h2, h3, h4, h5⟩ := h
  refine ⟨fun z => ?_, fun z => ?_, fun z => ?_⟩
  · rw [z, h2] at n; cases n
  · rw [z, h3] at n; cases n
  · rw [z, h4] at n; cases n
theorem Pt.out {p : Pt} {D : Addr} (h : D ≠ p.a ∧ D ≠ p.g ∧ D ≠ p.s) : D ∉ p.l := by
  simp [Pt.l]
  exact ⟨h.1, h.2.1⟩
def small (n : Int) : Prop := n.natAbs < 2 ^ 200
/-- a draw: some number below many, whatever the script -/
def spDraw : Sp := fun vs H Q _ => ∃ (p : Pt) (many : Int), vs = [.ref p.a, .int many] ∧ p.At H ∧ 0 < many ∧ small many ∧
  ∀ (r : Int) (H' : Hp), 0 ≤ r → r < many → p.At H' → But p.l H H' → Q (.int r) H'
/-- the pot of a script -/
def spPot (K : PySem.W.Frag) : Sp := fun vs H Q _ => ∃ (a : Addr) (ns : List Int), vs = [.ref a] ∧ SqL K H a (ns.map V.int) ∧ ns.length ≤ 63 ∧
  ∀ (p : Pt) (H' : Hp), p.At H' → Same H H' → H p.a = none → Q (.ref p.a) H'
/-! ### comprehensions from ints to ints -/
theorem lcI {K : PySem.W.Frag} {a D : Addr} {ns : List Int} {g : TG} {tt : L2.TT} {te : TE} {vs : List Nat} {σ : L2.St} {H1 : Hp} {Qd : Hp → Prop} (f : Int → Bool) (e : Int → Int)
    (hS : SqL K H1 a (ns.map V.int)) (hD : H1 D = none) (hl : ns.length < sizeLine)
    (hs : ∀ (n : Int) (H : Hp) (Q1 : Hp → Prop) (Q2 : V → Hp → Prop), n ∈ ns → (f n = true → Q2 (.int (e n)) H) → (f n = false → Q1 H) → g (.int n) (wipe σ vs) H fun σ2 H2 => wipe σ2 vs = wipe σ vs ∧ tt σ2 H2 fun b H3 => if b = true then te σ2 H3 Q2 else Q1 H3)
    (hd : Qd (upd H1 D (.lst (((ns.filter f).map e).map V.int)))) :
    ∃ W : Nat → Nat → Hp → Prop, (∃ m, W 0 m (upd H1 D (.lst []))) ∧ ∀ i m H, W i m H →
      ((Itl K a).stop i H ∧ Qd H) ∨ ((Itl K a).go i H ∧ ∃ Nx : Hp → Prop, (∀ H', Nx H' → ∃ m', m' < m ∧ W (i + 1) m' H') ∧ ∀ x H', (Itl K a).yld i H x H' → g x (wipe σ vs) H' fun σ2 H2 => wipe σ2 vs = wipe σ vs ∧ tt σ2 H2 fun b H3 =>
        if b = true then te σ2 H3 fun y H4 => ∃ acc, H4 D = some (.lst acc) ∧ acc.length < sizeLine ∧ Nx (upd H4 D (.lst (acc ++ [y]))) else Nx H3) := by
  have sub : ∀ (H : Hp) (l : List V), H = upd H1 D (.lst l) → SqL K H a (ns.map V.int) := fun H l q => by
    rw [q]
    exact Same.seq (Same.new hD) hS
  refine lc_list (K := K) (a := a) (xs := ns.map V.int) (fun i H => H = upd H1 D (.lst ((((ns.take i).filter f).map e).map V.int))) rfl (fun i H _ q => sub H _ q) ?_ (fun H q => ?_)
  · intro i x H hi q
    obtain ⟨n, hn, rfl⟩ : ∃ n, ns[i]? = some n ∧ x = V.int n := by
      rw [List.getElem?_map] at hi
      cases z : ns[i]? with
      | none => rw [z] at hi; cases hi
      | some n => rw [z] at hi; exact ⟨n, rfl, (Option.some.inj hi).symm⟩
    have tk := take_succ hn
    have len : (((ns.take i).filter f).map e).length < sizeLine := by
      rw [List.length_map]
      have q1 := List.length_filter_le f (ns.take i)
      have q2 := List.length_take_le i ns
      rw [List.length_take] at q1
      omega
    refine hs n H _ _ (List.mem_of_getElem? hn) (fun c => ⟨_, by rw [q]; exact upd_same, by rw [List.length_map]; exact len, ?_⟩) (fun c => ?_)
    · show upd H D _ = _
      rw [tk, q, upd_upd, List.filter_append, List.map_append, List.map_append]
      simp [c]
    · show H = _
      rw [tk, q, List.filter_append]
      simp [c]
  · rw [List.length_map, List.take_length] at q
    rw [q]
    exact hd
/-! ### events, machines, runs -/
def Four (e : List Int) : Prop := ∃ b a t p, e = [b, a, t, p]
def okEv (n : Int) (e : List Int) : Prop := ∃ b a t p, e = [b, a, t, p] ∧ 0 ≤ b ∧ b < n ∧ 0 ≤ a ∧ a < n ∧ 1 ≤ t ∧ t ≤ 40 ∧ -400 ≤ p ∧ p ≤ 400
theorem okEv.four {n : Int} {e : List Int} (h : okEv n e) : Four e := by
  obtain ⟨b, a, t, p, h, _⟩ := h
  exact ⟨b, a, t, p, h⟩
def evB (e : List Int) : Int := e.getD 0 0
def evA (e : List Int) : Int := e.getD 1 0
def evT (e : List Int) : Int := e.getD 2 0
def evP (e : List Int) : Int := e.getD 3 0
def mf (n : Int) (w : V) : List (Str × V) := putF "events" w (putF "standings" (.int n) [])
theorem es_ : ¬ (("events" : Str) = "standings") := by decide +kernel
theorem se_ : ¬ (("standings" : Str) = "events") := by decide +kernel
theorem mf_st (n : Int) (w : V) : (mf n w).lookup ("standings" : Str) = some (.int n) := by
  unfold mf
  rw [lookup_putF, if_neg se_, lookup_putF, if_pos rfl]
theorem mf_ev (n : Int) (w : V) : (mf n w).lookup ("events" : Str) = some w := by
  unfold mf
  rw [lookup_putF, if_pos rfl]
def MachAt (K : PySem.W.Frag) (C : Addr) (H : Hp) (v : V) (n : Int) (evs : List (List Int)) : Prop :=
  ∃ m dx w, v = .ref m ∧ H m = some (.ins C dx (mf n w)) ∧ ITs K H w evs
theorem MachAt.keep {C : Addr} {H H' : Hp} {v : V} {n : Int} {evs : List (List Int)} (e : Keep H H') (h : MachAt K C H v n evs) : MachAt K C H' v n evs := by
  obtain ⟨m, dx, w, h1, h2, h3⟩ := h
  exact ⟨m, dx, w, h1, e _ _ rfl h2, h3.keep e⟩
/-- machine.events, machine.standings -/
theorem fldE {C : Addr} {H : Hp} {x : V} {n : Int} {evs : List (List Int)} {Q : V → Prop} (h : MachAt K C H x n evs) (c : Cls K C) (na : NoAttr K C "events") (q : ∀ w, ITs K H w evs → Q w) :
    ∃ a C' dx fs v, x = .ref a ∧ H a = some (.ins C' dx fs) ∧ Cls K C' ∧ NoAttr K C' "events" ∧ fs.lookup ("events" : Str) = some v ∧ Q v := by
  obtain ⟨m, dx, w, h1, h2, h3⟩ := h
  exact ⟨m, C, dx, _, w, h1, h2, c, na, mf_ev n w, q w h3⟩
theorem fldS {C : Addr} {H : Hp} {x : V} {n : Int} {evs : List (List Int)} {Q : V → Prop} (h : MachAt K C H x n evs) (c : Cls K C) (na : NoAttr K C "standings") (q : Q (.int n)) :
    ∃ a C' dx fs v, x = .ref a ∧ H a = some (.ins C' dx fs) ∧ Cls K C' ∧ NoAttr K C' "standings" ∧ fs.lookup ("standings" : Str) = some v ∧ Q v := by
  obtain ⟨m, dx, w, h1, h2, h3⟩ := h
  exact ⟨m, C, dx, _, _, h1, h2, c, na, mf_st n w, q⟩
/-- where a row of events leads from a standing, if it is one -/
def walkTo (evs : List (List Int)) : Int → List Int → Option Int
  | s, [] => some s
  | s, k :: r => if 0 ≤ k ∧ k < (evs.length : Int) ∧ evB (evs.getD k.toNat []) = s then walkTo evs (evA (evs.getD k.toNat [])) r else none
theorem walkTo_app (evs : List (List Int)) : ∀ (r q : List Int) (s : Int), walkTo evs s (r ++ q) = (walkTo evs s r).bind fun t => walkTo evs t q
  | [], q, s => rfl
  | k :: r, q, s => by
    show (if _ then walkTo evs _ (r ++ q) else none) = (if _ then walkTo evs _ r else none).bind _
    split
    · exact walkTo_app evs r q _
    · rfl
/-! ### types -/
theorem tyT {H : Hp} {a : Addr} {xs : List V} (h : SqT K H a xs) : TyX K H (.ref a) (.type "tuple") := by
  rcases h with (h | ⟨o, h⟩) | ⟨o, its, n, h, c, _⟩
  · exact .base (.tup h)
  · exact .fTuple h
  · exact .kTuple h c
theorem isT {H : Hp} {x : V} {a : Addr} {xs : List V} {Q : Bool → Prop} (e : x = .ref a) (h : SqT K H a xs) (q : Q true) :
    ∃ (y c : V) (s u : Value) (b : Bool), [x, V.ty "tuple"] = [y, c] ∧ ClsV c u ∧ TyX K H y s ∧ PySem.W.kitOne K s u = some b ∧ Q b := ⟨x, .ty "tuple", .type "tuple", .type "tuple", true, rfl, .ty _, (by rw [e]; exact tyT h), kit_ty (by decide +kernel), q⟩
theorem isI {H : Hp} {n : Int} {Q : Bool → Prop} (q : Q true) : ∃ (y c : V) (s u : Value) (b : Bool), [V.int n, V.ty "int"] = [y, c] ∧ ClsV c u ∧ TyX K H y s ∧ PySem.W.kitOne K s u = some b ∧ Q b := ⟨_, _, _, _, true, rfl, .ty _, .base (.int _), kit_ty (by decide +kernel), q⟩
theorem niB {H : Hp} {n : Int} {Q : Bool → Prop} (q : Q false) : ∃ (y c : V) (s u : Value) (b : Bool), [V.int n, V.ty "bool"] = [y, c] ∧ ClsV c u ∧ TyX K H y s ∧ PySem.W.kitOne K s u = some b ∧ Q b := ⟨_, _, _, _, false, rfl, .ty _, .base (.int _), kit_ty (by decide +kernel), q⟩
theorem isLs {H : Hp} {x : V} {a : Addr} {xs : List V} {Q : Bool → Prop} (e : x = .ref a) (h : H a = some (.lst xs)) (q : Q true) :
    ∃ (y c : V) (s u : Value) (b : Bool), [x, V.ty "list"] = [y, c] ∧ ClsV c u ∧ TyX K H y s ∧ PySem.W.kitOne K s u = some b ∧ Q b := ⟨x, .ty "list", .type "list", .type "list", true, rfl, .ty _, (by rw [e]; exact .base (.lst h)), kit_ty (by decide +kernel), q⟩
/-- a comprehension over a tuple, without a test, each item's value told by a list -/
theorem lcGT {β : Type} {K : PySem.W.Frag} {a D : Addr} {xs : List V} {bs : List β} {R : Hp → V → β → Prop} {g : TG} {tt : L2.TT} {te : TE} {vs : List Nat} {σ : L2.St} {H1 : Hp} {Qd : Hp → Prop}
    (hS : SqT K H1 a xs) (hD : H1 D = none) (hl : bs.length < sizeLine) (el : xs.length = bs.length) (mono : ∀ H H' v b, Keep H H' → R H v b → R H' v b)
    (hs : ∀ (i : Nat) (x : V) (b : β) (H : Hp) (Q1 : Hp → Prop) (Q2 : V → Hp → Prop), xs[i]? = some x → bs[i]? = some b → Same H1 H → (∀ y H', Same H H' → R H' y b → Q2 y H') →
      g x (wipe σ vs) H fun σ2 H2 => wipe σ2 vs = wipe σ vs ∧ tt σ2 H2 fun b H3 => if b = true then te σ2 H3 Q2 else Q1 H3)
    (hd : ∀ H acc, Same H1 H → H D = some (.lst acc) → All2 (R H) acc bs → Qd H) :
    ∃ W : Nat → Nat → Hp → Prop, (∃ m, W 0 m (upd H1 D (.lst []))) ∧ ∀ i m H, W i m H →
      ((Itt K a).stop i H ∧ Qd H) ∨ ((Itt K a).go i H ∧ ∃ Nx : Hp → Prop, (∀ H', Nx H' → ∃ m', m' < m ∧ W (i + 1) m' H') ∧ ∀ x H', (Itt K a).yld i H x H' → g x (wipe σ vs) H' fun σ2 H2 => wipe σ2 vs = wipe σ vs ∧ tt σ2 H2 fun b H3 =>
        if b = true then te σ2 H3 fun y H4 => ∃ acc, H4 D = some (.lst acc) ∧ acc.length < sizeLine ∧ Nx (upd H4 D (.lst (acc ++ [y]))) else Nx H3) := by
  have chg : ∀ {H : Hp} {o : HO}, Same H1 H → Same H1 (upd H D o) := fun {H o} s b u e => by
    rw [upd_ne (ne_of_none e hD)]
    exact s _ _ e
  refine lc_tup (K := K) (a := a) (xs := xs) (fun i H => Same H1 H ∧ ∃ acc, H D = some (.lst acc) ∧ All2 (R H) acc (bs.take i)) ⟨chg (Same.refl _), [], upd_same, .nil⟩ (fun i H _ q => SqT.keep (Keep.of q.1) hS) ?_ (fun H q => ?_)
  · rintro i x H hi ⟨s1, acc, hA, al⟩
    have hb : i < bs.length := by rw [← el]; exact (List.getElem?_eq_some_iff.mp hi).1
    have tk := take_succ (List.getElem?_eq_getElem hb)
    have la := al.len
    rw [List.length_take] at la
    refine hs i x (bs[i]) H _ _ hi (List.getElem?_eq_getElem hb) s1 fun y H' s2 r => ⟨acc, s2 _ _ hA, by omega, chg (s1.trans s2), acc ++ [y], upd_same, ?_⟩
    rw [tk]
    have kp : Keep H' (upd H' D (.lst (acc ++ [y]))) := Keep.lst (s2 _ _ hA)
    exact (al.imp fun v b z => mono _ _ _ _ kp (mono _ _ _ _ (Keep.of s2) z)).snoc (mono _ _ _ _ kp r)
  · obtain ⟨s1, acc, hA, al⟩ := q
    rw [el, List.take_length] at al
    exact hd H acc s1 hA al
/-- a comprehension over a list, without a test, each item's value told by a list -/
theorem lcGL {β : Type} {K : PySem.W.Frag} {a D : Addr} {xs : List V} {bs : List β} {R : Hp → V → β → Prop} {g : TG} {tt : L2.TT} {te : TE} {vs : List Nat} {σ : L2.St} {H1 : Hp} {Qd : Hp → Prop}
    (hS : SqL K H1 a xs) (hD : H1 D = none) (hl : bs.length < sizeLine) (el : xs.length = bs.length) (mono : ∀ H H' v b, Keep H H' → R H v b → R H' v b)
    (hs : ∀ (i : Nat) (x : V) (b : β) (H : Hp) (Q1 : Hp → Prop) (Q2 : V → Hp → Prop), xs[i]? = some x → bs[i]? = some b → Same H1 H → (∀ y H', Same H H' → R H' y b → Q2 y H') →
      g x (wipe σ vs) H fun σ2 H2 => wipe σ2 vs = wipe σ vs ∧ tt σ2 H2 fun b H3 => if b = true then te σ2 H3 Q2 else Q1 H3)
    (hd : ∀ H acc, Same H1 H → H D = some (.lst acc) → All2 (R H) acc bs → Qd H) :
    ∃ W : Nat → Nat → Hp → Prop, (∃ m, W 0 m (upd H1 D (.lst []))) ∧ ∀ i m H, W i m H →
      ((Itl K a).stop i H ∧ Qd H) ∨ ((Itl K a).go i H ∧ ∃ Nx : Hp → Prop, (∀ H', Nx H' → ∃ m', m' < m ∧ W (i + 1) m' H') ∧ ∀ x H', (Itl K a).yld i H x H' → g x (wipe σ vs) H' fun σ2 H2 => wipe σ2 vs = wipe σ vs ∧ tt σ2 H2 fun b H3 =>
        if b = true then te σ2 H3 fun y H4 => ∃ acc, H4 D = some (.lst acc) ∧ acc.length < sizeLine ∧ Nx (upd H4 D (.lst (acc ++ [y]))) else Nx H3) := by
  have chg : ∀ {H : Hp} {o : HO}, Same H1 H → Same H1 (upd H D o) := fun {H o} s b u e => by
    rw [upd_ne (ne_of_none e hD)]
    exact s _ _ e
  refine lc_list (K := K) (a := a) (xs := xs) (fun i H => Same H1 H ∧ ∃ acc, H D = some (.lst acc) ∧ All2 (R H) acc (bs.take i)) ⟨chg (Same.refl _), [], upd_same, .nil⟩ (fun i H _ q => Same.seq q.1 hS) ?_ (fun H q => ?_)
  · rintro i x H hi ⟨s1, acc, hA, al⟩
    have hb : i < bs.length := by rw [← el]; exact (List.getElem?_eq_some_iff.mp hi).1
    have tk := take_succ (List.getElem?_eq_getElem hb)
    have la := al.len
    rw [List.length_take] at la
    refine hs i x (bs[i]) H _ _ hi (List.getElem?_eq_getElem hb) s1 fun y H' s2 r => ⟨acc, s2 _ _ hA, by omega, chg (s1.trans s2), acc ++ [y], upd_same, ?_⟩
    rw [tk]
    have kp : Keep H' (upd H' D (.lst (acc ++ [y]))) := Keep.lst (s2 _ _ hA)
    exact (al.imp fun v b z => mono _ _ _ _ kp (mono _ _ _ _ (Keep.of s2) z)).snoc (mono _ _ _ _ kp r)
  · obtain ⟨s1, acc, hA, al⟩ := q
    rw [el, List.take_length] at al
    exact hd H acc s1 hA al
/-- a comprehension over a range, without a test, each item's value told by a list -/
theorem lcGR {β : Type} {K : PySem.W.Frag} {D : Addr} {lo : Int} {bs : List β} {R : Hp → V → β → Prop} {g : TG} {tt : L2.TT} {te : TE} {vs : List Nat} {σ : L2.St} {H1 : Hp} {Qd : Hp → Prop}
    (hD : H1 D = none) (hl : bs.length < sizeLine) (mono : ∀ H H' v b, Keep H H' → R H v b → R H' v b)
    (hs : ∀ (i : Nat)  (b : β) (H : Hp) (Q1 : Hp → Prop) (Q2 : V → Hp → Prop), bs[i]? = some b → Same H1 H → (∀ y H', Same H H' → R H' y b → Q2 y H') →
      g (.int (lo + i)) (wipe σ vs) H fun σ2 H2 => wipe σ2 vs = wipe σ vs ∧ tt σ2 H2 fun b H3 => if b = true then te σ2 H3 Q2 else Q1 H3)
    (hd : ∀ H acc, Same H1 H → H D = some (.lst acc) → All2 (R H) acc bs → Qd H) :
    ∃ W : Nat → Nat → Hp → Prop, (∃ m, W 0 m (upd H1 D (.lst []))) ∧ ∀ i m H, W i m H →
      ((Itr lo bs.length).stop i H ∧ Qd H) ∨ ((Itr lo bs.length).go i H ∧ ∃ Nx : Hp → Prop, (∀ H', Nx H' → ∃ m', m' < m ∧ W (i + 1) m' H') ∧ ∀ x H', (Itr lo bs.length).yld i H x H' → g x (wipe σ vs) H' fun σ2 H2 => wipe σ2 vs = wipe σ vs ∧ tt σ2 H2 fun b H3 =>
        if b = true then te σ2 H3 fun y H4 => ∃ acc, H4 D = some (.lst acc) ∧ acc.length < sizeLine ∧ Nx (upd H4 D (.lst (acc ++ [y]))) else Nx H3) := by
  have chg : ∀ {H : Hp} {o : HO}, Same H1 H → Same H1 (upd H D o) := fun {H o} s b u e => by
    rw [upd_ne (ne_of_none e hD)]
    exact s _ _ e
  refine lc_range (fun i H => Same H1 H ∧ ∃ acc, H D = some (.lst acc) ∧ All2 (R H) acc (bs.take i)) ⟨chg (Same.refl _), [], upd_same, .nil⟩ ?_ (fun H q => ?_)
  · rintro i H hi ⟨s1, acc, hA, al⟩
    have hb : i < bs.length := by exact hi
    have tk := take_succ (List.getElem?_eq_getElem hb)
    have la := al.len
    rw [List.length_take] at la
    refine hs i  (bs[i]) H _ _ (List.getElem?_eq_getElem hb) s1 fun y H' s2 r => ⟨acc, s2 _ _ hA, by omega, chg (s1.trans s2), acc ++ [y], upd_same, ?_⟩
    rw [tk]
    have kp : Keep H' (upd H' D (.lst (acc ++ [y]))) := Keep.lst (s2 _ _ hA)
    exact (al.imp fun v b z => mono _ _ _ _ kp (mono _ _ _ _ (Keep.of s2) z)).snoc (mono _ _ _ _ kp r)
  · obtain ⟨s1, acc, hA, al⟩ := q
    rw [List.take_length] at al
    exact hd H acc s1 hA al
theorem all2_int {as : List V} {ns : List Int} (h : All2 (fun v n => v = .int n) as ns) : as = ns.map V.int := by
  induction h with
  | nil => rfl
  | cons e _ ih => rw [e, ih]; rfl
/-- a comprehension over a range, from places to ints, with a test -/
theorem lcFR {D : Addr} {lo : Int} {n : Nat} {g : TG} {tt : L2.TT} {te : TE} {vs : List Nat} {σ : L2.St} {H1 : Hp} {Qd : Hp → Prop} (f : Nat → Bool) (e : Nat → Int) (hD : H1 D = none) (hl : n < sizeLine)
    (hs : ∀ (i : Nat) (H : Hp) (Q1 : Hp → Prop) (Q2 : V → Hp → Prop), i < n → Same H1 H → (f i = true → Q2 (.int (e i)) H) → (f i = false → Q1 H) →
      g (.int (lo + i)) (wipe σ vs) H fun σ2 H2 => wipe σ2 vs = wipe σ vs ∧ tt σ2 H2 fun b H3 => if b = true then te σ2 H3 Q2 else Q1 H3)
    (hd : Qd (upd H1 D (.lst ((((List.range n).filter f).map e).map V.int)))) :
    ∃ W : Nat → Nat → Hp → Prop, (∃ m, W 0 m (upd H1 D (.lst []))) ∧ ∀ i m H, W i m H →
      ((Itr lo n).stop i H ∧ Qd H) ∨ ((Itr lo n).go i H ∧ ∃ Nx : Hp → Prop, (∀ H', Nx H' → ∃ m', m' < m ∧ W (i + 1) m' H') ∧ ∀ x H', (Itr lo n).yld i H x H' → g x (wipe σ vs) H' fun σ2 H2 => wipe σ2 vs = wipe σ vs ∧ tt σ2 H2 fun b H3 =>
        if b = true then te σ2 H3 fun y H4 => ∃ acc, H4 D = some (.lst acc) ∧ acc.length < sizeLine ∧ Nx (upd H4 D (.lst (acc ++ [y]))) else Nx H3) := by
  refine lc_range (fun i H => H = upd H1 D (.lst ((((List.range i).filter f).map e).map V.int))) rfl ?_ (fun H q => by rw [q]; exact hd)
  intro i H hi q
  have len : (((List.range i).filter f).map e).length < sizeLine := by
    rw [List.length_map]
    have q1 := List.length_filter_le f (List.range i)
    rw [List.length_range] at q1
    omega
  refine hs i H _ _ hi (by rw [q]; exact Same.new hD) (fun c => ⟨_, by rw [q]; exact upd_same, by rw [List.length_map]; exact len, ?_⟩) (fun c => ?_)
  · show upd H D _ = _
    rw [List.range_succ, q, upd_upd, List.filter_append, List.map_append, List.map_append]
    simp [c]
  · show H = _
    rw [List.range_succ, q, List.filter_append]
    simp [c]
/-! ### rules whose readings name K itself (in a comprehension X is the block's) -/
section
variable {X : Cx} (K' : PySem.W.Frag) (hK : X.K = K')
include hK
theorem ix_tupK : IxR X (rIxT K') := by subst hK; exact ix_tup
theorem ix_listK : IxR X (rIxL K') := by subst hK; exact ix_list
theorem ix_seqK : IxR X (rIx K') := by subst hK; exact ix_seq
theorem sl_listK : SlR X (rSlL K') := by subst hK; exact sl_list
theorem sl_tupK : SlR X (rSlA K') := by subst hK; exact sl_tupA
theorem op_inK : OpR X (compareOp .In) (rIn K' false) := by subst hK; exact op_in_seq
theorem op_notInK : OpR X (compareOp .NotIn) (rIn K' true) := by subst hK; exact op_notIn_seq
theorem op_catTK : OpR X (binaryOp .Add) (rCatA K') := by subst hK; exact op_catA
theorem op_repTK : OpR X (binaryOp .Mult) (rRepT K') := by subst hK; exact op_repT
theorem op_eqDK (hu : X.A.units + 64 < cLine) : OpR X (compareOp .Eq) (rEqD K') := by subst hK; exact op_eqD hu
theorem op_neDK (hu : X.A.units + 64 < cLine) : OpR X (compareOp .NotEq) (rNeD K') := by subst hK; exact op_neD hu
def rLn (K' : PySem.W.Frag) : List V → Hp → VK → Prop := fun xs H Q => ∃ p ys, xs = [.ref p] ∧ (SqL K' H p ys ∨ SqT K' H p ys) ∧ Q (.int ys.length) H
theorem call_lenK : CallR X (.builtin "len") (rLn K') := by subst hK; exact call_len_seq
def rLi (K' : PySem.W.Frag) : List V → Hp → VK → Prop := fun xs H Q => ∃ p ys, xs = [.ref p] ∧ (SqL K' H p ys ∨ SqT K' H p ys) ∧ ∀ l, H l = none → Q (.ref l) (upd H l (.lst ys))
theorem call_listK : CallR X (.type "list") (rLi K') := by subst hK; exact call_list_of
def rTu (K' : PySem.W.Frag) : List V → Hp → VK → Prop := fun xs H Q => ∃ p ys, xs = [.ref p] ∧ ((SqL K' H p ys ∧ ∀ l, H l = none → Q (.ref l) (upd H l (.tup ys))) ∨ (SqT K' H p ys ∧ Q (.ref p) H))
theorem call_tupleK : CallR X (.type "tuple") (rTu K') := by subst hK; exact call_tuple_of
theorem call_isK : CallR X (.builtin "isinstance") (rIsi K') := by subst hK; exact call_isi
theorem cr_sumK (hc : X.calm = true) : CallR X (.builtin "sum") (rSum K') := by subst hK; exact cr_sum hc
theorem cr_anyK (hc : X.calm = true) : CallR X (.builtin "any") (rAny K') := by subst hK; exact cr_any hc
theorem cr_allK (hc : X.calm = true) : CallR X (.builtin "all") (rAll K') := by subst hK; exact cr_all hc
theorem cr_sortedK : CallR X (.builtin "sorted") (rSorted K') := by subst hK; exact cr_sorted
theorem pe_fldK {e : Expr} {f : Str} {pos : Pos} {ta : TE} (he : PE X e ta) (hb : attributeBase e f X.env (eval e X.env) = eval e X.env) : PE X (.Attribute e f pos) (tFld K' ta f) := by subst hK; exact pe_fld he hb
theorem pg_tupK {es : List Expr} {k : Nat} {pos : Pos} {t : TGs} (n : Nat) (hc : X.calm = true) (h : PGs X es t) (hn : (assignEach es X.env).length = n) (hst : (assignEach es X.env).findIdx? (·.1) = none) : PG X (.Tuple es k pos) (gTup K' n t) := by subst hK; exact pg_tup hc h hn hst
end
end My

/-! what steps by themselves want: frames from behind, tests, draws -/
namespace My
open PySem L2
theorem Keep.back {H0 H1 H2 : Hp} (b : Keep H1 H2) (a : Keep H0 H1) : Keep H0 H2 := a.trans b
theorem Same.back {H0 H1 H2 : Hp} (b : Same H1 H2) (a : Same H0 H1) : Same H0 H2 := a.trans b
theorem But.back {l : List Addr} {H0 H1 H2 : Hp} (b : But l H1 H2) (a : But l H0 H1) : But l H0 H2 := a.trans b
theorem Pt.At.back {p : Pt} {H H' : Hp} (e : Same H H') (h : p.At H) : p.At H' := h.same e
theorem iteD {c A B : Prop} [Decidable c] (h1 : c → A) (h2 : ¬ c → B) : if decide c = true then A else B := by
  by_cases h : c
  · rw [decide_eq_true h, if_pos rfl]; exact h1 h
  · rw [decide_eq_false h, if_neg (by decide)]; exact h2 h
theorem iteI {x y : Int} {A B : Prop} (h1 : x = y → A) (h2 : x ≠ y → B) : if decide (V.int x = V.int y) = true then A else B :=
  iteD (fun h => h1 (V.int.inj h)) fun h => h2 fun z => h (congrArg V.int z)
/-- != -/
theorem iteNI {x y : Int} {A B : Prop} (h1 : x ≠ y → A) (h2 : x = y → B) : if (!decide (V.int x = V.int y)) = true then A else B := by
  by_cases h : x = y
  · rw [h, decide_eq_true rfl]; exact iteF (h2 h)
  · rw [decide_eq_false (fun z => h (V.int.inj z))]; exact iteT (h1 h)
theorem IT.new1 {K : PySem.W.Frag} {H : Hp} {p : Addr} {a : Int} : IT K (upd H p (.tup [.int a])) (.ref p) [a] := IT.new rfl
theorem IT.new2 {K : PySem.W.Frag} {H : Hp} {p : Addr} {a b : Int} : IT K (upd H p (.tup [.int a, .int b])) (.ref p) [a, b] := IT.new rfl
theorem IT.new3 {K : PySem.W.Frag} {H : Hp} {p : Addr} {a b c : Int} : IT K (upd H p (.tup [.int a, .int b, .int c])) (.ref p) [a, b, c] := IT.new rfl
theorem IT.new4 {K : PySem.W.Frag} {H : Hp} {p : Addr} {a b c d : Int} : IT K (upd H p (.tup [.int a, .int b, .int c, .int d])) (.ref p) [a, b, c, d] := IT.new rfl
theorem IT.sq {K : PySem.W.Frag} {H : Hp} {p : Addr} {ns : List Int} (h : IT K H (.ref p) ns) : SqT K H p (ns.map V.int) := by
  obtain ⟨q, e, s⟩ := h
  cases e
  exact s
theorem use_draw {p : Pt} {many : Int} {H : Hp} {Q : VK} {E : XK} (hp : p.At H) (hm : 0 < many) (hs : small many)
    (k : ∀ (r : Int) (H' : Hp), 0 ≤ r → r < many → p.At H' → But p.l H H' → Keep H H' → Q (.int r) H') : spDraw [.ref p.a, .int many] H Q E :=
  ⟨p, many, rfl, hp, hm, hs, fun r H' r0 r1 hp' b => k r H' r0 r1 hp' b (hp.keep b)⟩
theorem iteST {a b : Str} {A B : Prop} (h : a = b) (k : A) : if decide (V.str a = V.str b) = true then A else B := by
  rw [decide_eq_true (congrArg V.str h), if_pos rfl]; exact k
theorem iteSF {a b : Str} {A B : Prop} (h : ¬ (a = b)) (k : B) : if decide (V.str a = V.str b) = true then A else B := by
  rw [decide_eq_false (fun z => h (V.str.inj z)), if_neg (by decide)]; exact k
theorem divp_small {i j : Int} (hj : 0 < j) (h : i.natAbs < 2 ^ 1000) : CDivP i j := by
  refine divp_ok hj ?_
  have b : Builtin.Int.intBits i ≤ i.natAbs.log2 + 1 := by
    unfold Builtin.Int.intBits
    split <;> omega
  have := PySem.Flt.log2_lt_of (by decide : 0 < 1000) h
  omega
theorem CMul.l {i j : Int} (h0 : -(2 ^ 64) < i) (h1 : i < 2 ^ 64) : CMul i j := .inl ⟨h0, h1⟩
theorem CMul.r {i j : Int} (h0 : -(2 ^ 64) < j) (h1 : j < 2 ^ 64) : CMul i j := .inr ⟨h0, h1⟩
theorem CMulW.of {i j : Int} (hi : i.natAbs < 2 ^ 400) (hj : j.natAbs < 2 ^ 400) : CMulW i j := wide_mul hi hj (by decide) (by decide) (by decide)
theorem bl_true {Q : VK} {H : Hp} {c : Prop} [Decidable c] (q : Q (.bl true) H) (h : c) : Q (.bl (decide c)) H := by
  rw [decide_eq_true h]; exact q
theorem bl_false {Q : VK} {H : Hp} {c : Prop} [Decidable c] (q : Q (.bl false) H) (h : ¬ c) : Q (.bl (decide c)) H := by
  rw [decide_eq_false h]; exact q
theorem tC_i {v : V} {σ : L2.St} {H : Hp} {Q : VK} (q : Q v H) : tC v σ H Q := q
theorem tNil_i {σ : L2.St} {H : Hp} {Q : List V → Hp → Prop} (q : Q [] H) : tNil σ H Q := q
theorem tCons_i {ta : TE} {t : TA} {σ : L2.St} {H : Hp} {Q : List V → Hp → Prop} (q : ta σ H fun x H1 => t σ H1 fun xs H2 => Q (x :: xs) H2) : tCons ta t σ H Q := q
theorem tCall_i {sp : Sp} {dvs : List V} {E : XK} {t : TA} {σ : L2.St} {H : Hp} {Q : VK} (q : t σ H fun vs H1 => sp (vs ++ dvs) H1 Q E) : tCall sp dvs E t σ H Q := q
theorem tOp_i {r : R2} {ta tb : TE} {σ : L2.St} {H : Hp} {Q : VK} (q : ta σ H fun x H1 => tb σ H1 fun y H2 => r x y H2 Q) : tOp r ta tb σ H Q := q
theorem tVar_i {i : Nat} {v : V} {σ : L2.St} {H : Hp} {Q : VK} (e : σ[i]? = some (some v)) (q : Q v H) : tVar i σ H Q := ⟨v, e, q⟩
theorem iteNEq {x y : Int} {A B : Prop} (h : x = y) (k : B) : if (!decide (V.int x = V.int y)) = true then A else B := iteNI (fun c => absurd h c) fun _ => k
theorem iteFb {c : Bool} {A B : Prop} (h : c = false) (k : B) : if c = true then A else B := by rw [h]; exact iteF k
theorem iteTb {c : Bool} {A B : Prop} (h : c = true) (k : A) : if c = true then A else B := by rw [h]; exact iteT k
theorem IT.flip {K : PySem.W.Frag} {H H' : Hp} {v : V} {ns : List Int} (h : IT K H v ns) (e : Keep H H') : IT K H' v ns := h.keep e
theorem ITs.flip {K : PySem.W.Frag} {H H' : Hp} {v : V} {ns : List (List Int)} (h : ITs K H v ns) (e : Keep H H') : ITs K H' v ns := h.keep e
theorem SqT.flip {K : PySem.W.Frag} {H H' : Hp} {a : Addr} {xs : List V} (h : SqT K H a xs) (e : Keep H H') : SqT K H' a xs := SqT.keep e h
theorem SqL.flip {K : PySem.W.Frag} {H H' : Hp} {a : Addr} {xs : List V} (h : SqL K H a xs) (e : Same H H') : SqL K H' a xs := Same.seq e h
theorem At.flip {H H' : Hp} {a : Addr} {o : HO} (h : H a = some o) (e : Same H H') : H' a = some o := e _ _ h
theorem CDivW.of {i j : Int} (h : 0 < j) (hj : j.natAbs < 2 ^ 400) : CDivW i j := wide_div h hj (by decide) (by decide)
section
variable {K : PySem.W.Frag}
def Parts (K : PySem.W.Frag) (H : Hp) (v : V) (n : Int) (evs : List (List Int)) : Prop := ∃ q w, v = .ref q ∧ SqT K H q [.int n, w] ∧ ITs K H w evs
theorem Parts.keep {H H' : Hp} {v : V} {n : Int} {evs : List (List Int)} (e : Keep H H') (h : Parts K H v n evs) : Parts K H' v n evs := by
  obtain ⟨q, w, h1, h2, h3⟩ := h
  exact ⟨q, w, h1, SqT.keep e h2, h3.keep e⟩
theorem ixP1 {H : Hp} {x : V} {n : Int} {evs : List (List Int)} {Q : V → Prop} (h : Parts K H x n evs) (q : ∀ w, ITs K H w evs → Q w) :
    ∃ p xs j v, x = .ref p ∧ (V.int 1) = .int j ∧ SqT K H p xs ∧ atI xs j = some v ∧ Q v := by
  obtain ⟨a, w, e, s, t⟩ := h
  exact ⟨a, _, 1, w, e, rfl, s, rfl, q w t⟩
theorem ixP0 {H : Hp} {x : V} {n : Int} {evs : List (List Int)} {Q : V → Prop} (h : Parts K H x n evs) (q : Q (.int n)) :
    ∃ p xs j v, x = .ref p ∧ (V.int 0) = .int j ∧ SqT K H p xs ∧ atI xs j = some v ∧ Q v := by
  obtain ⟨a, w, e, s, t⟩ := h
  exact ⟨a, _, 0, _, e, rfl, s, rfl, q⟩
def LTs (K : PySem.W.Frag) (H : Hp) (D : Addr) (nss : List (List Int)) : Prop := ∃ xs, H D = some (.lst xs) ∧ All2 (IT K H) xs nss
theorem LTs.but {H H' : Hp} {l : List Addr} {D : Addr} {nss : List (List Int)} (h : LTs K H D nss) (b : But l H H') (k : Keep H H') (n : D ∉ l) : LTs K H' D nss := by
  obtain ⟨xs, h1, h2⟩ := h
  exact ⟨xs, b _ _ n h1, h2.imp fun _ _ z => z.keep k⟩
end
theorem Keep.ofBut {p : Pt} {H H' : Hp} (b : But p.l H H') (h : p.At H) : Keep H H' := h.keep b
theorem Parts.flip {K : PySem.W.Frag} {H H' : Hp} {v : V} {n : Int} {evs : List (List Int)} (h : Parts K H v n evs) (e : Keep H H') : Parts K H' v n evs := h.keep e
theorem MachAt.flip {K : PySem.W.Frag} {C : Addr} {H H' : Hp} {v : V} {n : Int} {evs : List (List Int)} (h : MachAt K C H v n evs) (e : Keep H H') : MachAt K C H' v n evs := h.keep e
theorem LTs.flip {K : PySem.W.Frag} {H H' : Hp} {D : Addr} {nss : List (List Int)} (h : LTs K H D nss) (s : Same H H') : LTs K H' D nss := h.but (But.of (l := []) s) (Keep.of s) (by simp)
theorem mapI {ns : List Int} {i : Nat} {y : V} (h : (ns.map V.int)[i]? = some y) : ∃ n, ns[i]? = some n ∧ y = .int n := by
  rw [List.getElem?_map] at h
  cases z : ns[i]? with
  | none => rw [z] at h; cases h
  | some n => rw [z] at h; exact ⟨n, rfl, (Option.some.inj h).symm⟩
theorem Parts.open {K : PySem.W.Frag} {H : Hp} {v : V} {n : Int} {evs : List (List Int)} (h : Parts K H v n evs) : ∃ q w xs, v = .ref q ∧ SqT K H q [.int n, .ref w] ∧ SqT K H w xs ∧ All2 (IT K H) xs evs := by
  obtain ⟨q, w, rfl, h1, a, xs, rfl, h2, al⟩ := h
  exact ⟨q, a, xs, rfl, h1, h2, al⟩
theorem MachAt.open {K : PySem.W.Frag} {C : Addr} {H : Hp} {v : V} {n : Int} {evs : List (List Int)} (h : MachAt K C H v n evs) : ∃ m dx w xs, v = .ref m ∧ H m = some (.ins C dx (mf n (.ref w))) ∧ SqT K H w xs ∧ All2 (IT K H) xs evs := by
  obtain ⟨m, dx, w, rfl, h1, a, xs, rfl, h2, al⟩ := h
  exact ⟨m, dx, a, xs, rfl, h1, h2, al⟩
theorem evAt {K : PySem.W.Frag} {H : Hp} {xs : List V} {evs : List (List Int)} {k : Int} {e : List Int} (al : All2 (IT K H) xs evs) (h0 : 0 ≤ k) (h : evs[k.toNat]? = some e) : ∃ z, atI xs k = some (.ref z) ∧ IT K H (.ref z) e := by
  obtain ⟨v, hv, hI⟩ := al.get h
  obtain ⟨z, rfl, _⟩ := id hI
  exact ⟨z, at_ge h0 hv, hI⟩
theorem iteNb {c : Bool} {A B : Prop} (h : c = true) (k : B) : if (!c) = true then A else B := by rw [h]; exact iteF k
theorem cut1 (xs : List V) : cutV xs (some 1) none = xs.drop 1 := by
  unfold cutV
  have e : HT.sIx xs.length 0 (some 1) = min 1 xs.length := by
    show (if (1 : Int) < 0 then ((1 : Int) + (xs.length : Int)).toNat else min (1 : Int).toNat xs.length) = _
    exact if_neg (by decide)
  rw [e, HT.sIx_none, List.take_of_length_le (by rw [List.length_drop]; exact Nat.le_refl _)]
  cases xs with
  | nil => rfl
  | cons x l => rw [Nat.min_eq_left (by simp)]
theorem All2.drop {α β : Type} {R : α → β → Prop} {as : List α} {bs : List β} (h : All2 R as bs) (n : Nat) : All2 R (as.drop n) (bs.drop n) := by
  induction h generalizing n with
  | nil => simp; exact .nil
  | cons r t ih =>
    cases n with
    | zero => exact .cons r t
    | succ n => simpa using ih n
def gcdI (a b : Int) : Int := ((Nat.gcd a.natAbs b.natAbs : Nat) : Int)
def sumT (evs : List (List Int)) (run : List Int) : Int := (run.map fun k => evT (evs.getD k.toNat [])).sum
def sumP (evs : List (List Int)) (run : List Int) : Int := (run.map fun k => evP (evs.getD k.toNat [])).sum
def InEv (evs : List (List Int)) (run : List Int) : Prop := ∀ k ∈ run, 0 ≤ k ∧ k < (evs.length : Int)
structure RunIs (K : PySem.W.Frag) (H : Hp) (v : V) (evs : List (List Int)) (run : List Int) : Prop where
  at_ : IT K H v run
  wk : (walkTo evs 0 run).isSome = true
  inn : InEv evs run
  len : run.length ≤ 1000
theorem RunIs.keep {K : PySem.W.Frag} {H H' : Hp} {v : V} {evs : List (List Int)} {run : List Int} (h : RunIs K H v evs run) (e : Keep H H') : RunIs K H' v evs run := ⟨h.at_.keep e, h.wk, h.inn, h.len⟩
structure ShIs (K : PySem.W.Frag) (H : Hp) (v : V) (a b : Int) : Prop where
  at_ : IT K H v [a, b]
  pos : 1 ≤ b
  low : gcdI a b = 1
theorem ShIs.keep {K : PySem.W.Frag} {H H' : Hp} {v : V} {a b : Int} (h : ShIs K H v a b) (e : Keep H H') : ShIs K H' v a b := ⟨h.at_.keep e, h.pos, h.low⟩
theorem RunIs.flip {K : PySem.W.Frag} {H H' : Hp} {v : V} {evs : List (List Int)} {run : List Int} (h : RunIs K H v evs run) (e : Keep H H') : RunIs K H' v evs run := h.keep e
theorem ShIs.flip {K : PySem.W.Frag} {H H' : Hp} {v : V} {a b : Int} (h : ShIs K H v a b) (e : Keep H H') : ShIs K H' v a b := h.keep e
theorem InEv.take {evs : List (List Int)} {run : List Int} (h : InEv evs run) (n : Nat) : InEv evs (run.take n) := fun k hk => h k (List.mem_of_mem_take hk)
theorem inV_ints (x : Int) : ∀ ns : List Int, inV (.int x) (ns.map V.int) = decide (x ∈ ns)
  | [] => by simp [inV]
  | n :: ns => by
    have ih := inV_ints x ns
    unfold inV at ih ⊢
    rw [List.map_cons, List.any_cons, ih]
    show ((n == x) || decide (x ∈ ns)) = decide (x ∈ n :: ns)
    by_cases c : x = n
    · subst c; simp
    · have c' : ¬ n = x := fun z => c z.symm
      simp [c, c']
theorem flat_ints : ∀ ns : List Int, (ns.map V.int).all flatV = true
  | [] => rfl
  | n :: ns => by rw [List.map_cons, List.all_cons, flat_ints ns]; rfl
theorem Free.flip {H H' : Hp} {p : Addr} (h : H' p = none) (s : Same H H') : H p = none := Same.free s h
theorem Pt.At.flip {p : Pt} {H H' : Hp} (h : p.At H) (e : Same H H') : p.At H' := h.same e
theorem iteCB {c : Bool} {A B : Prop} (h1 : c = true → A) (h2 : c = false → B) : if c = true then A else B := by
  cases h : c
  · exact iteF (h2 h)
  · exact iteT (h1 h)
theorem slTo {K : PySem.W.Frag} {q : Addr} {run : List Int} {i : Nat} {z : Int} {H : Hp} {P : Addr → Hp → Prop} (ez : z = (i : Int)) (h : SqT K H q (run.map V.int)) (k : ∀ v H', Same H H' → IT K H' (.ref v) (run.take i) → P v H') :
    ∃ a xs, V.ref q = .ref a ∧ SqT K H a xs ∧ (HT.sIx xs.length 0 none = 0 ∧ HT.sIx xs.length xs.length (some z) = xs.length → P a H) ∧
      (¬ (HT.sIx xs.length 0 none = 0 ∧ HT.sIx xs.length xs.length (some z) = xs.length) → ∀ p, H p = none → P p (upd H p (.tup (cutV xs none (some z))))) := by
  subst ez
  have cut : cutV (run.map V.int) none (some (i : Int)) = (run.take i).map V.int := by
    unfold cutV
    rw [HT.sIx_none, HT.sIx_nat, List.drop_zero, Nat.sub_zero, List.map_take, List.length_map]
    by_cases c : i ≤ run.length
    · rw [Nat.min_eq_left c]
    · rw [Nat.min_eq_right (by omega), List.take_of_length_le (by rw [List.length_map]; exact Nat.le_refl _), List.take_of_length_le (by rw [List.length_map]; omega)]
  refine ⟨q, _, rfl, h, fun e => ?_, fun _ p hp => ?_⟩
  · rw [HT.sIx_nat, List.length_map] at e
    have le : run.length ≤ i := by omega
    refine k q H (Same.refl H) ⟨q, rfl, ?_⟩
    rw [List.take_of_length_le le]
    exact h
  · rw [cut]
    exact k p _ (Same.new hp) (IT.new rfl)
theorem slQ {K : PySem.W.Frag} {q : Addr} {run : List Int} {i : Nat} {z : Int} {H : Hp} {Q : VK} (ez : z = (i : Int)) (h : SqT K H q (run.map V.int)) (k : ∀ v H', Same H H' → IT K H' (.ref v) (run.take i) → Q (.ref v) H') :
    rSlA K (.ref q) none (some z) H Q := slTo (P := fun v H' => Q (.ref v) H') ez h k
theorem slTake {K : PySem.W.Frag} {q : Addr} {run : List Int} {z : Int} {H : Hp} {Q : VK} (h : IT K H (.ref q) run) (h0 : 0 ≤ z) (k : ∀ v H', Same H H' → IT K H' (.ref v) (run.take z.toNat) → Q (.ref v) H') : rSlA K (.ref q) none (some z) H Q :=
  slQ (i := z.toNat) (by omega) (IT.sq h) k
theorem RunIs.take {K : PySem.W.Frag} {H H' : Hp} {v w : V} {evs : List (List Int)} {run : List Int} (h : RunIs K H v evs run) (n : Nat) (g : IT K H' w (run.take n)) : RunIs K H' w evs (run.take n) := by
  refine ⟨g, ?_, h.inn.take n, by rw [List.length_take]; have := h.len; omega⟩
  have z : walkTo evs 0 run = walkTo evs 0 (run.take n ++ run.drop n) := by rw [List.take_append_drop]
  have w := h.wk
  rw [z, walkTo_app] at w
  cases e : walkTo evs 0 (run.take n) with
  | none => rw [e] at w; cases w
  | some t => rfl
theorem iteTC {c : Bool} {v1 v2 : V} {σ : L2.St} {H : Hp} {Q : VK} (k : ∀ v, (v = v1 ∨ v = v2) → Q v H) : if c = true then tC v1 σ H Q else tC v2 σ H Q := by
  cases c
  · exact iteF (k _ (.inr rfl))
  · exact iteT (k _ (.inl rfl))
/-- what steps don't open -/
structure Wr (P : Prop) : Prop where
  out : P
theorem catJ {K : PySem.W.Frag} {a b : Addr} {xs ys : List V} {H : Hp} {Q : VK} (ha : SqT K H a xs) (hb : SqT K H b ys) (hl : xs.length + ys.length ≤ sizeLine) (k : ∀ (c : Addr) (H' : Hp), Same H H' → SqT K H' c (xs ++ ys) → Q (.ref c) H') : rCatA K (.ref a) (.ref b) H Q :=
  ⟨a, b, xs, ys, rfl, rfl, ha, hb, hl, fun e => k b H (Same.refl H) (by rw [e]; exact hb), fun _ e => k a H (Same.refl H) (by rw [e, List.append_nil]; exact ha), fun _ _ p hp => k p _ (Same.new hp) (SqT.lt upd_same)⟩
theorem LTs.same {K : PySem.W.Frag} {H H' : Hp} {D : Addr} {nss : List (List Int)} (h : LTs K H D nss) (s : Same H H') : LTs K H' D nss := h.flip s
theorem LTs.dp0 {K : PySem.W.Frag} {H : Hp} {D : Addr} {nss : List (List Int)} (h : LTs K H D nss) : ∃ xs, H D = some (.lst xs) ∧ All2 (IT K H) xs nss := h
end My

namespace Myk56
open PySem L2 My EnT
def top (i : Nat) : Stmt := PySem.Challenge.pw_neverleapt_k56_whole_leaps_and_shows_of.main.body.getD i (.Pass ⟨0, 0, 0, 0⟩)
abbrev s_is_whole : Stmt := top 8
abbrev s_is_way : Stmt := top 12
abbrev s_share_of : Stmt := top 13
abbrev s_lift_of : Stmt := top 14
abbrev s_law_is : Stmt := top 36
abbrev s_law_pot : Stmt := top 37
abbrev s_law_draw : Stmt := top 38
abbrev s_law_gcd : Stmt := top 41
abbrev s_law_out : Stmt := top 44
abbrev s_law_lift : Stmt := top 46
abbrev s_law_leapt : Stmt := top 47
abbrev s_is_between : Stmt := top 9
abbrev s_is_pair : Stmt := top 10
abbrev s_check_way : Stmt := top 17
abbrev s_law_any : Stmt := top 39
abbrev s_law_parts : Stmt := top 40
abbrev s_law_low : Stmt := top 42
abbrev s_law_walk : Stmt := top 45
abbrev s_law_numbers : Stmt := top 48
abbrev s_is_share : Stmt := top 11
abbrev s_are_counts : Stmt := top 25
abbrev s_has_event : Stmt := top 26
abbrev s_law_share : Stmt := top 43
abbrev s_check_share : Stmt := top 16
abbrev s_is_event : Stmt := top 24
abbrev s_is_run : Stmt := top 27
abbrev s_Machine___init__ : Stmt := inClass (top 23) 0
abbrev s_boards : Stmt := top 28
abbrev s_shares : Stmt := top 29
abbrev s_values_behind : Stmt := top 34
abbrev s_leaps : Stmt := top 32
abbrev s_meets : Stmt := top 33
abbrev s_is_leap : Stmt := top 31
abbrev s_law_told : Stmt := top 49
abbrev s_law : Stmt := top 50
structure Ad where
  f_is_whole : Addr
  d_is_whole : FuncData
  f_is_way : Addr
  d_is_way : FuncData
  f_share_of : Addr
  d_share_of : FuncData
  f_lift_of : Addr
  d_lift_of : FuncData
  f_law_is : Addr
  d_law_is : FuncData
  f_law_pot : Addr
  d_law_pot : FuncData
  f_law_draw : Addr
  d_law_draw : FuncData
  f_law_gcd : Addr
  d_law_gcd : FuncData
  f_law_out : Addr
  d_law_out : FuncData
  f_law_lift : Addr
  d_law_lift : FuncData
  f_law_leapt : Addr
  d_law_leapt : FuncData
  f_is_between : Addr
  d_is_between : FuncData
  f_is_pair : Addr
  d_is_pair : FuncData
  f_check_way : Addr
  d_check_way : FuncData
  f_law_any : Addr
  d_law_any : FuncData
  f_law_parts : Addr
  d_law_parts : FuncData
  f_law_low : Addr
  d_law_low : FuncData
  f_law_walk : Addr
  d_law_walk : FuncData
  f_law_numbers : Addr
  d_law_numbers : FuncData
  f_is_share : Addr
  d_is_share : FuncData
  f_are_counts : Addr
  d_are_counts : FuncData
  f_has_event : Addr
  d_has_event : FuncData
  f_law_share : Addr
  d_law_share : FuncData
  f_check_share : Addr
  d_check_share : FuncData
  f_is_event : Addr
  d_is_event : FuncData
  f_is_run : Addr
  d_is_run : FuncData
  f_Machine___init__ : Addr
  d_Machine___init__ : FuncData
  f_boards : Addr
  d_boards : FuncData
  f_shares : Addr
  d_shares : FuncData
  f_values_behind : Addr
  d_values_behind : FuncData
  f_leaps : Addr
  d_leaps : FuncData
  f_meets : Addr
  d_meets : FuncData
  f_is_leap : Addr
  d_is_leap : FuncData
  f_law_told : Addr
  d_law_told : FuncData
  f_law : Addr
  d_law : FuncData
  C_Machine : Addr
  t_MOST_EVENTS : Tok
  t_MOST_POINTS : Tok
  t_MOST_STANDINGS : Tok
  t_MOST_TRIES : Tok
structure Txt (K : PySem.W.Frag) (mg : Str → Option Value) (A : Ad) : Prop where
  F_is_whole : Fun K "is_whole" "is_whole" s_is_whole A.f_is_whole A.d_is_whole
  B_is_whole : Binds K A.d_is_whole ["thing"] []
  m_is_whole : mg "is_whole" = some (.ref A.f_is_whole)
  F_is_way : Fun K "is_way" "is_way" s_is_way A.f_is_way A.d_is_way
  B_is_way : Binds K A.d_is_way ["thing"] []
  m_is_way : mg "is_way" = some (.ref A.f_is_way)
  F_share_of : Fun K "share_of" "share_of" s_share_of A.f_share_of A.d_share_of
  B_share_of : Binds K A.d_share_of ["points", "tries"] []
  m_share_of : mg "share_of" = some (.ref A.f_share_of)
  F_lift_of : Fun K "lift_of" "lift_of" s_lift_of A.f_lift_of A.d_lift_of
  B_lift_of : Binds K A.d_lift_of ["share", "tries", "points"] []
  m_lift_of : mg "lift_of" = some (.ref A.f_lift_of)
  F_law_is : Fun K "_law_is" "_law_is" s_law_is A.f_law_is A.d_law_is
  B_law_is : Binds K A.d_law_is ["told", "due"] []
  m_law_is : mg "_law_is" = some (.ref A.f_law_is)
  F_law_pot : Fun K "_law_pot" "_law_pot" s_law_pot A.f_law_pot A.d_law_pot
  B_law_pot : Binds K A.d_law_pot ["script"] []
  m_law_pot : mg "_law_pot" = some (.ref A.f_law_pot)
  F_law_draw : Fun K "_law_draw" "_law_draw" s_law_draw A.f_law_draw A.d_law_draw
  B_law_draw : Binds K A.d_law_draw ["pot", "many"] []
  m_law_draw : mg "_law_draw" = some (.ref A.f_law_draw)
  F_law_gcd : Fun K "_law_gcd" "_law_gcd" s_law_gcd A.f_law_gcd A.d_law_gcd
  B_law_gcd : Binds K A.d_law_gcd ["one", "other"] []
  m_law_gcd : mg "_law_gcd" = some (.ref A.f_law_gcd)
  F_law_out : Fun K "_law_out" "_law_out" s_law_out A.f_law_out A.d_law_out
  B_law_out : Binds K A.d_law_out ["parts", "standing"] []
  m_law_out : mg "_law_out" = some (.ref A.f_law_out)
  F_law_lift : Fun K "_law_lift" "_law_lift" s_law_lift A.f_law_lift A.d_law_lift
  B_law_lift : Binds K A.d_law_lift ["share", "event"] []
  m_law_lift : mg "_law_lift" = some (.ref A.f_law_lift)
  F_law_leapt : Fun K "_law_leapt" "_law_leapt" s_law_leapt A.f_law_leapt A.d_law_leapt
  B_law_leapt : Binds K A.d_law_leapt ["before", "after", "way"] []
  m_law_leapt : mg "_law_leapt" = some (.ref A.f_law_leapt)
  F_is_between : Fun K "is_between" "is_between" s_is_between A.f_is_between A.d_is_between
  B_is_between : Binds K A.d_is_between ["thing", "low", "high"] []
  m_is_between : mg "is_between" = some (.ref A.f_is_between)
  F_is_pair : Fun K "is_pair" "is_pair" s_is_pair A.f_is_pair A.d_is_pair
  B_is_pair : Binds K A.d_is_pair ["thing"] []
  m_is_pair : mg "is_pair" = some (.ref A.f_is_pair)
  F_check_way : Fun K "check_way" "check_way" s_check_way A.f_check_way A.d_check_way
  B_check_way : Binds K A.d_check_way ["thing"] []
  m_check_way : mg "check_way" = some (.ref A.f_check_way)
  F_law_any : Fun K "_law_any" "_law_any" s_law_any A.f_law_any A.d_law_any
  B_law_any : Binds K A.d_law_any ["pot", "items"] []
  m_law_any : mg "_law_any" = some (.ref A.f_law_any)
  F_law_parts : Fun K "_law_parts" "_law_parts" s_law_parts A.f_law_parts A.d_law_parts
  B_law_parts : Binds K A.d_law_parts ["pot", "most_standings", "most_events"] []
  m_law_parts : mg "_law_parts" = some (.ref A.f_law_parts)
  F_law_low : Fun K "_law_low" "_law_low" s_law_low A.f_law_low A.d_law_low
  B_law_low : Binds K A.d_law_low ["top", "bottom"] []
  m_law_low : mg "_law_low" = some (.ref A.f_law_low)
  F_law_walk : Fun K "_law_walk" "_law_walk" s_law_walk A.f_law_walk A.d_law_walk
  B_law_walk : Binds K A.d_law_walk ["pot", "parts", "many"] []
  m_law_walk : mg "_law_walk" = some (.ref A.f_law_walk)
  F_law_numbers : Fun K "_law_numbers" "_law_numbers" s_law_numbers A.f_law_numbers A.d_law_numbers
  B_law_numbers : Binds K A.d_law_numbers ["parts", "share", "run"] []
  m_law_numbers : mg "_law_numbers" = some (.ref A.f_law_numbers)
  F_is_share : Fun K "is_share" "is_share" s_is_share A.f_is_share A.d_is_share
  B_is_share : Binds K A.d_is_share ["thing"] []
  m_is_share : mg "is_share" = some (.ref A.f_is_share)
  F_are_counts : Fun K "are_counts" "are_counts" s_are_counts A.f_are_counts A.d_are_counts
  B_are_counts : Binds K A.d_are_counts ["tries", "points"] []
  m_are_counts : mg "are_counts" = some (.ref A.f_are_counts)
  F_has_event : Fun K "has_event" "has_event" s_has_event A.f_has_event A.d_has_event
  B_has_event : Binds K A.d_has_event ["machine", "thing"] []
  m_has_event : mg "has_event" = some (.ref A.f_has_event)
  F_law_share : Fun K "_law_share" "_law_share" s_law_share A.f_law_share A.d_law_share
  B_law_share : Binds K A.d_law_share ["pot", "most"] []
  m_law_share : mg "_law_share" = some (.ref A.f_law_share)
  F_check_share : Fun K "check_share" "check_share" s_check_share A.f_check_share A.d_check_share
  B_check_share : Binds K A.d_check_share ["thing"] []
  m_check_share : mg "check_share" = some (.ref A.f_check_share)
  F_is_event : Fun K "_is_event" "_is_event" s_is_event A.f_is_event A.d_is_event
  B_is_event : Binds K A.d_is_event ["thing", "standings"] []
  m_is_event : mg "_is_event" = some (.ref A.f_is_event)
  F_is_run : Fun K "is_run" "is_run" s_is_run A.f_is_run A.d_is_run
  B_is_run : Binds K A.d_is_run ["machine", "thing"] []
  m_is_run : mg "is_run" = some (.ref A.f_is_run)
  F_Machine___init__ : Fun K "__init__" "Machine.__init__" s_Machine___init__ A.f_Machine___init__ A.d_Machine___init__
  B_Machine___init__ : Binds K A.d_Machine___init__ ["self", "standings", "events"] []
  F_boards : Fun K "boards" "boards" s_boards A.f_boards A.d_boards
  B_boards : Binds K A.d_boards ["machine", "run"] []
  m_boards : mg "boards" = some (.ref A.f_boards)
  F_shares : Fun K "shares" "shares" s_shares A.f_shares A.d_shares
  B_shares : Binds K A.d_shares ["machine", "run"] []
  m_shares : mg "shares" = some (.ref A.f_shares)
  F_values_behind : Fun K "_values_behind" "_values_behind" s_values_behind A.f_values_behind A.d_values_behind
  B_values_behind : Binds K A.d_values_behind ["machine", "share", "run"] []
  m_values_behind : mg "_values_behind" = some (.ref A.f_values_behind)
  F_leaps : Fun K "leaps" "leaps" s_leaps A.f_leaps A.d_leaps
  B_leaps : Binds K A.d_leaps ["machine", "share", "way", "run"] []
  m_leaps : mg "leaps" = some (.ref A.f_leaps)
  F_meets : Fun K "meets" "meets" s_meets A.f_meets A.d_meets
  B_meets : Binds K A.d_meets ["machine", "share", "run"] []
  m_meets : mg "meets" = some (.ref A.f_meets)
  F_is_leap : Fun K "is_leap" "is_leap" s_is_leap A.f_is_leap A.d_is_leap
  B_is_leap : Binds K A.d_is_leap ["machine", "share", "way", "thing"] []
  m_is_leap : mg "is_leap" = some (.ref A.f_is_leap)
  F_law_told : Fun K "_law_told" "_law_told" s_law_told A.f_law_told A.d_law_told
  B_law_told : Binds K A.d_law_told ["machine", "parts", "share", "run"] []
  m_law_told : mg "_law_told" = some (.ref A.f_law_told)
  F_law : Fun K "law" "law" s_law A.f_law A.d_law
  B_law : Binds K A.d_law ["script"] []
  m_law : mg "law" = some (.ref A.f_law)
  m_Machine : mg "Machine" = some (.ref A.C_Machine)
  cl_Machine : Cls K A.C_Machine
  mk_Machine : Mk K A.C_Machine A.f_Machine___init__
  n_events : NoAttr K A.C_Machine "events"
  n_standings : NoAttr K A.C_Machine "standings"
  z_abs : mg "abs" = none
  z_bool : mg "bool" = none
  z_enumerate : mg "enumerate" = none
  z_int : mg "int" = none
  z_isinstance : mg "isinstance" = none
  z_len : mg "len" = none
  z_list : mg "list" = none
  z_range : mg "range" = none
  z_str : mg "str" = none
  z_sum : mg "sum" = none
  z_tuple : mg "tuple" = none
  c_MOST_EVENTS : mg "MOST_EVENTS" = some (.int 30 A.t_MOST_EVENTS)
  c_MOST_POINTS : mg "MOST_POINTS" = some (.int 400 A.t_MOST_POINTS)
  c_MOST_STANDINGS : mg "MOST_STANDINGS" = some (.int 12 A.t_MOST_STANDINGS)
  c_MOST_TRIES : mg "MOST_TRIES" = some (.int 40 A.t_MOST_TRIES)
  m_gcd : mg "gcd" = some (.builtin "math.gcd")
def spLaw (K : PySem.W.Frag) : Sp := fun vs H Q _ => ∃ (a : Addr) (ns : List Int), vs = [.ref a] ∧ SqL K H a (ns.map V.int) ∧ ns.length ≤ 63 ∧ ∀ H', Q (.bl true) H'
section
variable {P : Program} {w : World} {K : PySem.W.Frag} {mg : Str → Option Value} {base : Heap} {A : Ad}
end
end Myk56

namespace Myk56
open PySem L2 My EnT
-- Same from behind
local macro_rules | `(tactic| nest_cls) => `(tactic| first
  | exact Same.refl _
  | assumption
  | (refine Same.back (Same.new (by assumption)) ?_; nest_cls)
  | (refine Same.back (by assumption) ?_; nest_cls)
  | (refine Same.chg ?_ (by first | assumption | exact Free.flip (by assumption) (by nest_cls)); nest_cls))
-- Keep from behind
local macro_rules | `(tactic| mem_news) => `(tactic| first
  | exact Keep.refl _
  | assumption
  | (refine Keep.back (Keep.new (by assumption)) ?_; mem_news)
  | (refine Keep.back (Keep.lst (by assumption)) ?_; mem_news)
  | (refine Keep.back (Keep.lst (by kd_adr)) ?_; mem_news)
  | (refine Keep.back (Keep.of (by assumption)) ?_; mem_news)
  | (refine Keep.back (Keep.ofBut (by assumption) (by kba_ints)) ?_; mem_news)
  | (refine Keep.back (by assumption) ?_; mem_news))
-- the pot
local macro_rules | `(tactic| kba_ints) => `(tactic| first
  | assumption
  | (refine Pt.At.back (Same.new (by assumption)) ?_; kba_ints)
  | (refine Pt.At.back (by assumption) ?_; kba_ints)
  | exact Pt.At.flip (by assumption) (by nest_cls))
-- a fact of a heap, from behind
local macro_rules | `(tactic| kd_adr) => `(tactic| first
  | ((with_reducible show IT _ _ _ _); first
    | assumption
    | exact IT.new2
    | exact IT.new1
    | exact IT.new3
    | exact IT.new4
    | exact IT.flip (by assumption) (by mem_news)
    | exact IT.flip IT.new2 (by mem_news)
    | exact IT.flip IT.new3 (by mem_news)
    | exact IT.flip IT.new1 (by mem_news)
    | exact IT.flip IT.new4 (by mem_news))
  | ((with_reducible show ITs _ _ _ _); first
    | assumption
    | exact ITs.flip (by assumption) (by mem_news))
  | ((with_reducible show SqT _ _ _ _); first
    | assumption
    | exact SqT.lt upd_same
    | exact SqT.lt (by assumption)
    | exact IT.sq (by assumption)
    | exact SqT.flip (by assumption) (by mem_news)
    | exact SqT.flip (SqT.lt (by assumption)) (by mem_news)
    | exact SqT.flip (IT.sq (by assumption)) (by mem_news)
    | exact SqT.flip (SqT.lt upd_same) (by mem_news))
  | ((with_reducible show SqL _ _ _ _); first
    | assumption
    | exact SqL.lt upd_same
    | exact SqL.lt (by assumption)
    | exact SqL.flip (by assumption) (by nest_cls)
    | exact SqL.flip (SqL.lt (by assumption)) (by nest_cls)
    | exact SqL.flip (SqL.lt upd_same) (by nest_cls))
  | ((with_reducible show Parts _ _ _ _ _); first | assumption | exact Parts.flip (by assumption) (by mem_news))
  | ((with_reducible show MachAt _ _ _ _ _ _); first | assumption | exact MachAt.flip (by assumption) (by mem_news))
  | ((with_reducible show ShIs _ _ _ _ _); first | assumption | exact ShIs.flip (by assumption) (by mem_news))
  | ((with_reducible show RunIs _ _ _ _ _); first | assumption | exact RunIs.flip (by assumption) (by mem_news))
  | ((with_reducible show LTs _ _ _ _); first | assumption | exact LTs.flip (by assumption) (by nest_cls))
  | ((with_reducible show Pt.At _ _); kba_ints)
  | ((with_reducible show Same _ _); nest_cls)
  | ((with_reducible show Keep _ _); mem_news)
  | ((with_reducible show (_ : Hp) _ = some _); first
    | assumption
    | exact upd_same
    | exact At.flip (by assumption) (by nest_cls)
    | exact At.flip upd_same (by nest_cls)))
-- a side condition
local macro_rules | `(tactic| leaf_len) => `(tactic| first
  | (with_reducible rfl)
  | (with_reducible assumption)
  | kd_adr
  | omega
  | ((with_reducible show (_ : Nat) ≤ sizeLine); first | (show 1 ≤ sizeLine; decide) | (show 2 ≤ sizeLine; decide) | (show 3 ≤ sizeLine; decide) | (show 4 ≤ sizeLine; decide) | (show 5 ≤ sizeLine; decide) | (show 6 ≤ sizeLine; decide) | (show 7 ≤ sizeLine; decide) | (show 8 ≤ sizeLine; decide) | (show 0 ≤ sizeLine; decide))
  | exact rfl
  | ((with_reducible show _ ∨ _); first | exact Or.inl (by leaf_len) | exact Or.inr (by leaf_len))
  | exact List.cons_ne_nil _ _
  | exact mf_ev _ _
  | exact mf_st _ _
  | exact flat_ints _
  | ((with_reducible show tyV _ _ _ _); exact Or.inl ⟨rfl, _, by kd_adr⟩)
  | ((with_reducible show ClsV _ _); exact ClsV.ty _)
  | ((with_reducible show CDivW _ _); exact CDivW.of (by omega) (by omega))
  | (apply Exists.intro (α := List V); kd_adr)
  | assumption
  | ((with_reducible show small _); unfold small; omega)
  | ((with_reducible show CPow _ _); exact ⟨by decide, by decide, by decide⟩)
  | ((with_reducible show CMul _ _); first | exact CMul.l (by omega) (by omega) | exact CMul.r (by omega) (by omega))
  | ((with_reducible show CMulW _ _); exact CMulW.of (by omega) (by omega))
  | ((with_reducible show TyX _ _ _ _); first | exact TyX.base (.int _) | exact TyX.base (.str _) | exact TyX.base (.bl _) | exact tyT (by kd_adr) | exact TyX.base (.lst (by kd_adr)))
  | ((with_reducible show PySem.W.kitOne _ _ _ = some _); first | exact kit_ty (r := true) (by decide +kernel) | exact kit_ty (r := false) (by decide +kernel))
  | decide)
-- a step
local macro_rules | `(tactic| l_ints) => `(tactic| first
  | (intro (p : Addr) (hp : (_ : Hp) p = none))
  | (intro (H' : Hp) (s : Same _ H'))
  | (intro (p : Addr) (H' : Hp) (s : Same _ H'))
  | (intro (h : IT _ _ _ _))
  | (intro (h : SqT _ _ _ _))
  | (intro (h : (_ : Hp) _ = none))
  | (intro (h : (_ : Hp) _ = some _))
  | ((with_reducible show rCatA _ _ _ _ _); refine catJ (by kd_adr) (by kd_adr) (by leaf_len) ?_)
  | ((with_reducible show rSlA _ _ none (some _) _ _); refine slTake (by kd_adr) (by omega) ?_)
  | with_reducible refine tC_i ?_
  | with_reducible refine tNil_i ?_
  | with_reducible refine tCons_i ?_
  | with_reducible refine tCall_i ?_
  | with_reducible refine tOp_i ?_
  | ((with_reducible refine tVar_i ?_ ?_); · exact rfl)
  | with_reducible refine iteT ?_
  | with_reducible refine iteF ?_
  | (with_reducible refine iteNEq ?_ ?_; · assumption)
  | (with_reducible refine iteNb ?_ ?_; · assumption)
  | (with_reducible refine iteTb ?_ ?_; · assumption)
  | (with_reducible refine iteFb ?_ ?_; · assumption)
  | ((with_reducible refine iteFb ?_ ?_); · exact rfl)
  | ((with_reducible refine iteTb ?_ ?_); · exact rfl)
  | with_reducible refine iteST rfl ?_
  | with_reducible refine iteSF (by decide +kernel) ?_
  | (refine And.intro ?_ ?_; · leaf_len)
  | apply Exists.intro (α := V)
  | apply Exists.intro (α := Int)
  | apply Exists.intro (α := Addr)
  | apply Exists.intro (α := List V)
  | apply Exists.intro (α := Str)
  | apply Exists.intro (α := Nat)
  | apply Exists.intro (α := Bool)
  | apply Exists.intro (α := Value)
  | apply Exists.intro (α := List Int)
  | apply Exists.intro (α := List (List Int))
  | apply Exists.intro (α := List Bool)
  | apply Exists.intro (α := List (Str × V))
  | apply Exists.intro (α := Option (List (Option Int)))
  | apply Exists.intro (α := Option Int)
  | apply Exists.intro (α := Pt)
  | refine Or.inr ⟨_, rfl, ?_⟩
  | apply Or.inl)

section
variable {P : Program} {w : World} {K : PySem.W.Frag} {mg : Str → Option Value} {base : Heap} {A : Ad}
/-- is_whole of an int -/
def spWholeI : Sp := fun vs H Q _ => ∃ n : Int, vs = [.int n] ∧ Q (.bl true) H
def spBetweenI : Sp := fun vs H Q _ => ∃ n l h : Int, vs = [.int n, .int l, .int h] ∧ Q (.bl (decide (l ≤ n ∧ n ≤ h))) H

theorem sc_is_whole : FnScope ["thing"] ["thing"] (defScope s_is_whole) := ⟨rfl, rfl, rfl, by decide +kernel, rfl, by decide +kernel, by decide +kernel⟩
theorem ok_is_whole (T : Txt K mg A) : FnOk P w K mg base CX0 1 A.f_is_whole A.d_is_whole ["thing"] (spWholeI) := by
  refine T.F_is_whole.ok sc_is_whole (fun vs H Q E h => ?_) (fun cdv A1 outer s H vs Q E hr h => ?_)
  · obtain ⟨n, rfl, _⟩ := h
    rfl
  · obtain ⟨n, rfl, q⟩ := h
    refine ⟨_, (pss_one (ps_ret (pe_and (pe_callB (call_isK K rfl) (by rfl) T.z_isinstance (by decide +kernel) (pa_cons (pv 0) (pa_cons (pe_bltn (v := .ty "int") (u := .type "int") rfl T.z_int (by decide +kernel) rfl) pa_nil))) (pe_one (pe_not (pe_callB (call_isK K rfl) (by rfl) T.z_isinstance (by decide +kernel) (pa_cons (pv 0) (pa_cons (pe_bltn (v := .ty "bool") (u := .type "bool") rfl T.z_bool (by decide +kernel) rfl) pa_nil)))))))), ?_⟩
    refine ⟨_, rfl, _, _, _, _, _, rfl, .ty _, .base (.int _), kit_ty (by decide +kernel), true, rfl, ?_⟩
    refine iteT ⟨_, rfl, _, _, _, _, _, rfl, .ty _, .base (.int _), kit_ty (r := false) (by decide +kernel), false, rfl, q⟩
theorem sc_is_between : FnScope ["thing", "low", "high"] ["thing", "low", "high"] (defScope s_is_between) := ⟨rfl, rfl, rfl, by decide +kernel, rfl, by decide +kernel, by decide +kernel⟩
theorem ok_is_between (T : Txt K mg A) : FnOk P w K mg base CX0 2 A.f_is_between A.d_is_between ["thing", "low", "high"] (spBetweenI) := by
  refine T.F_is_between.ok sc_is_between (fun vs H Q E h => ?_) (fun cdv A1 outer s H vs Q E hr h => ?_)
  · obtain ⟨n, l, h, rfl, _⟩ := h
    rfl
  · obtain ⟨n, l, hh, rfl, q⟩ := h
    refine ⟨_, (pss_one (ps_ret (pe_and (pe_call (ok_is_whole T) (hr.mono (by decide)) rfl T.m_is_whole T.F_is_whole.kp T.B_is_whole .nil pass0 (pa_cons (pv 0) pa_nil)) (pe_one (pe_chain op_le op_le (pv 1) (pv 0) (pv 2)))))), ?_⟩
    refine ⟨_, rfl, n, rfl, true, rfl, iteT ?_⟩
    refine ⟨_, rfl, _, rfl, _, _, rfl, rfl, _, rfl, ?_⟩
    by_cases h1 : l ≤ n
    · rw [decide_eq_true h1]
      refine iteT ⟨_, rfl, _, _, rfl, rfl, ?_⟩
      have e : decide (l ≤ n ∧ n ≤ hh) = decide (n ≤ hh) := by simp [h1]
      show Q (.bl (decide (n ≤ hh))) H
      rw [← e]
      exact q
    · rw [decide_eq_false h1]
      refine iteF ?_
      have e : decide (l ≤ n ∧ n ≤ hh) = false := by simp [h1]
      show Q (.bl false) H
      rw [← e]
      exact q
theorem cut63 {ns : List Int} (h : ns.length ≤ 63) : cutV (ns.map V.int) none (some 63) = ns.map V.int := by
  unfold cutV
  have e : HT.sIx (ns.map V.int).length (ns.map V.int).length (some 63) = (ns.map V.int).length := by
    show (if (63 : Int) < 0 then ((63 : Int) + ((ns.map V.int).length : Int)).toNat else min (63 : Int).toNat (ns.map V.int).length) = _
    rw [if_neg (by decide), List.length_map]
    omega
  rw [e, HT.sIx_none, List.drop_zero, Nat.sub_zero, List.take_length]

theorem sc_law_pot : FnScope ["script", "item", "cells", "greats", "smalls"] ["script"] (defScope s_law_pot) := ⟨rfl, rfl, rfl, by decide +kernel, rfl, by decide +kernel, by decide +kernel⟩
theorem ok_law_pot (T : Txt K mg A) : FnOk P w K mg base CX0 1 A.f_law_pot A.d_law_pot ["script"] (spPot K) := by
  refine T.F_law_pot.ok sc_law_pot (fun vs H Q E h => ?_) (fun cdv A1 outer s H vs Q E hr h => ?_)
  · obtain ⟨a, ns, rfl, _⟩ := h
    rfl
  · obtain ⟨a, ns, rfl, hS, hlen, k⟩ := h
    have lim : ns.length < sizeLine := Nat.lt_of_le_of_lt hlen (by decide)
    have e18 : CPow 10 18 := by refine ⟨by decide, by decide, by decide⟩
    refine ⟨_, (pss_cons (ps_setLc (i := 2) (own := [("item", 1)]) rfl sc_law_pot.nd rfl rfl (sw_true rfl rfl rfl (by decide +kernel)) (pi_list (pe_slice (sl_listK K rfl) (pv 0) po_none (po_some pe_int))) (blkOk_by (N := ["script", "item", "cells", "greats", "smalls"]) (sc := defScope s_law_pot) (by decide +kernel)) (fun _ _ _ _ _ => by exact (pg_name (i := 1) sc_law_pot.nd rfl (Or.inl rfl))) (fun _ _ _ _ _ => by exact pts_nil) (fun _ _ _ _ _ => by exact (pe_callTy call_int1 (by rfl) T.z_int (by decide +kernel) (pa_cons (pv 1) pa_nil))))
      (pss_cons (ps_setLc (i := 3) (own := [("item", 1)]) rfl sc_law_pot.nd rfl rfl (sw_true rfl rfl rfl (by decide +kernel)) (pi_list (pv 2)) (blkOk_by (N := ["script", "item", "cells", "greats", "smalls"]) (sc := defScope s_law_pot) (by decide +kernel)) (fun _ _ _ _ _ => by exact (pg_name (i := 1) sc_law_pot.nd rfl (Or.inl rfl))) (fun _ _ _ _ _ => by exact (pts_one (pt_cmpR op_ge (pe_callB call_abs (by rfl) T.z_abs (by decide +kernel) (pa_cons (pv 1) pa_nil)) (pe_op op_pow pe_int pe_int) (nomark _)))) (fun _ _ _ _ _ => by exact (pe_callB call_abs (by rfl) T.z_abs (by decide +kernel) (pa_cons (pv 1) pa_nil))))
      (pss_cons (ps_set (i := 4) sc_law_pot.nd rfl (Or.inl rfl) (pe_op op_cat (pe_lc (own := [("item", 1)]) rfl sc_law_pot.nd (pi_list (pv 2)) (blkOk_by (N := ["script", "item", "cells", "greats", "smalls"]) (sc := defScope s_law_pot) (by decide +kernel)) (fun _ _ _ _ _ => by exact (pg_name (i := 1) sc_law_pot.nd rfl (Or.inl rfl))) (fun _ _ _ _ _ => by exact (pts_one (pt_cmpR op_lt (pe_callB call_abs (by rfl) T.z_abs (by decide +kernel) (pa_cons (pv 1) pa_nil)) (pe_op op_pow pe_int pe_int) (nomark _)))) (fun _ _ _ _ _ => by exact (pe_op op_mod (pe_callTy call_int1 (by rfl) T.z_int (by decide +kernel) (pa_cons (pv 1) pa_nil)) pe_int))) (pe_lst (pa_cons (pe_op op_add (pe_callB (call_lenK K rfl) (by rfl) T.z_len (by decide +kernel) (pa_cons (pv 2) pa_nil)) pe_int) pa_nil))))
      (pss_one (ps_ret (pe_lst (pa_cons (pv 3) (pa_cons (pv 4) (pa_cons pe_int (pa_cons (pe_op op_mod (pe_callTy call_int1 (by rfl) T.z_int (by decide +kernel) (pa_cons (pe_callB (cr_sumK K rfl rfl) (by rfl) T.z_sum (by decide +kernel) (pa_cons (pv 4) pa_nil)) pa_nil)) pe_int) pa_nil)))))))))), ?_⟩
    refine ⟨_, rfl, _, rfl, a, _, rfl, hS, fun p hp => ?_⟩
    rw [cut63 hlen]
    refine ⟨p, rfl, ⟨_, SqL.lt upd_same⟩, fun D hD => ?_⟩
    refine lcI (K := K) (ns := ns) (fun _ => true) (fun n => n) (SqL.lt upd_same) hD lim (fun n H2 Q1 Q2 _ h1 _ => ⟨rfl, _, rfl, .inl ⟨n, rfl, h1 rfl⟩⟩) ?_
    have el : List.map (fun n => n) (List.filter (fun _ => true) ns) = ns := by simp
    rw [el]
    have s1 : Same H (upd (upd H p (.lst (ns.map V.int))) D (.lst (ns.map V.int))) := (Same.new hp).trans (Same.new hD)
    have hD1 := upd_same (H := upd H p (.lst (ns.map V.int))) (a := D) (o := .lst (ns.map V.int))
    generalize upd (upd H p (.lst (ns.map V.int))) D (.lst (ns.map V.int)) = H1 at s1 hD1 ⊢
    -- greats
    refine ⟨_, rfl, D, rfl, ⟨_, SqL.lt hD1⟩, fun G hG => ?_⟩
    refine lcI (K := K) (ns := ns) (fun n => decide ((10 : Int) ^ 18 ≤ (if n < 0 then -n else n))) (fun n => if n < 0 then -n else n) (SqL.lt hD1) hG lim (fun n H2 Q1 Q2 _ h1 h2 => ⟨rfl, ?_⟩) ?_
    · refine ⟨_, rfl, n, rfl, _, _, rfl, rfl, e18, _, _, rfl, rfl, _, rfl, ?_⟩
      by_cases c : (10 : Int) ^ 18 ≤ (if n < 0 then -n else n)
      · rw [show (10 : Int) ^ (18 : Int).toNat = 10 ^ 18 from rfl, decide_eq_true c]
        exact iteT ⟨_, rfl, n, rfl, h1 (decide_eq_true c)⟩
      · rw [show (10 : Int) ^ (18 : Int).toNat = 10 ^ 18 from rfl, decide_eq_false c]
        exact iteF (h2 (decide_eq_false c))
    generalize List.map (fun n => if n < 0 then -n else n) (List.filter (fun n => decide ((10 : Int) ^ 18 ≤ (if n < 0 then -n else n))) ns) = gs
    have s2 : Same H (upd H1 G (.lst (gs.map V.int))) := s1.trans (Same.new hG)
    have hD2 : upd H1 G (.lst (gs.map V.int)) D = some (.lst (ns.map V.int)) := Same.new hG _ _ hD1
    have hG2 := upd_same (H := H1) (a := G) (o := .lst (gs.map V.int))
    generalize upd H1 G (.lst (gs.map V.int)) = H2 at s2 hD2 hG2 ⊢
    -- smalls
    refine ⟨_, rfl, D, rfl, ⟨_, SqL.lt hD2⟩, fun S hS2 => ?_⟩
    refine lcI (K := K) (ns := ns) (fun n => decide ((if n < 0 then -n else n) < (10 : Int) ^ 18)) (fun n => n % 1000000007) (SqL.lt hD2) hS2 lim (fun n H3 Q1 Q2 _ h1 h2 => ⟨rfl, ?_⟩) ?_
    · refine ⟨_, rfl, n, rfl, _, _, rfl, rfl, e18, _, _, rfl, rfl, _, rfl, ?_⟩
      by_cases c : (if n < 0 then -n else n) < (10 : Int) ^ 18
      · rw [show (10 : Int) ^ (18 : Int).toNat = 10 ^ 18 from rfl, decide_eq_true c]
        exact iteT ⟨_, rfl, .inl ⟨n, rfl, _, _, rfl, rfl, (by show (0 : Int) < 1000000007; decide), h1 (decide_eq_true c)⟩⟩
      · rw [show (10 : Int) ^ (18 : Int).toNat = 10 ^ 18 from rfl, decide_eq_false c]
        exact iteF (h2 (decide_eq_false c))
    have lss : (List.map (fun n => n % 1000000007) (List.filter (fun n => decide ((if n < 0 then -n else n) < (10 : Int) ^ 18)) ns)).length ≤ 63 := by
      rw [List.length_map]
      exact Nat.le_trans (List.length_filter_le _ _) hlen
    generalize List.map (fun n => n % 1000000007) (List.filter (fun n => decide ((if n < 0 then -n else n) < (10 : Int) ^ 18)) ns) = ss at lss ⊢
    refine ⟨_, rfl, D, _, rfl, .inl (SqL.lt (Same.new hS2 _ _ hD2)), _, _, rfl, rfl, by show 1 ≤ sizeLine; decide, fun L hL => ?_⟩
    dsimp only
    have em : ss.map V.int ++ [V.int ((List.map V.int ns).length + 1)] = (ss ++ [(((List.map V.int ns).length : Nat) : Int) + 1]).map V.int := by simp
    refine ⟨S, L, _, _, rfl, rfl, Same.new hL _ _ upd_same, upd_same, ?_, fun M hM => ?_⟩
    · rw [List.length_map]
      show ss.length + 1 ≤ sizeLine
      exact Nat.le_trans (Nat.succ_le_succ lss) (by decide)
    have s3 := ((Same.new hS2).trans (Same.new hL)).trans (Same.new (o := .lst (ss.map V.int ++ [V.int ((List.map V.int ns).length + 1)])) hM)
    have nGM : G ≠ M := ne_of_none (((Same.new hS2).trans (Same.new hL)) _ _ hG2) hM
    rw [em] at s3 ⊢
    have hM1 := upd_same (H := upd (upd H2 S (.lst (ss.map V.int))) L (.lst [V.int ((List.map V.int ns).length + 1)])) (a := M) (o := .lst ((ss ++ [(((List.map V.int ns).length : Nat) : Int) + 1]).map V.int))
    refine ⟨_, rfl, _, rfl, _, rfl, M, _, rfl, SqL.lt hM1, .inl ⟨_, rfl, _, _, rfl, rfl, (by show (0 : Int) < 999983; decide), (by show 4 ≤ sizeLine; decide), fun R hR => ?_⟩⟩
    have s4 := Same.new (o := .lst [.ref G, .ref M, .int 0, .int ((ss ++ [(((List.map V.int ns).length : Nat) : Int) + 1]).sum % 999983)]) hR
    refine k ⟨R, G, M⟩ _ ⟨nGM, gs, ss ++ [(((List.map V.int ns).length : Nat) : Int) + 1], 0, _, upd_same, s4 _ _ (s3 _ _ hG2), s4 _ _ hM1, by simp⟩ ((s2.trans s3).trans s4) ((s2.trans s3).free hR)
theorem cm_l {i j : Int} (h0 : -(2 ^ 64) < i) (h1 : i < 2 ^ 64) : CMul i j := .inl ⟨h0, h1⟩
theorem cm_r {i j : Int} (h0 : -(2 ^ 64) < j) (h1 : j < 2 ^ 64) : CMul i j := .inr ⟨h0, h1⟩
theorem div_small {i j : Int} (h : 0 < j) (hj : small j) : CDivW i j := wide_div (b := 200) h hj (by decide) (by decide)
theorem small_of {n : Int} (h : n.natAbs < 2 ^ 64) : small n := Nat.lt_of_lt_of_le h (Nat.pow_le_pow_right (by decide) (by decide))
theorem ix0 (x : Int) (l : List Int) : ixN (List.map V.int (x :: l)).length 0 = some 0 := by
  unfold ixN
  rw [if_pos (by decide), if_pos (by simp <;> omega)]
  rfl

theorem sc_law_draw : FnScope ["pot", "many", "turn", "number", "seed"] ["pot", "many"] (defScope s_law_draw) := ⟨rfl, rfl, rfl, by decide +kernel, rfl, by decide +kernel, by decide +kernel⟩
theorem ok_law_draw (T : Txt K mg A) : FnOk P w K mg base CX0 1 A.f_law_draw A.d_law_draw ["pot", "many"] (spDraw) := by
  refine T.F_law_draw.ok sc_law_draw (fun vs H Q E h => ?_) (fun cdv A1 outer s H vs Q E hr h => ?_)
  · obtain ⟨p, many, rfl, _⟩ := h
    rfl
  · obtain ⟨p, many, rfl, ⟨ngs, gs, ss, t, n, hA, hG, hS, hne⟩, hm, hsm, k⟩ := h
    have nag : p.a ≠ p.g := fun z => by
      rw [z, hG] at hA
      cases gs <;> simp at hA
    have nas : p.a ≠ p.s := fun z => by
      rw [z, hS] at hA
      cases ss <;> simp at hA
    refine ⟨_, (pss_cons (ps_set (i := 2) sc_law_draw.nd rfl (Or.inl rfl) (pe_ix (ix_listK K rfl) (pv 0) pe_int (fun _ _ => rfl)))
      (pss_cons (ps_asg (pe_op op_add (pv 2) pe_int) (pg_sub (pv 0) pe_int set_list))
      (pss_cons (ps_if (pt_cmpR op_gt (pe_callB (call_lenK K rfl) (by rfl) T.z_len (by decide +kernel) (pa_cons (pe_ix (ix_listK K rfl) (pv 0) pe_int (fun _ _ => rfl)) pa_nil)) pe_int (nomark _)) (pss_cons (ps_set (i := 3) sc_law_draw.nd rfl (Or.inl rfl) (pe_ix (ix_listK K rfl) (pe_ix (ix_listK K rfl) (pv 0) pe_int (fun _ _ => rfl)) pe_int (fun _ _ => rfl)))
      (pss_cons (ps_asg (pe_op op_fdivW (pv 3) (pv 1)) (pg_sub (pe_ix (ix_listK K rfl) (pv 0) pe_int (fun _ _ => rfl)) pe_int set_list))
      (pss_cons (ps_if (pt_cmpR op_lt (pv 3) (pv 1) (nomark _)) (pss_one (ps_expr (pe_bm PySem.F.plainAttrs_list PySem.F.slot_list_pop PySem.F.type_list_pop mt_popAt (pe_ix (ix_listK K rfl) (pv 0) pe_int (fun _ _ => rfl)) (pa_cons pe_int pa_nil)))) pss_nil)
      (pss_one (ps_ret (pe_op op_mod (pe_callTy call_int1 (by rfl) T.z_int (by decide +kernel) (pa_cons (pv 3) pa_nil)) (pv 1))))))) pss_nil)
      (pss_cons (ps_set (i := 4) sc_law_draw.nd rfl (Or.inl rfl) (pe_op op_add (pe_op op_add (pe_op op_mul (pe_ix (ix_listK K rfl) (pe_ix (ix_listK K rfl) (pv 0) pe_int (fun _ _ => rfl)) (pe_op op_mod (pe_callTy call_int1 (by rfl) T.z_int (by decide +kernel) (pa_cons (pv 2) pa_nil)) (pe_callB (call_lenK K rfl) (by rfl) T.z_len (by decide +kernel) (pa_cons (pe_ix (ix_listK K rfl) (pv 0) pe_int (fun _ _ => rfl)) pa_nil))) (fun _ _ => rfl)) pe_int) (pe_op op_mul pe_int (pv 2))) (pe_op op_mul (pe_ix (ix_listK K rfl) (pv 0) pe_int (fun _ _ => rfl)) pe_int)))
      (pss_cons (ps_set (i := 3) sc_law_draw.nd rfl (Or.inl rfl) (pe_op op_mod (pe_callTy call_int1 (by rfl) T.z_int (by decide +kernel) (pa_cons (pe_op op_add (pe_op op_mul (pv 4) pe_int) pe_int) pa_nil)) pe_int))
      (pss_cons (ps_set (i := 3) sc_law_draw.nd rfl (Or.inl rfl) (pe_op op_mod (pe_callTy call_int1 (by rfl) T.z_int (by decide +kernel) (pa_cons (pe_op op_mul (pv 3) (pe_op op_add (pe_op op_fdivW (pv 3) pe_int) pe_int)) pa_nil)) pe_int))
      (pss_cons (ps_set (i := 3) sc_law_draw.nd rfl (Or.inl rfl) (pe_op op_mod (pe_callTy call_int1 (by rfl) T.z_int (by decide +kernel) (pa_cons (pe_op op_add (pe_op op_mul (pv 3) (pe_op op_add (pe_op op_fdivW (pv 3) pe_int) pe_int)) (pv 2)) pa_nil)) pe_int))
      (pss_one (ps_ret (pe_op op_mod (pe_callTy call_int1 (by rfl) T.z_int (by decide +kernel) (pa_cons (pe_op op_fdivW (pv 3) pe_int) pa_nil)) (pv 1))))))))))), ?_⟩
    refine ⟨_, rfl, p.a, _, 2, .int t, rfl, rfl, SqL.lt hA, rfl, ?_⟩
    dsimp only
    refine ⟨_, rfl, _, _, rfl, rfl, _, rfl, p.a, _, 2, 2, rfl, rfl, hA, rfl, ?_⟩
    dsimp only
    have hA1 : upd H p.a (.lst (([.ref p.g, .ref p.s, .int t, .int n] : List V).set 2 (.int (t + 1)))) p.a = some (.lst [.ref p.g, .ref p.s, .int (t + 1), .int n]) := upd_same
    have b1 : But p.l H (upd H p.a (.lst (([.ref p.g, .ref p.s, .int t, .int n] : List V).set 2 (.int (t + 1))))) := But.at (by simp [Pt.l])
    have hG1 : upd H p.a (.lst (([.ref p.g, .ref p.s, .int t, .int n] : List V).set 2 (.int (t + 1)))) p.g = some (.lst (gs.map V.int)) := by rw [upd_ne nag.symm]; exact hG
    have hS1 : upd H p.a (.lst (([.ref p.g, .ref p.s, .int t, .int n] : List V).set 2 (.int (t + 1)))) p.s = some (.lst (ss.map V.int)) := by rw [upd_ne nas.symm]; exact hS
    generalize upd H p.a (.lst (([.ref p.g, .ref p.s, .int t, .int n] : List V).set 2 (.int (t + 1)))) = H1 at hA1 b1 hG1 hS1 ⊢
    refine ⟨_, rfl, p.a, _, 0, .ref p.g, rfl, rfl, SqL.lt hA1, rfl, p.g, _, rfl, .inl (SqL.lt hG1), _, _, rfl, rfl, _, rfl, ?_⟩
    refine ite2 (fun c => ?_) (fun c => ?_)
    · cases gs with
      | nil => simp at c
      | cons x gs =>
        refine ⟨_, rfl, p.a, _, 0, .ref p.g, rfl, rfl, SqL.lt hA1, rfl, p.g, _, 0, .int x, rfl, rfl, SqL.lt hG1, at_ge (by decide) rfl, ?_⟩
        dsimp only
        refine ⟨_, rfl, _, rfl, _, _, rfl, rfl, div_small hm hsm, _, rfl, p.a, _, 0, .ref p.g, rfl, rfl, SqL.lt hA1, rfl, p.g, _, 0, 0, rfl, rfl, hG1, ix0 _ _, ?_⟩
        dsimp only
        have hA2 : upd H1 p.g (.lst ((List.map V.int (x :: gs)).set 0 (.int (x / many)))) p.a = some (.lst [.ref p.g, .ref p.s, .int (t + 1), .int n]) := by rw [upd_ne nag]; exact hA1
        have hG2 : upd H1 p.g (.lst ((List.map V.int (x :: gs)).set 0 (.int (x / many)))) p.g = some (.lst ((x / many :: gs).map V.int)) := upd_same
        have hS2 : upd H1 p.g (.lst ((List.map V.int (x :: gs)).set 0 (.int (x / many)))) p.s = some (.lst (ss.map V.int)) := by rw [upd_ne ngs.symm]; exact hS1
        have b2 : But p.l H (upd H1 p.g (.lst ((List.map V.int (x :: gs)).set 0 (.int (x / many))))) := b1.trans (But.at (by simp [Pt.l]))
        generalize upd H1 p.g (.lst ((List.map V.int (x :: gs)).set 0 (.int (x / many)))) = H2 at hA2 b2 hG2 hS2 ⊢
        have r0 := Int.emod_nonneg x (Int.ne_of_gt hm)
        have r1 := Int.emod_lt_of_pos x hm
        refine ⟨_, rfl, _, rfl, _, _, rfl, rfl, _, rfl, ?_⟩
        refine ite2 (fun c => ?_) (fun c => ?_)
        · refine ⟨_, rfl, p.a, _, 0, .ref p.g, rfl, rfl, SqL.lt hA2, rfl, .inl ⟨rfl, _, SqL.lt hG2⟩, p.g, _, 0, 0, .int (x / many), rfl, rfl, hG2, by decide, by decide, (ixN_seq (ix0 _ _)).1, rfl, ?_⟩
          dsimp only
          have hA3 : upd H2 p.g (.lst ((List.map V.int (x / many :: gs)).eraseIdx 0)) p.a = some (.lst [.ref p.g, .ref p.s, .int (t + 1), .int n]) := by rw [upd_ne nag]; exact hA2
          have hG3 : upd H2 p.g (.lst ((List.map V.int (x / many :: gs)).eraseIdx 0)) p.g = some (.lst (gs.map V.int)) := upd_same
          have hS3 : upd H2 p.g (.lst ((List.map V.int (x / many :: gs)).eraseIdx 0)) p.s = some (.lst (ss.map V.int)) := by rw [upd_ne ngs.symm]; exact hS2
          have b3 : But p.l H (upd H2 p.g (.lst ((List.map V.int (x / many :: gs)).eraseIdx 0))) := b2.trans (But.at (by simp [Pt.l]))
          exact ⟨_, rfl, .inl ⟨_, rfl, _, rfl, _, _, rfl, rfl, hm, k _ _ r0 r1 ⟨ngs, gs, ss, t + 1, n, hA3, hG3, hS3, hne⟩ b3⟩⟩
        · exact ⟨_, rfl, .inl ⟨_, rfl, _, rfl, _, _, rfl, rfl, hm, k _ _ r0 r1 ⟨ngs, x / many :: gs, ss, t + 1, n, hA2, hG2, hS2, hne⟩ b2⟩⟩
    · have lp : (0 : Int) < ((ss.map V.int).length : Int) := by
        cases ss with
        | nil => exact absurd rfl hne
        | cons y ys => simp <;> omega
      have i0 := Int.emod_nonneg t (Int.ne_of_gt lp)
      have i1 := Int.emod_lt_of_pos t lp
      obtain ⟨y, hy⟩ : ∃ y, ss[(t % ((ss.map V.int).length : Int)).toNat]? = some y := by
        have z : (t % ((ss.map V.int).length : Int)).toNat < ss.length := by rw [List.length_map] at i0 i1 ⊢; omega
        exact ⟨_, List.getElem?_eq_getElem z⟩
      refine ⟨_, rfl, p.a, _, 1, .ref p.s, rfl, rfl, SqL.lt hA1, rfl, _, rfl, .inl ⟨_, rfl, _, rfl, p.a, _, 1, .ref p.s, rfl, rfl, SqL.lt hA1, rfl, p.s, _, rfl, .inl (SqL.lt hS1), _, _, rfl, rfl, lp, ?_⟩⟩
      dsimp only
      refine ⟨p.s, _, _, .int y, rfl, rfl, SqL.lt hS1, at_ge i0 (by rw [List.getElem?_map, hy]; rfl), ?_⟩
      dsimp only
      refine ⟨_, _, rfl, rfl, cm_r (by decide) (by decide), _, rfl, _, _, rfl, rfl, cm_l (by decide) (by decide), _, _, rfl, rfl, ?_⟩
      dsimp only
      refine ⟨_, rfl, p.a, _, 3, .int n, rfl, rfl, SqL.lt hA1, rfl, _, _, rfl, rfl, cm_r (by decide) (by decide), _, _, rfl, rfl, ?_⟩
      dsimp only
      generalize y * 7919 + 104729 * t + n * 31 = seed
      refine ⟨_, rfl, _, _, rfl, rfl, cm_r (by decide) (by decide), _, _, rfl, rfl, .inl ⟨_, rfl, _, _, rfl, rfl, (by show (0 : Int) < 2147483647; decide), ?_⟩⟩
      dsimp only
      have a0 := Int.emod_nonneg (seed * 48271 + 11) (show (2147483647 : Int) ≠ 0 by decide)
      have a1 := Int.emod_lt_of_pos (seed * 48271 + 11) (show (0 : Int) < 2147483647 by decide)
      generalize (seed * 48271 + 11) % 2147483647 = n1 at a0 a1 ⊢
      refine ⟨_, rfl, _, rfl, _, _, rfl, rfl, div_small (by decide) (small_of (by decide)), _, _, rfl, rfl, _, _, rfl, rfl, cm_l (by omega) (by omega), .inl ⟨_, rfl, _, _, rfl, rfl, (by show (0 : Int) < 2147483629; decide), ?_⟩⟩
      dsimp only
      have d0 := Int.emod_nonneg (n1 * (n1 / 1009 + 69621)) (show (2147483629 : Int) ≠ 0 by decide)
      have d1 := Int.emod_lt_of_pos (n1 * (n1 / 1009 + 69621)) (show (0 : Int) < 2147483629 by decide)
      generalize (n1 * (n1 / 1009 + 69621)) % 2147483629 = n2 at d0 d1 ⊢
      refine ⟨_, rfl, _, rfl, _, _, rfl, rfl, div_small (by decide) (small_of (by decide)), _, _, rfl, rfl, _, _, rfl, rfl, cm_l (by omega) (by omega), _, rfl, _, _, rfl, rfl, .inl ⟨_, rfl, _, _, rfl, rfl, (by show (0 : Int) < 2147483399; decide), ?_⟩⟩
      dsimp only
      generalize (n2 * (n2 / 2003 + 40692) + t) % 2147483399 = n3
      refine ⟨_, rfl, _, _, rfl, rfl, div_small (by decide) (small_of (by decide)), .inl ⟨_, rfl, _, rfl, _, _, rfl, rfl, hm, ?_⟩⟩
      exact k _ _ (Int.emod_nonneg _ (Int.ne_of_gt hm)) (Int.emod_lt_of_pos _ hm) ⟨ngs, gs, ss, t + 1, n, hA1, hG1, hS1, hne⟩ b1
/-- tries and points of an event, right ones -/
def spCountsR : Sp := fun vs H Q _ => ∃ t p : Int, vs = [.int t, .int p] ∧ 1 ≤ t ∧ t ≤ 40 ∧ -400 ≤ p ∧ p ≤ 400 ∧ Q (.bl true) H
def spEventR (K : PySem.W.Frag) : Sp := fun vs H Q _ => ∃ (v : V) (n : Int) (e : List Int), vs = [v, .int n] ∧ IT K H v e ∧ okEv n e ∧ Q (.bl true) H
def spInitR (K : PySem.W.Frag) (C : Addr) : Sp := fun vs H Q _ => ∃ (m dx : Addr) (n : Int) (w : V) (evs : List (List Int)), vs = [.ref m, .int n, w] ∧ H m = some (.ins C dx []) ∧ 1 ≤ n ∧ n ≤ 12 ∧ ITs K H w evs ∧ evs.length ≤ 30 ∧ (∀ e ∈ evs, okEv n e) ∧
  ∀ H', H' m = some (.ins C dx (mf n w)) → (∀ b o, b ≠ m → H b = some o → H' b = some o) → Q .non H'
theorem dec_t {a b c : Int} (h1 : a ≤ b) (h2 : b ≤ c) : decide (a ≤ b ∧ b ≤ c) = true := decide_eq_true ⟨h1, h2⟩

theorem sc_are_counts : FnScope ["tries", "points"] ["tries", "points"] (defScope s_are_counts) := ⟨rfl, rfl, rfl, by decide +kernel, rfl, by decide +kernel, by decide +kernel⟩
theorem ok_are_counts (T : Txt K mg A) : FnOk P w K mg base CX0 3 A.f_are_counts A.d_are_counts ["tries", "points"] (spCountsR) := by
  refine T.F_are_counts.ok sc_are_counts (fun vs H Q E h => ?_) (fun cdv A1 outer s H vs Q E hr h => ?_)
  · obtain ⟨t, p, rfl, _⟩ := h
    rfl
  · obtain ⟨t, p, rfl, h1, h2, h3, h4, q⟩ := h
    refine ⟨_, (pss_one (ps_ret (pe_and (pe_call (ok_is_between T) (hr.mono (by decide)) rfl T.m_is_between T.F_is_between.kp T.B_is_between .nil pass0 (pa_cons (pv 0) (pa_cons pe_int (pa_cons (pe_glob (v := .int 40) rfl T.c_MOST_TRIES ⟨_, rfl⟩) pa_nil)))) (pe_one (pe_call (ok_is_between T) (hr.mono (by decide)) rfl T.m_is_between T.F_is_between.kp T.B_is_between .nil pass0 (pa_cons (pv 1) (pa_cons (pe_un un_neg (pe_glob (v := .int 400) rfl T.c_MOST_POINTS ⟨_, rfl⟩)) (pa_cons (pe_glob (v := .int 400) rfl T.c_MOST_POINTS ⟨_, rfl⟩) pa_nil)))))))), ?_⟩
    refine ⟨_, rfl, t, 1, 40, rfl, _, rfl, ?_⟩
    rw [dec_t h1 h2]
    refine iteT ⟨_, rfl, _, rfl, p, -400, 400, rfl, ?_⟩
    rw [dec_t h3 h4]
    exact q
theorem sc_is_event : FnScope ["thing", "standings", "before", "after", "tries", "points", "last"] ["thing", "standings"] (defScope s_is_event) := ⟨rfl, rfl, rfl, by decide +kernel, rfl, by decide +kernel, by decide +kernel⟩
theorem ok_is_event (T : Txt K mg A) : FnOk P w K mg base CX0 4 A.f_is_event A.d_is_event ["thing", "standings"] (spEventR K) := by
  refine T.F_is_event.ok sc_is_event (fun vs H Q E h => ?_) (fun cdv A1 outer s H vs Q E hr h => ?_)
  · obtain ⟨v, n, e, rfl, _⟩ := h
    rfl
  · obtain ⟨v, n, e, rfl, hv, ⟨b, a, t, p, rfl, b0, b1, a0, a1, t0, t1, p0, p1⟩, q⟩ := h
    obtain ⟨x, rfl, hx⟩ := id hv
    refine ⟨_, (pss_cons (ps_if (PW.pt (pw_or (pt_not (pt_val (pe_callB (call_isK K rfl) (by rfl) T.z_isinstance (by decide +kernel) (pa_cons (pv 0) (pa_cons (pe_bltn (v := .ty "tuple") (u := .type "tuple") rfl T.z_tuple (by decide +kernel) rfl) pa_nil))))) (pw_or1 (pt_cmpR op_ne (pe_callB (call_lenK K rfl) (by rfl) T.z_len (by decide +kernel) (pa_cons (pv 0) pa_nil)) pe_int (nomark _))))) (pss_one (ps_ret pe_bl)) pss_nil)
      (pss_cons (ps_asg (pv 0) (pg_tupK K rfl 4 rfl (pgs_cons (pg_name (i := 2) sc_is_event.nd rfl (Or.inl rfl)) (pgs_cons (pg_name (i := 3) sc_is_event.nd rfl (Or.inl rfl)) (pgs_cons (pg_name (i := 4) sc_is_event.nd rfl (Or.inl rfl)) (pgs_cons (pg_name (i := 5) sc_is_event.nd rfl (Or.inl rfl)) pgs_nil)))) rfl rfl))
      (pss_cons (ps_set (i := 6) sc_is_event.nd rfl (Or.inl rfl) (pe_op op_sub (pv 1) pe_int))
      (pss_one (ps_ret (pe_and (pe_call (ok_is_between T) (hr.mono (by decide)) rfl T.m_is_between T.F_is_between.kp T.B_is_between .nil pass0 (pa_cons (pv 2) (pa_cons pe_int (pa_cons (pv 6) pa_nil)))) (pe_and (pe_call (ok_is_between T) (hr.mono (by decide)) rfl T.m_is_between T.F_is_between.kp T.B_is_between .nil pass0 (pa_cons (pv 3) (pa_cons pe_int (pa_cons (pv 6) pa_nil)))) (pe_one (pe_call (ok_are_counts T) (hr.mono (by decide)) rfl T.m_are_counts T.F_are_counts.kp T.B_are_counts .nil pass0 (pa_cons (pv 4) (pa_cons (pv 5) pa_nil))))))))))), ?_⟩
    refine ⟨_, rfl, isT rfl hx ⟨true, rfl, iteF ⟨_, rfl, lenI hv fun ys e => ?_⟩⟩⟩
    rw [e]
    refine ⟨rfl, _, rfl, iteF ?_⟩
    refine ⟨_, rfl, x, _, rfl, hx, rfl, .int b, _, rfl, .int a, _, rfl, .int t, _, rfl, .int p, _, rfl, rfl, ?_⟩
    dsimp only
    refine ⟨_, rfl, _, _, rfl, rfl, ?_⟩
    refine ⟨_, rfl, _, rfl, b, 0, n - 1, rfl, _, rfl, ?_⟩
    rw [dec_t b0 (by omega)]
    refine iteT ⟨_, rfl, _, rfl, a, 0, n - 1, rfl, _, rfl, ?_⟩
    rw [dec_t a0 (by omega)]
    exact iteT ⟨_, rfl, _, rfl, t, p, rfl, t0, t1, p0, p1, q⟩
theorem sc_Machine___init__ : FnScope ["self", "standings", "events", "number", "thing"] ["self", "standings", "events"] (defScope s_Machine___init__) := ⟨rfl, rfl, rfl, by decide +kernel, rfl, by decide +kernel, by decide +kernel⟩
theorem ok_Machine___init__ (T : Txt K mg A) : FnOk P w K mg base CX0 5 A.f_Machine___init__ A.d_Machine___init__ ["self", "standings", "events"] (spInitR K A.C_Machine) := by
  refine T.F_Machine___init__.ok sc_Machine___init__ (fun vs H Q E h => ?_) (fun cdv A1 outer s H vs Q E hr h => ?_)
  · obtain ⟨m, dx, n, w, evs, rfl, _⟩ := h
    rfl
  · obtain ⟨m, dx, n, w, evs, rfl, hm, n0, n1, hw, l30, ok, k⟩ := h
    obtain ⟨x, xs, rfl, hx, al⟩ := id hw
    refine ⟨_, (pss_cons (ps_if (pt_not (pt_val (pe_call (ok_is_between T) (hr.mono (by decide)) rfl T.m_is_between T.F_is_between.kp T.B_is_between .nil pass0 (pa_cons (pv 1) (pa_cons pe_int (pa_cons (pe_glob (v := .int 12) rfl T.c_MOST_STANDINGS ⟨_, rfl⟩) pa_nil)))))) (pss_one ps_never) pss_nil)
      (pss_cons (ps_if (PW.pt (pw_or (pt_not (pt_val (pe_callB (call_isK K rfl) (by rfl) T.z_isinstance (by decide +kernel) (pa_cons (pv 2) (pa_cons (pe_bltn (v := .ty "tuple") (u := .type "tuple") rfl T.z_tuple (by decide +kernel) rfl) pa_nil))))) (pw_or1 (pt_cmpR op_gt (pe_callB (call_lenK K rfl) (by rfl) T.z_len (by decide +kernel) (pa_cons (pv 2) pa_nil)) (pe_glob (v := .int 30) rfl T.c_MOST_EVENTS ⟨_, rfl⟩) (nomark _))))) (pss_one ps_never) pss_nil)
      (pss_cons (ps_for PassesOwn.never rfl (pi_enumT rfl T.z_enumerate (pa_cons (pv 2) pa_nil)) (pg_tupK K rfl 2 rfl (pgs_cons (pg_name (i := 3) sc_Machine___init__.nd rfl (Or.inl rfl)) (pgs_cons (pg_name (i := 4) sc_Machine___init__.nd rfl (Or.inl rfl)) pgs_nil)) rfl rfl)
        (pss_one (ps_if (pt_not (pt_val (pe_call (ok_is_event T) (hr.mono (by decide)) rfl T.m_is_event T.F_is_event.kp T.B_is_event .nil pass0 (pa_cons (pv 4) (pa_cons (pv 1) pa_nil))))) (pss_one ps_never) pss_nil)))
      (pss_cons (ps_fld (pv 0) (pv 1) rfl)
      (pss_one (ps_fld (pv 0) (pv 2) rfl)))))), ?_⟩
    refine ⟨_, rfl, n, 1, 12, rfl, _, rfl, ?_⟩
    rw [dec_t n0 n1]
    refine iteF ⟨_, rfl, isT rfl hx ⟨true, rfl, iteF ⟨_, rfl, lenT hw fun ys e => ⟨_, _, rfl, rfl, _, rfl, ?_⟩⟩⟩⟩
    rw [e]
    rw [decide_eq_false (by omega)]
    refine iteF ⟨_, rfl, x, xs, rfl, hx, ?_⟩
    refine for_enT (K := K) (a := x) (xs := xs) (fun i σ H' => (∃ u v, σ = [some (.ref m), some (.int n), some (.ref x), u, v]) ∧ Same H H') ⟨⟨_, _, rfl⟩, Same.refl _⟩ (fun i σ H' _ q => SqT.keep (Keep.of q.2) hx) ?_ ?_
    · rintro i y σ H1 T1 hi ⟨⟨u, v, rfl⟩, s1⟩ hT
      have s2 := s1.trans (Same.new (o := .tup [.int (i : Nat), y]) hT)
      obtain ⟨e, he, hy⟩ := al.getL hi
      refine ⟨T1, _, rfl, SqT.lt upd_same, rfl, .int (i : Nat), _, rfl, y, _, rfl, rfl, ?_⟩
      dsimp only
      refine ⟨_, rfl, _, rfl, y, n, e, rfl, hy.keep (Keep.of s2), ok e (List.mem_of_getElem? he), true, rfl, iteF ?_⟩
      exact ⟨⟨_, _, rfl⟩, s2⟩
    · rintro σ H1 ⟨⟨u, v, rfl⟩, s1⟩
      refine ⟨_, rfl, _, rfl, m, A.C_Machine, dx, [], rfl, s1 _ _ hm, T.cl_Machine, T.n_standings, (by decide), ?_⟩
      dsimp only
      refine ⟨_, rfl, _, rfl, m, A.C_Machine, dx, _, rfl, upd_same, T.cl_Machine, T.n_events, (by show 1 < 1000; decide), ?_⟩
      dsimp only
      refine k _ upd_same (fun b o nb hb => ?_)
      rw [upd_ne nb, upd_ne nb]
      exact s1 _ _ hb
def spHas (K : PySem.W.Frag) (C : Addr) : Sp := fun vs H Q _ => ∃ (m : V) (k n : Int) (evs : List (List Int)), vs = [m, .int k] ∧ MachAt K C H m n evs ∧ Q (.bl (decide (0 ≤ k ∧ k ≤ (evs.length : Int) - 1))) H
def spRun (K : PySem.W.Frag) (C : Addr) : Sp := fun vs H Q _ => ∃ (m v : V) (n : Int) (evs : List (List Int)) (run : List Int), vs = [m, v] ∧ MachAt K C H m n evs ∧ (∀ e ∈ evs, Four e) ∧ IT K H v run ∧ Q (.bl (walkTo evs 0 run).isSome) H
def spLiftOf (K : PySem.W.Frag) : Sp := fun vs H Q _ => ∃ (x y : V) (a b t p : Int), vs = [x, y] ∧ IT K H x [a, b] ∧ IT K H y [t, p] ∧ -(2 ^ 64) < t ∧ t < 2 ^ 64 ∧ -(2 ^ 64) < p ∧ p < 2 ^ 64 ∧ Q (.int (b * p - a * t)) H
def spPairR (K : PySem.W.Frag) : Sp := fun vs H Q _ => ∃ (x : V) (a b : Int), vs = [x] ∧ IT K H x [a, b] ∧ Q (.bl true) H
def spShareR (K : PySem.W.Frag) : Sp := fun vs H Q _ => ∃ (x : V) (a b : Int), vs = [x] ∧ IT K H x [a, b] ∧ 1 ≤ b ∧ gcdI a b = 1 ∧ Q (.bl true) H
def spShareOf (K : PySem.W.Frag) : Sp := fun vs H Q _ => ∃ (p t : Int), vs = [.int p, .int t] ∧ 0 < t ∧ small t ∧ ∀ (q : Addr) (H' : Hp), Same H H' → H q = none → IT K H' (.ref q) [p / gcdI p t, t / gcdI p t] → Q (.ref q) H'
/-- places of events -/
def spTotal (K : PySem.W.Frag) (C : Addr) : Sp := fun vs H Q _ => ∃ (m v : V) (n : Int) (evs : List (List Int)) (run : List Int), vs = [m, v] ∧ MachAt K C H m n evs ∧ (∀ e ∈ evs, Four e) ∧ IT K H v run ∧ InEv evs run ∧ run.length ≤ 1000 ∧
  ∀ (q : Addr) (H' : Hp), Same H H' → IT K H' (.ref q) [sumT evs run, sumP evs run] → Q (.ref q) H'
theorem gcdI_pos {p t : Int} (h : 0 < t) : 0 < gcdI p t := by
  unfold gcdI
  have : 0 < Nat.gcd p.natAbs t.natAbs := Nat.gcd_pos_of_pos_right _ (by omega)
  omega
theorem gcdI_le {p t : Int} (h : 0 < t) : gcdI p t ≤ t := by
  unfold gcdI
  have := Nat.gcd_le_right p.natAbs (show 0 < t.natAbs by omega)
  omega
theorem small_le {n m : Int} (h0 : 0 ≤ n) (h : n ≤ m) (s : small m) : small n := Nat.lt_of_le_of_lt (by omega) s
theorem ev_at {evs : List (List Int)} {k : Int} (f : ∀ e ∈ evs, Four e) (h0 : 0 ≤ k) (h1 : k < (evs.length : Int)) : ∃ b a t p : Int, evs[k.toNat]? = some [b, a, t, p] ∧ evs.getD k.toNat [] = [b, a, t, p] := by
  have hk : k.toNat < evs.length := by omega
  obtain ⟨b, a, t, p, e⟩ := f _ (List.getElem_mem hk)
  exact ⟨b, a, t, p, by rw [List.getElem?_eq_getElem hk, e], by rw [List.getD_eq_getElem?_getD, List.getElem?_eq_getElem hk, e]; rfl⟩

theorem sc_has_event : FnScope ["machine", "thing"] ["machine", "thing"] (defScope s_has_event) := ⟨rfl, rfl, rfl, by decide +kernel, rfl, by decide +kernel, by decide +kernel⟩
theorem ok_has_event (T : Txt K mg A) : FnOk P w K mg base CX0 3 A.f_has_event A.d_has_event ["machine", "thing"] (spHas K A.C_Machine) := by
  refine T.F_has_event.ok sc_has_event (fun vs H Q E h => ?_) (fun cdv A1 outer s H vs Q E hr h => ?_)
  · obtain ⟨m, k, n, evs, rfl, _⟩ := h
    rfl
  · obtain ⟨m, k, n, evs, rfl, hM, q⟩ := h
    refine ⟨_, (pss_one (ps_ret (pe_call (ok_is_between T) (hr.mono (by decide)) rfl T.m_is_between T.F_is_between.kp T.B_is_between .nil pass0 (pa_cons (pv 1) (pa_cons pe_int (pa_cons (pe_op op_sub (pe_callB (call_lenK K rfl) (by rfl) T.z_len (by decide +kernel) (pa_cons (pe_fldK K rfl (pv 0) (by rfl)) pa_nil)) pe_int) pa_nil)))))), ?_⟩
    refine ⟨_, rfl, _, rfl, fldE hM T.cl_Machine T.n_events fun w hw => lenT hw fun ys e => ?_⟩
    rw [e]
    exact ⟨_, _, rfl, rfl, k, 0, _, rfl, q⟩
theorem sc_is_run : FnScope ["machine", "thing", "standing", "number"] ["machine", "thing"] (defScope s_is_run) := ⟨rfl, rfl, rfl, by decide +kernel, rfl, by decide +kernel, by decide +kernel⟩
theorem ok_is_run (T : Txt K mg A) : FnOk P w K mg base CX0 4 A.f_is_run A.d_is_run ["machine", "thing"] (spRun K A.C_Machine) := by
  refine T.F_is_run.ok sc_is_run (fun vs H Q E h => ?_) (fun cdv A1 outer s H vs Q E hr h => ?_)
  · obtain ⟨m, v, n, evs, run, rfl, _⟩ := h
    rfl
  · obtain ⟨m, v, n, evs, run, rfl, hM, f4, hv, q⟩ := h
    obtain ⟨x, rfl, hx⟩ := id hv
    refine ⟨_, (pss_cons (ps_if (pt_not (pt_val (pe_callB (call_isK K rfl) (by rfl) T.z_isinstance (by decide +kernel) (pa_cons (pv 1) (pa_cons (pe_bltn (v := .ty "tuple") (u := .type "tuple") rfl T.z_tuple (by decide +kernel) rfl) pa_nil))))) (pss_one (ps_ret pe_bl)) pss_nil)
      (pss_cons (ps_set (i := 2) sc_is_run.nd rfl (Or.inl rfl) pe_int)
      (pss_cons (ps_for PassesOwn.never rfl (pi_tup (pv 1)) (pg_name (i := 3) sc_is_run.nd rfl (Or.inl rfl))
        (pss_cons (ps_if (PW.pt (pw_or (pt_not (pt_val (pe_call (ok_has_event T) (hr.mono (by decide)) rfl T.m_has_event T.F_has_event.kp T.B_has_event .nil pass0 (pa_cons (pv 0) (pa_cons (pv 3) pa_nil))))) (pw_or1 (pt_cmpR op_ne (pe_ix (ix_tupK K rfl) (pe_ix (ix_tupK K rfl) (pe_fldK K rfl (pv 0) (by rfl)) (pv 3) (fun _ _ => rfl)) pe_int (fun _ _ => rfl)) (pv 2) (nomark _))))) (pss_one (ps_ret pe_bl)) pss_nil)
      (pss_one (ps_set (i := 2) sc_is_run.nd rfl (Or.inl rfl) (pe_ix (ix_tupK K rfl) (pe_ix (ix_tupK K rfl) (pe_fldK K rfl (pv 0) (by rfl)) (pv 3) (fun _ _ => rfl)) pe_int (fun _ _ => rfl))))))
      (pss_one (ps_ret pe_bl))))), ?_⟩
    refine ⟨_, rfl, isT rfl hx ⟨true, rfl, iteF ?_⟩⟩
    refine ⟨_, rfl, x, rfl, ⟨_, hx⟩, ?_⟩
    refine for_tup (K := K) (a := x) (xs := run.map V.int) (fun i σ H' => H' = H ∧ ∃ s u, σ = [some m, some (.ref x), some (.int s), u] ∧ walkTo evs 0 (run.take i) = some s) ⟨rfl, 0, _, rfl, rfl⟩ (fun i σ H' _ z => by rw [z.1]; exact hx) ?_ ?_
    · rintro i y σ H' hi ⟨rfl, s, u, rfl, hw⟩
      obtain ⟨k, hk, rfl⟩ : ∃ k, run[i]? = some k ∧ y = V.int k := by
        rw [List.getElem?_map] at hi
        cases z : run[i]? with
        | none => rw [z] at hi; cases hi
        | some n => rw [z] at hi; exact ⟨n, rfl, (Option.some.inj hi).symm⟩
      have tk := take_succ hk
      have split : run = run.take i ++ k :: run.drop (i + 1) := by
        have hlt := (List.getElem?_eq_some_iff.mp hk).1
        have z : run.drop i = k :: run.drop (i + 1) := by
          rw [List.drop_eq_getElem_cons hlt, (List.getElem?_eq_some_iff.mp hk).2]
        rw [← z, List.take_append_drop]
      refine ⟨_, rfl, _, rfl, m, k, n, evs, rfl, hM, _, rfl, ?_⟩
      by_cases c : 0 ≤ k ∧ k ≤ (evs.length : Int) - 1
      · rw [decide_eq_true c]
        obtain ⟨b, a, t, p, e1, e2⟩ := ev_at f4 c.1 (by omega)
        refine iteF ⟨_, rfl, fldE hM T.cl_Machine T.n_events fun w hw2 => ⟨_, rfl, ixT hw2 c.1 e1 fun z hz => ixI hz (by decide) rfl ⟨_, rfl, rfl, _, rfl, ?_⟩⟩⟩
        by_cases cb : b = s
        · subst cb
          refine iteNS rfl ⟨_, rfl, fldE hM T.cl_Machine T.n_events fun w hw3 => ⟨_, rfl, ixT hw3 c.1 e1 fun z hz => ixI hz (by decide) rfl ?_⟩⟩
          refine ⟨rfl, a, _, rfl, ?_⟩
          rw [tk, walkTo_app, hw]
          show (if _ then some _ else none) = _
          rw [e2, if_pos ⟨c.1, by omega, rfl⟩]
          rfl
        · have nv : ¬ (V.int b = V.int s) := fun z => cb (by injection z)
          have : (!decide (V.int b = V.int s)) = true := by simp [nv]
          rw [this]
          refine iteT ?_
          have no : walkTo evs 0 run = none := by
            rw [split, walkTo_app, hw]
            show (if _ then _ else none) = _
            rw [if_neg (by rw [e2]; intro z; exact cb z.2.2)]
          rw [no] at q
          exact q
      · rw [decide_eq_false c]
        refine iteT ?_
        have no : walkTo evs 0 run = none := by
          rw [split, walkTo_app, hw]
          show (if _ then _ else none) = _
          rw [if_neg (fun z => c ⟨z.1, by omega⟩)]
        rw [no] at q
        exact q
    · rintro σ H' ⟨rfl, s, u, rfl, hw⟩
      rw [List.length_map, List.take_length] at hw
      rw [hw] at q
      exact q
def spLawLift (K : PySem.W.Frag) : Sp := fun vs H Q _ => ∃ (x y : V) (a b e0 e1 t p : Int), vs = [x, y] ∧ IT K H x [a, b] ∧ IT K H y [e0, e1, t, p] ∧ -(2 ^ 64) < t ∧ t < 2 ^ 64 ∧ -(2 ^ 64) < p ∧ p < 2 ^ 64 ∧ Q (.int (b * p - a * t)) H
def spSign : Sp := fun vs H Q _ => ∃ n : Int, vs = [.int n] ∧ Q (.int ((if decide (0 < n) = true then 1 else 0) - (if decide (n < 0) = true then 1 else 0))) H

theorem sc_law_lift : FnScope ["share", "event"] ["share", "event"] (defScope s_law_lift) := ⟨rfl, rfl, rfl, by decide +kernel, rfl, by decide +kernel, by decide +kernel⟩
theorem ok_law_lift (T : Txt K mg A) : FnOk P w K mg base CX0 1 A.f_law_lift A.d_law_lift ["share", "event"] (spLawLift K) := by
  refine T.F_law_lift.ok sc_law_lift (fun vs H Q E h => ?_) (fun cdv A1 outer s H vs Q E hr h => ?_)
  · obtain ⟨x, y, a, b, e0, e1, t, p, rfl, _⟩ := h
    rfl
  · obtain ⟨x, y, a, b, e0, e1, t, p, rfl, hx, hy, t0, t1, p0, p1, q⟩ := h
    refine ⟨_, (pss_one (ps_ret (pe_op op_sub (pe_op op_mul (pe_ix (ix_tupK K rfl) (pv 0) pe_int (fun _ _ => rfl)) (pe_ix (ix_tupK K rfl) (pv 1) pe_int (fun _ _ => rfl))) (pe_op op_mul (pe_ix (ix_tupK K rfl) (pv 0) pe_int (fun _ _ => rfl)) (pe_ix (ix_tupK K rfl) (pv 1) pe_int (fun _ _ => rfl)))))), ?_⟩
    refine ⟨_, rfl, ixI hx (by decide) rfl ⟨_, rfl, ixI hy (by decide) rfl ⟨_, _, rfl, rfl, cm_r p0 p1, _, rfl, ixI hx (by decide) rfl ⟨_, rfl, ixI hy (by decide) rfl ⟨_, _, rfl, rfl, cm_r t0 t1, _, _, rfl, rfl, q⟩⟩⟩⟩⟩
theorem sc_is_pair : FnScope ["thing"] ["thing"] (defScope s_is_pair) := ⟨rfl, rfl, rfl, by decide +kernel, rfl, by decide +kernel, by decide +kernel⟩
theorem ok_is_pair (T : Txt K mg A) : FnOk P w K mg base CX0 2 A.f_is_pair A.d_is_pair ["thing"] (spPairR K) := by
  refine T.F_is_pair.ok sc_is_pair (fun vs H Q E h => ?_) (fun cdv A1 outer s H vs Q E hr h => ?_)
  · obtain ⟨x, a, b, rfl, _⟩ := h
    rfl
  · obtain ⟨x, a, b, rfl, hx, q⟩ := h
    obtain ⟨r, rfl, hr2⟩ := id hx
    refine ⟨_, (pss_one (ps_ret (pe_and (pe_callB (call_isK K rfl) (by rfl) T.z_isinstance (by decide +kernel) (pa_cons (pv 0) (pa_cons (pe_bltn (v := .ty "tuple") (u := .type "tuple") rfl T.z_tuple (by decide +kernel) rfl) pa_nil))) (pe_and (pe_cmpR op_eq (pe_callB (call_lenK K rfl) (by rfl) T.z_len (by decide +kernel) (pa_cons (pv 0) pa_nil)) pe_int (nomark _)) (pe_and (pe_call (ok_is_whole T) (hr.mono (by decide)) rfl T.m_is_whole T.F_is_whole.kp T.B_is_whole .nil pass0 (pa_cons (pe_ix (ix_tupK K rfl) (pv 0) pe_int (fun _ _ => rfl)) pa_nil)) (pe_one (pe_call (ok_is_whole T) (hr.mono (by decide)) rfl T.m_is_whole T.F_is_whole.kp T.B_is_whole .nil pass0 (pa_cons (pe_ix (ix_tupK K rfl) (pv 0) pe_int (fun _ _ => rfl)) pa_nil)))))))), ?_⟩
    refine ⟨_, rfl, isT rfl hr2 ⟨true, rfl, iteT ⟨_, rfl, lenI hx fun ys e => ?_⟩⟩⟩
    rw [e]
    refine ⟨rfl, true, rfl, iteT ⟨_, rfl, ixI hx (by decide) rfl ⟨a, rfl, true, rfl, iteT ⟨_, rfl, ixI hx (by decide) rfl ⟨b, rfl, q⟩⟩⟩⟩⟩
theorem sc_is_share : FnScope ["thing"] ["thing"] (defScope s_is_share) := ⟨rfl, rfl, rfl, by decide +kernel, rfl, by decide +kernel, by decide +kernel⟩
theorem ok_is_share (T : Txt K mg A) : FnOk P w K mg base CX0 3 A.f_is_share A.d_is_share ["thing"] (spShareR K) := by
  refine T.F_is_share.ok sc_is_share (fun vs H Q E h => ?_) (fun cdv A1 outer s H vs Q E hr h => ?_)
  · obtain ⟨x, a, b, rfl, _⟩ := h
    rfl
  · obtain ⟨x, a, b, rfl, hx, hb, hg, q⟩ := h
    refine ⟨_, (pss_one (ps_ret (pe_and (pe_call (ok_is_pair T) (hr.mono (by decide)) rfl T.m_is_pair T.F_is_pair.kp T.B_is_pair .nil pass0 (pa_cons (pv 0) pa_nil)) (pe_and (pe_cmpR op_ge (pe_ix (ix_tupK K rfl) (pv 0) pe_int (fun _ _ => rfl)) pe_int (nomark _)) (pe_one (pe_cmpR op_eq (pe_callBfun cr_gcd rfl T.m_gcd (pa_cons (pe_ix (ix_tupK K rfl) (pv 0) pe_int (fun _ _ => rfl)) (pa_cons (pe_ix (ix_tupK K rfl) (pv 0) pe_int (fun _ _ => rfl)) pa_nil))) pe_int (nomark _))))))), ?_⟩
    refine ⟨_, rfl, x, a, b, rfl, hx, true, rfl, iteT ⟨_, rfl, ixI hx (by decide) rfl ⟨_, _, rfl, rfl, _, rfl, ?_⟩⟩⟩
    rw [decide_eq_true hb]
    refine iteT ⟨_, rfl, ixI hx (by decide) rfl ⟨_, rfl, ixI hx (by decide) rfl ⟨a, b, rfl, rfl, ?_⟩⟩⟩
    have e : decide (V.int ((Nat.gcd a.natAbs b.natAbs : Nat) : Int) = V.int 1) = true := decide_eq_true (congrArg V.int hg)
    rw [e]
    exact q
theorem sc_share_of : FnScope ["points", "tries", "common"] ["points", "tries"] (defScope s_share_of) := ⟨rfl, rfl, rfl, by decide +kernel, rfl, by decide +kernel, by decide +kernel⟩
theorem ok_share_of (T : Txt K mg A) : FnOk P w K mg base CX0 1 A.f_share_of A.d_share_of ["points", "tries"] (spShareOf K) := by
  refine T.F_share_of.ok sc_share_of (fun vs H Q E h => ?_) (fun cdv A1 outer s H vs Q E hr h => ?_)
  · obtain ⟨p, t, rfl, _⟩ := h
    rfl
  · obtain ⟨p, t, rfl, ht, hs, k⟩ := h
    have g0 := gcdI_pos (p := p) ht
    have gs := small_le (Int.le_of_lt g0) (gcdI_le (p := p) ht) hs
    refine ⟨_, (pss_cons (ps_set (i := 2) sc_share_of.nd rfl (Or.inl rfl) (pe_callBfun cr_gcd rfl T.m_gcd (pa_cons (pv 0) (pa_cons (pv 1) pa_nil))))
      (pss_one (ps_ret (pe_tup (pa_cons (pe_op op_fdivW (pv 0) (pv 2)) (pa_cons (pe_op op_fdivW (pv 1) (pv 2)) pa_nil)))))), ?_⟩
    refine ⟨_, rfl, _, rfl, p, t, rfl, _, rfl, _, rfl, _, _, rfl, rfl, div_small g0 gs, _, rfl, _, rfl, _, _, rfl, rfl, div_small g0 gs, (by show 2 ≤ sizeLine; decide), fun q hq => ?_⟩
    exact k q _ (Same.new hq) hq (IT.new rfl)
def spLift (K : PySem.W.Frag) (C : Addr) : Sp := fun vs H Q _ => ∃ (m x : V) (a b k n e0 e1 t p : Int) (evs : List (List Int)), vs = [m, x, .int k] ∧ MachAt K C H m n evs ∧ (∀ e ∈ evs, Four e) ∧ IT K H x [a, b] ∧ 1 ≤ b ∧ gcdI a b = 1 ∧ 0 ≤ k ∧
  evs[k.toNat]? = some [e0, e1, t, p] ∧ -(2 ^ 64) < t ∧ t < 2 ^ 64 ∧ -(2 ^ 64) < p ∧ p < 2 ^ 64 ∧ ∀ H', Same H H' → Q (.int (b * p - a * t)) H'
def spValue (K : PySem.W.Frag) (C : Addr) : Sp := fun vs H Q _ => ∃ (m x v : V) (a b n : Int) (evs : List (List Int)) (run : List Int), vs = [m, x, v] ∧ MachAt K C H m n evs ∧ (∀ e ∈ evs, Four e) ∧ IT K H x [a, b] ∧ 1 ≤ b ∧ gcdI a b = 1 ∧ IT K H v run ∧
  (walkTo evs 0 run).isSome = true ∧ InEv evs run ∧ run.length ≤ 1000 ∧ -(2 ^ 64) < sumT evs run ∧ sumT evs run < 2 ^ 64 ∧ -(2 ^ 64) < sumP evs run ∧ sumP evs run < 2 ^ 64 ∧ ∀ H', Same H H' → Q (.int (b * sumP evs run - a * sumT evs run)) H'
def spGcd : Sp := fun vs H Q _ => ∃ x y : Int, vs = [.int x, .int y] ∧ small y ∧ Q (.int (gcdI x y)) H
theorem abs_is (i : Int) : (if i < 0 then -i else i) = (i.natAbs : Int) := by split <;> omega
/-- a turn of Euclid's -/
theorem euclid {a b : Nat} (h : b < a) (hb : 0 < b) : a % b < b ∧ 2 * (b * (a % b)) ≤ a * b := by
  have h1 := Nat.mod_lt a hb
  have h2 : a % b + b ≤ a := by
    have e := Nat.div_add_mod a b
    have q : 1 ≤ a / b := (Nat.one_le_div_iff hb).mpr (Nat.le_of_lt h)
    have q2 : b * 1 ≤ b * (a / b) := Nat.mul_le_mul_left b q
    omega
  refine ⟨h1, ?_⟩
  have h3 : 2 * (a % b) ≤ a := by omega
  calc 2 * (b * (a % b)) = b * (2 * (a % b)) := by rw [Nat.mul_left_comm]
    _ ≤ b * a := Nat.mul_le_mul_left b h3
    _ = a * b := Nat.mul_comm b a
/-- what holds behind i turns -/
structure Eu (X Y i a b : Nat) : Prop where
  g : Nat.gcd a b = Nat.gcd X Y
  z : i = 0 → a = X ∧ b = Y
  s : 0 < i → b < a ∧ a * b * 2 ^ (i - 1) ≤ Y * Y
theorem Eu.step {X Y i a b : Nat} (h : Eu X Y i a b) (hb : b ≠ 0) : Eu X Y (i + 1) b (a % b) := by
  have hb' : 0 < b := Nat.pos_of_ne_zero hb
  refine ⟨?_, fun z => absurd z (Nat.succ_ne_zero i), fun _ => ?_⟩
  · rw [← h.g, Nat.gcd_comm a b, Nat.gcd_rec b a, Nat.gcd_comm]
  · refine ⟨Nat.mod_lt a hb', ?_⟩
    rw [Nat.add_sub_cancel]
    by_cases hi : i = 0
    · obtain ⟨rfl, rfl⟩ := h.z hi
      subst hi
      rw [Nat.pow_zero, Nat.mul_one]
      exact Nat.mul_le_mul_left b (Nat.le_of_lt (Nat.mod_lt a hb'))
    · obtain ⟨hlt, hs⟩ := h.s (Nat.pos_of_ne_zero hi)
      obtain ⟨_, h2⟩ := euclid hlt hb'
      obtain ⟨j, rfl⟩ : ∃ j, i = j + 1 := ⟨i - 1, by omega⟩
      rw [Nat.add_sub_cancel] at hs
      calc b * (a % b) * 2 ^ (j + 1) = 2 * (b * (a % b)) * 2 ^ j := by rw [Nat.pow_succ, Nat.mul_comm (2 ^ j) 2, ← Nat.mul_assoc, Nat.mul_comm (b * (a % b)) 2]
        _ ≤ a * b * 2 ^ j := Nat.mul_le_mul_right _ h2
        _ ≤ Y * Y := hs
theorem Eu.last {X Y a b : Nat} (h : Eu X Y 400 a b) (hy : Y < 2 ^ 200) : b = 0 := by
  obtain ⟨hlt, hs⟩ := h.s (by decide)
  by_cases hb : b = 0
  · exact hb
  · exfalso
    have h1 : 2 ≤ a * b := by
      have : 1 * 2 ≤ b * a := Nat.mul_le_mul (by omega) (by omega)
      rw [Nat.mul_comm]; omega
    have h2 : 2 * 2 ^ 399 ≤ Y * Y := Nat.le_trans (Nat.mul_le_mul_right _ h1) hs
    have h3 : Y * Y < 2 ^ 200 * 2 ^ 200 := Nat.mul_lt_mul'' hy hy
    rw [← Nat.pow_add] at h3
    have h4 : (2 : Nat) ^ (399 + 1) = 2 ^ 399 * 2 := Nat.pow_succ 2 399
    rw [Nat.mul_comm 2, ← h4] at h2
    exact absurd h3 (Nat.not_lt.mpr h2)

theorem sc_law_gcd : FnScope ["one", "other", "turn"] ["one", "other"] (defScope s_law_gcd) := ⟨rfl, rfl, rfl, by decide +kernel, rfl, by decide +kernel, by decide +kernel⟩
theorem ok_law_gcd (T : Txt K mg A) : FnOk P w K mg base CX0 1 A.f_law_gcd A.d_law_gcd ["one", "other"] (spGcd) := by
  refine T.F_law_gcd.ok sc_law_gcd (fun vs H Q E h => ?_) (fun cdv A1 outer s H vs Q E hr h => ?_)
  · obtain ⟨x, y, rfl, _⟩ := h
    rfl
  · obtain ⟨x, y, rfl, hy, q⟩ := h
    refine ⟨_, (pss_cons (ps_par (i := 0) (j := 1) rfl sc_law_gcd.nd rfl rfl (by decide) rfl rfl (pa_cons (pe_callB call_abs (by rfl) T.z_abs (by decide +kernel) (pa_cons (pv 0) pa_nil)) (pa_cons (pe_callB call_abs (by rfl) T.z_abs (by decide +kernel) (pa_cons (pv 1) pa_nil)) pa_nil)) (by rfl))
      (pss_cons (ps_for PassesOwn.never rfl (pi_range1 rfl T.z_range (pa_cons pe_int pa_nil)) (pg_name (i := 2) sc_law_gcd.nd rfl (Or.inl rfl))
        (pss_cons (ps_if (pt_cmpR op_eq (pv 1) pe_int (nomark _)) (pss_one ps_break) pss_nil)
      (pss_one (ps_par (i := 0) (j := 1) rfl sc_law_gcd.nd rfl rfl (by decide) rfl rfl (pa_cons (pv 1) (pa_cons (pe_op op_mod (pv 0) (pv 1)) pa_nil)) (by rfl)))))
      (pss_one (ps_ret (pv 0))))), ?_⟩
    refine ⟨_, rfl, _, rfl, _, rfl, _, rfl, _, _, rfl, ?_⟩
    dsimp only
    rw [abs_is, abs_is]
    refine ⟨400, rfl, by decide, by decide, for_range (n := 400) (fun i σ H' => H' = H ∧ ∃ a b u, σ = [some (.int (a : Nat)), some (.int (b : Nat)), u] ∧ Eu x.natAbs y.natAbs i a b) ⟨rfl, _, _, _, rfl, rfl, fun _ => ⟨rfl, rfl⟩, fun z => absurd z (by decide)⟩ ?_ ?_⟩
    · rintro i σ H' hi ⟨rfl, a, b, u, rfl, eu⟩
      refine ⟨_, rfl, rfl, _, rfl, ?_⟩
      by_cases c : b = 0
      · subst c
        have e : decide (V.int ((0 : Nat) : Int) = V.int 0) = true := decide_eq_true rfl
        rw [e]
        refine iteT ⟨_, rfl, ?_⟩
        have eg : gcdI x y = (a : Int) := by
          unfold gcdI
          rw [← eu.g, Nat.gcd_zero_right]
        rw [eg] at q
        exact q
      · have e : decide (V.int ((b : Nat) : Int) = V.int 0) = false := decide_eq_false fun z => c (by injection z with z; omega)
        rw [e]
        refine iteF ⟨_, rfl, _, rfl, _, rfl, _, _, rfl, rfl, (by show (0 : Int) < (b : Int); omega), _, _, rfl, ?_⟩
        exact ⟨rfl, b, a % b, _, by rw [Int.natCast_emod]; rfl, eu.step c⟩
    · rintro σ H' ⟨rfl, a, b, u, rfl, eu⟩
      have hb := eu.last hy
      subst hb
      have eg : gcdI x y = (a : Int) := by
        unfold gcdI
        rw [← eu.g, Nat.gcd_zero_right]
      rw [eg] at q
      exact ⟨_, rfl, q⟩
theorem sc_law_low : FnScope ["top", "bottom", "part"] ["top", "bottom"] (defScope s_law_low) := ⟨rfl, rfl, rfl, by decide +kernel, rfl, by decide +kernel, by decide +kernel⟩
theorem ok_law_low (T : Txt K mg A) : FnOk P w K mg base CX0 2 A.f_law_low A.d_law_low ["top", "bottom"] (spShareOf K) := by
  refine T.F_law_low.ok sc_law_low (fun vs H Q E h => ?_) (fun cdv A1 outer s H vs Q E hr h => ?_)
  · obtain ⟨p, t, rfl, _⟩ := h
    rfl
  · obtain ⟨p, t, rfl, ht, hs, k⟩ := h
    have g0 := gcdI_pos (p := p) ht
    have gs := small_le (Int.le_of_lt g0) (gcdI_le (p := p) ht) hs
    refine ⟨_, (pss_cons (ps_set (i := 2) sc_law_low.nd rfl (Or.inl rfl) (pe_call (ok_law_gcd T) (hr.mono (by decide)) rfl T.m_law_gcd T.F_law_gcd.kp T.B_law_gcd .nil pass0 (pa_cons (pv 0) (pa_cons (pv 1) pa_nil))))
      (pss_one (ps_ret (pe_tup (pa_cons (pe_op op_fdivW (pv 0) (pv 2)) (pa_cons (pe_op op_fdivW (pv 1) (pv 2)) pa_nil)))))), ?_⟩
    refine ⟨_, rfl, _, rfl, p, t, rfl, hs, _, rfl, _, rfl, _, _, rfl, rfl, div_small g0 gs, _, rfl, _, rfl, _, _, rfl, rfl, div_small g0 gs, (by show 2 ≤ sizeLine; decide), fun q hq => ?_⟩
    exact k q _ (Same.new hq) hq (IT.new rfl)
/-- gcd taken out: no integer above 1 is left -/
theorem low_one {p t : Int} (h : 0 < t) : gcdI (p / gcdI p t) (t / gcdI p t) = 1 ∧ 1 ≤ t / gcdI p t ∧ t / gcdI p t ≤ t := by
  have g0 := gcdI_pos (p := p) h
  have gn : 0 < Nat.gcd p.natAbs t.natAbs := by unfold gcdI at g0; omega
  have d1 : gcdI p t ∣ p := Int.ofNat_dvd_left.mpr (Nat.gcd_dvd_left _ _)
  have d2 : gcdI p t ∣ t := Int.ofNat_dvd_left.mpr (Nat.gcd_dvd_right _ _)
  have n1 : (p / gcdI p t).natAbs = p.natAbs / Nat.gcd p.natAbs t.natAbs := by rw [Int.natAbs_ediv_of_dvd d1]; rfl
  have n2 : (t / gcdI p t).natAbs = t.natAbs / Nat.gcd p.natAbs t.natAbs := by rw [Int.natAbs_ediv_of_dvd d2]; rfl
  refine ⟨?_, ?_, ?_⟩
  · have e : gcdI (p / gcdI p t) (t / gcdI p t) = ((Nat.gcd (p / gcdI p t).natAbs (t / gcdI p t).natAbs : Nat) : Int) := rfl
    rw [e, n1, n2, Nat.gcd_div (Nat.gcd_dvd_left _ _) (Nat.gcd_dvd_right _ _), Nat.div_self gn]
    rfl
  · have := gcdI_le (p := p) h
    exact (Int.le_ediv_iff_mul_le g0).mpr (by omega)
  · exact Int.ediv_le_self _ (Int.le_of_lt h)
def spShareD (K : PySem.W.Frag) : Sp := fun vs H Q _ => ∃ (p : Pt) (most : Int), vs = [.ref p.a, .int most] ∧ p.At H ∧ 1 ≤ most ∧ most ≤ 1000000 ∧
  ∀ (q : Addr) (H' : Hp) (a b : Int), p.At H' → But p.l H H' → IT K H' (.ref q) [a, b] → 1 ≤ b → b ≤ most → gcdI a b = 1 → Q (.ref q) H'
def outs (evs : List (List Int)) (s : Int) : List Int := ((List.range evs.length).filter fun i => decide (V.int (evB (evs.getD i [])) = V.int s)).map fun i : Nat => 0 + (i : Int)
theorem outs_mem {evs : List (List Int)} {s k : Int} (h : k ∈ outs evs s) : 0 ≤ k ∧ k < (evs.length : Int) ∧ evB (evs.getD k.toNat []) = s := by
  unfold outs at h
  obtain ⟨i, hi, e⟩ := List.mem_map.mp h
  obtain ⟨h1, h2⟩ := List.mem_filter.mp hi
  have h1' := List.mem_range.mp h1
  have h3 : V.int (evB (evs.getD i [])) = V.int s := of_decide_eq_true h2
  injection h3 with h3
  have ek : k.toNat = i := by omega
  rw [ek]
  exact ⟨by omega, by omega, h3⟩
def spOut (K : PySem.W.Frag) : Sp := fun vs H Q _ => ∃ (x : V) (s n : Int) (evs : List (List Int)), vs = [x, .int s] ∧ Parts K H x n evs ∧ (∀ e ∈ evs, Four e) ∧ evs.length ≤ 1000 ∧
  ∀ (D : Addr) (H' : Hp), Same H H' → H D = none → H' D = some (.lst ((outs evs s).map V.int)) → Q (.ref D) H'
def spWalk (K : PySem.W.Frag) : Sp := fun vs H Q _ => ∃ (p : Pt) (x : V) (many n : Int) (evs : List (List Int)), vs = [.ref p.a, x, .int many] ∧ p.At H ∧ Parts K H x n evs ∧ (∀ e ∈ evs, Four e) ∧ evs.length ≤ 1000 ∧ 0 ≤ many ∧ many ≤ 1000 ∧
  ∀ (q : Addr) (H' : Hp) (run : List Int), p.At H' → But p.l H H' → IT K H' (.ref q) run → (walkTo evs 0 run).isSome = true → InEv evs run → (run.length : Int) ≤ many → Q (.ref q) H'
theorem lastAt {α : Type} (l : List α) (x : α) : atI (l ++ [x]) (-1) = some x := by
  unfold atI ixN
  rw [if_neg (by decide), if_pos (by simp <;> omega)]
  have e : (-1 + (((l ++ [x]).length : Nat) : Int)).toNat = l.length := by rw [List.length_append]; simp <;> omega
  show (l ++ [x])[(-1 + (((l ++ [x]).length : Nat) : Int)).toNat]? = some x
  rw [e]
  simp

theorem sc_law_share : FnScope ["pot", "most", "bottom"] ["pot", "most"] (defScope s_law_share) := ⟨rfl, rfl, rfl, by decide +kernel, rfl, by decide +kernel, by decide +kernel⟩
theorem ok_law_share (T : Txt K mg A) : FnOk P w K mg base CX0 3 A.f_law_share A.d_law_share ["pot", "most"] (spShareD K) := by
  refine T.F_law_share.ok sc_law_share (fun vs H Q E h => ?_) (fun cdv A1 outer s H vs Q E hr h => ?_)
  · obtain ⟨p, most, rfl, _⟩ := h
    rfl
  · obtain ⟨p, most, rfl, hp, m0, m1, k⟩ := h
    refine ⟨_, (pss_cons (ps_set (i := 2) sc_law_share.nd rfl (Or.inl rfl) (pe_op op_add pe_int (pe_call (ok_law_draw T) (hr.mono (by decide)) rfl T.m_law_draw T.F_law_draw.kp T.B_law_draw .nil pass0 (pa_cons (pv 0) (pa_cons (pv 1) pa_nil)))))
      (pss_one (ps_ret (pe_call (ok_law_low T) (hr.mono (by decide)) rfl T.m_law_low T.F_law_low.kp T.B_law_low .nil pass0 (pa_cons (pe_op op_sub (pe_call (ok_law_draw T) (hr.mono (by decide)) rfl T.m_law_draw T.F_law_draw.kp T.B_law_draw .nil pass0 (pa_cons (pv 0) (pa_cons (pe_op op_add (pe_op op_mul pe_int (pv 2)) pe_int) pa_nil))) (pv 2)) (pa_cons (pv 2) pa_nil)))))), ?_⟩
    refine ⟨_, rfl, _, rfl, p, most, rfl, hp, by omega, small_of (by omega), fun r H1 r0 r1 hp1 b1 => ⟨_, _, rfl, rfl, ?_⟩⟩
    dsimp only
    refine ⟨_, rfl, _, rfl, _, _, rfl, rfl, cm_l (by decide) (by decide), _, _, rfl, rfl, p, _, rfl, hp1, ?_, ?_, fun r2 H2 q0 q1 hp2 b2 => ⟨_, rfl, _, _, rfl, rfl, _, rfl, _, _, rfl, ?_, ?_, fun q H3 s3 hq hI => ?_⟩⟩
    · show (0 : Int) < 3 * (1 + r) + 1; omega
    · exact small_of (show (3 * (1 + r) + 1).natAbs < 2 ^ 64 by omega)
    · show (0 : Int) < 1 + r; omega
    · exact small_of (show (1 + r).natAbs < 2 ^ 64 by omega)
    · obtain ⟨l1, l2, l3⟩ := low_one (p := r2 - (1 + r)) (t := 1 + r) (by omega)
      exact k q H3 _ _ (hp2.same s3) ((b1.trans b2).trans (But.of s3)) hI l2 (by omega) l1
theorem sc_law_out : FnScope ["parts", "standing", "number"] ["parts", "standing"] (defScope s_law_out) := ⟨rfl, rfl, rfl, by decide +kernel, rfl, by decide +kernel, by decide +kernel⟩
theorem ok_law_out (T : Txt K mg A) : FnOk P w K mg base CX0 1 A.f_law_out A.d_law_out ["parts", "standing"] (spOut K) := by
  refine T.F_law_out.ok sc_law_out (fun vs H Q E h => ?_) (fun cdv A1 outer s H vs Q E hr h => ?_)
  · obtain ⟨x, s, n, evs, rfl, _⟩ := h
    rfl
  · obtain ⟨x, st, n, evs, rfl, hx, f4, hl, k⟩ := h
    refine ⟨_, (pss_one (ps_ret (pe_lc (own := [("number", 2)]) rfl sc_law_out.nd (pi_range1 rfl T.z_range (pa_cons (pe_callB (call_lenK K rfl) (by rfl) T.z_len (by decide +kernel) (pa_cons (pe_ix (ix_tupK K rfl) (pv 0) pe_int (fun _ _ => rfl)) pa_nil)) pa_nil)) (blkOk_by (N := ["parts", "standing", "number"]) (sc := defScope s_law_out) (by decide +kernel)) (fun _ _ _ _ _ => by exact (pg_name (i := 2) sc_law_out.nd rfl (Or.inl rfl))) (fun _ _ _ _ _ => by exact (pts_one (pt_cmpR op_eq (pe_ix (ix_tupK K rfl) (pe_ix (ix_tupK K rfl) (pe_ix (ix_tupK K rfl) (pv 0) pe_int (fun _ _ => rfl)) (pv 2) (fun _ _ => rfl)) pe_int (fun _ _ => rfl)) (pv 1) (nomark _)))) (fun _ _ _ _ _ => by exact (pv 2))))), ?_⟩
    refine ⟨_, rfl, ixP1 hx fun w hw => lenT hw fun ys e => ?_⟩
    rw [e]
    refine ⟨_, rfl, by omega, by omega, fun D hD => ?_⟩
    have en : ((evs.length : Nat) : Int).toNat = evs.length := by omega
    rw [en]
    refine lcFR (fun i => decide (V.int (evB (evs.getD i [])) = V.int st)) (fun i => 0 + (i : Int)) hD (Nat.lt_of_le_of_lt hl (by decide)) (fun i H2 Q1 Q2 hi s2 h1 h2 => ⟨rfl, ?_⟩) (k D _ (Same.new hD) hD upd_same)
    obtain ⟨b, a, t, p, e1, e2⟩ := ev_at (k := 0 + (i : Int)) f4 (by omega) (by omega)
    refine ⟨_, rfl, ixP1 (hx.keep (Keep.of s2)) fun w hw => ⟨_, rfl, ixT hw (by omega) e1 fun z hz => ixI hz (by decide) rfl ⟨_, rfl, rfl, _, rfl, ?_⟩⟩⟩
    have ei : (0 + (i : Int)).toNat = i := by omega
    rw [ei] at e2
    have eb : evB (evs.getD i []) = b := by rw [e2]; rfl
    rw [eb] at h1 h2
    cases c : decide (V.int b = V.int st) with
    | true => exact iteT ⟨_, rfl, h1 c⟩
    | false => exact iteF (h2 c)
theorem sc_law_walk : FnScope ["pot", "parts", "many", "run", "standing", "turn", "some"] ["pot", "parts", "many"] (defScope s_law_walk) := ⟨rfl, rfl, rfl, by decide +kernel, rfl, by decide +kernel, by decide +kernel⟩
theorem ok_law_walk (T : Txt K mg A) : FnOk P w K mg base CX0 2 A.f_law_walk A.d_law_walk ["pot", "parts", "many"] (spWalk K) := by
  refine T.F_law_walk.ok sc_law_walk (fun vs H Q E h => ?_) (fun cdv A1 outer s H vs Q E hr h => ?_)
  · obtain ⟨p, x, many, n, evs, rfl, _⟩ := h
    rfl
  · obtain ⟨p, x, many, n, evs, rfl, hp, hx, f4, hl, m0, m1, k⟩ := h
    refine ⟨_, (pss_cons (ps_set (i := 3) sc_law_walk.nd rfl (Or.inl rfl) (pe_lst pa_nil))
      (pss_cons (ps_set (i := 4) sc_law_walk.nd rfl (Or.inl rfl) pe_int)
      (pss_cons (ps_for PassesOwn.never rfl (pi_range1 rfl T.z_range (pa_cons (pv 2) pa_nil)) (pg_name (i := 5) sc_law_walk.nd rfl (Or.inl rfl))
        (pss_cons (ps_set (i := 6) sc_law_walk.nd rfl (Or.inl rfl) (pe_call (ok_law_out T) (hr.mono (by decide)) rfl T.m_law_out T.F_law_out.kp T.B_law_out .nil pass0 (pa_cons (pv 1) (pa_cons (pv 4) pa_nil))))
      (pss_cons (ps_if (pt_cmpR op_eq (pe_callB (call_lenK K rfl) (by rfl) T.z_len (by decide +kernel) (pa_cons (pv 6) pa_nil)) pe_int (nomark _)) (pss_one ps_break) pss_nil)
      (pss_cons (ps_expr (pe_bm PySem.F.plainAttrs_list PySem.F.slot_list_append PySem.F.type_list_append mt_append (pv 3) (pa_cons (pe_ix (ix_listK K rfl) (pv 6) (pe_call (ok_law_draw T) (hr.mono (by decide)) rfl T.m_law_draw T.F_law_draw.kp T.B_law_draw .nil pass0 (pa_cons (pv 0) (pa_cons (pe_callB (call_lenK K rfl) (by rfl) T.z_len (by decide +kernel) (pa_cons (pv 6) pa_nil)) pa_nil))) (fun _ _ => rfl)) pa_nil)))
      (pss_one (ps_set (i := 4) sc_law_walk.nd rfl (Or.inl rfl) (pe_ix (ix_tupK K rfl) (pe_ix (ix_tupK K rfl) (pe_ix (ix_tupK K rfl) (pv 1) pe_int (fun _ _ => rfl)) (pe_ix (ix_listK K rfl) (pv 3) (pe_un un_neg pe_int) (fun _ _ => rfl)) (fun _ _ => rfl)) pe_int (fun _ _ => rfl))))))))
      (pss_one (ps_ret (pe_callTy (call_tupleK K rfl) (by rfl) T.z_tuple (by decide +kernel) (pa_cons (pv 3) pa_nil))))))), ?_⟩
    refine ⟨Nat.zero_le _, fun R hR => ?_⟩
    have fr := hp.fresh hR
    have fin : ∀ (H1 : Hp) (run : List Int), p.At H1 → But p.l H H1 → H1 R = some (.lst (run.map V.int)) → (walkTo evs 0 run).isSome = true → InEv evs run → (run.length : Int) ≤ many →
        ∃ q ys, [V.ref R] = [V.ref q] ∧ ((SqL K H1 q ys ∧ ∀ l, H1 l = none → Q (.ref l) (upd H1 l (.tup ys))) ∨ (SqT K H1 q ys ∧ Q (.ref q) H1)) := by
      intro H1 run hp1 b1 hR1 hw hin hrl
      exact ⟨R, _, rfl, .inl ⟨SqL.lt hR1, fun l hl => k l _ run (hp1.same (Same.new hl)) (b1.trans (But.new hl)) (IT.new rfl) hw hin hrl⟩⟩
    refine ⟨_, rfl, many, rfl, by omega, by omega, ?_⟩
    refine for_range (lo := 0) (n := many.toNat) (fun i σ H1 => p.At H1 ∧ But p.l H H1 ∧ ∃ (run : List Int) (st : Int) (u1 u2 : Option V), σ = [some (.ref p.a), some x, some (.int many), some (.ref R), some (.int st), u1, u2] ∧ H1 R = some (.lst (run.map V.int)) ∧ walkTo evs 0 run = some st ∧ InEv evs run ∧ run.length ≤ i)
      ⟨hp.same (Same.new hR), But.new hR, [], 0, _, _, rfl, upd_same, rfl, (fun _ h => by cases h), Nat.le_refl _⟩ ?_ ?_
    · rintro i σ H1 hi ⟨hp1, b1, run, st, u1, u2, rfl, hR1, hw, hin, hrl⟩
      have hx1 := hx.keep (hp.keep b1)
      refine ⟨_, rfl, _, rfl, x, st, n, evs, rfl, hx1, f4, hl, fun D H2 s2 hD hD2 => ?_⟩
      refine ⟨_, rfl, D, _, rfl, .inl (SqL.lt hD2), rfl, _, rfl, ?_⟩
      rw [List.length_map]
      by_cases c : (outs evs st).length = 0
      · rw [decide_eq_true (show V.int ((outs evs st).length : Nat) = V.int 0 by rw [c]; rfl)]
        refine iteT ⟨_, rfl, fin H2 run (hp1.same s2) (b1.trans (But.of s2)) (s2 _ _ hR1) (by rw [hw]; rfl) hin (by omega)⟩
      · rw [decide_eq_false (show ¬ (V.int ((outs evs st).length : Nat) = V.int 0) by intro z; injection z with z; omega)]
        have hp2 := hp1.same s2
        have fD := hp1.fresh hD
        refine iteF ⟨_, rfl, .inl ⟨rfl, _, SqL.lt (s2 _ _ hR1)⟩, _, rfl, _, rfl, _, rfl, D, _, rfl, .inl (SqL.lt hD2), ?_⟩
        rw [List.length_map]
        refine ⟨p, _, rfl, hp2, by omega, ?_, fun r H3 r0 r1 hp3 b3 => ?_⟩
        · have : (outs evs st).length ≤ evs.length := by
            unfold outs
            rw [List.length_map]
            have := List.length_filter_le (fun i => decide (V.int (evB (evs.getD i [])) = V.int st)) (List.range evs.length)
            rw [List.length_range] at this
            exact this
          exact small_of (by omega)
        · have hD3 : H3 D = some (.lst ((outs evs st).map V.int)) := b3 _ _ (Pt.out fD) hD2
          have hR3 : H3 R = some (.lst (run.map V.int)) := b3 _ _ (Pt.out fr) (s2 _ _ hR1)
          have hr : r.toNat < (outs evs st).length := by omega
          have hk := List.getElem?_eq_getElem hr
          generalize (outs evs st)[r.toNat] = kk at hk
          obtain ⟨k0, k1, k2⟩ := outs_mem (List.mem_of_getElem? hk)
          refine ⟨D, _, r, .int kk, rfl, rfl, SqL.lt hD3, at_ge r0 (by rw [List.getElem?_map, hk]; rfl), R, _, _, rfl, rfl, hR3, ?_, ?_⟩
          · rw [List.length_map]
            exact Nat.lt_of_lt_of_le (show run.length < 1001 by omega) (by decide)
          · have b4 : But p.l H (upd H3 R (.lst (run.map V.int ++ [.int kk]))) := ((b1.trans (But.of s2)).trans b3).chg hR
            have hR4 : upd H3 R (.lst (run.map V.int ++ [.int kk])) R = some (.lst ((run ++ [kk]).map V.int)) := by rw [upd_same, List.map_append]; rfl
            have hp4 : p.At (upd H3 R (.lst (run.map V.int ++ [.int kk]))) := hp3.but (l := [R]) (But.at (by simp)) (by simp; exact fr.1.symm) (by simp; exact fr.2.1.symm) (by simp; exact fr.2.2.symm)
            have hx4 := hx.keep (hp.keep b4)
            generalize upd H3 R (.lst (run.map V.int ++ [.int kk])) = H4 at b4 hR4 hp4 hx4 ⊢
            obtain ⟨b, a, t, q, e1, e2⟩ := ev_at f4 k0 k1
            have la : atI ((run ++ [kk]).map V.int) (-1) = some (.int kk) := by rw [List.map_append]; exact lastAt _ _
            refine ⟨_, rfl, ixP1 hx4 fun w hw2 => ⟨_, rfl, _, rfl, R, _, _, _, rfl, rfl, SqL.lt hR4, la, ixT hw2 k0 e1 fun z hz => ixI hz (by decide) rfl ?_⟩⟩
            refine ⟨hp4, b4, run ++ [kk], a, _, _, rfl, hR4, ?_, fun y hy => ?_, ?_⟩
            · rw [walkTo_app, hw]
              show (if _ then some _ else none) = _
              rw [if_pos ⟨k0, k1, k2⟩, e2]
              rfl
            · rcases List.mem_append.mp hy with z | z
              · exact hin y z
              · rw [List.mem_singleton.mp z]; exact ⟨k0, k1⟩
            · rw [List.length_append]; simp; exact hrl
    · rintro σ H1 ⟨hp1, b1, run, st, u1, u2, rfl, hR1, hw, hin, hrl⟩
      exact ⟨_, rfl, fin H1 run hp1 b1 hR1 (by rw [hw]; rfl) hin (by omega)⟩
/-- drawn parts: the greatest tries and points are small -/
def drawnEv (n : Int) (e : List Int) : Prop := ∃ b a t p, e = [b, a, t, p] ∧ 0 ≤ b ∧ b < n ∧ 0 ≤ a ∧ a < n ∧ 1 ≤ t ∧ t ≤ 3 ∧ -4 ≤ p ∧ p ≤ 4
theorem drawnEv.ok {n : Int} {e : List Int} (h : drawnEv n e) : okEv n e := by
  obtain ⟨b, a, t, p, h0, h1, h2, h3, h4, h5, h6, h7, h8⟩ := h
  exact ⟨b, a, t, p, h0, h1, h2, h3, h4, h5, by omega, by omega, by omega⟩
def spParts (K : PySem.W.Frag) : Sp := fun vs H Q _ => ∃ (p : Pt) (ms me : Int), vs = [.ref p.a, .int ms, .int me] ∧ p.At H ∧ 1 ≤ ms ∧ ms ≤ 1000 ∧ 1 ≤ me ∧ me ≤ 1000 ∧
  ∀ (q : Addr) (H' : Hp) (n : Int) (evs : List (List Int)), p.At H' → But p.l H H' → Parts K H' (.ref q) n evs → 1 ≤ n → n ≤ ms → 1 ≤ evs.length → (evs.length : Int) ≤ me → (∀ e ∈ evs, drawnEv n e) → Q (.ref q) H'
/-- a list of tuples of ints, kept where only other things change -/

theorem sc_law_parts : FnScope ["pot", "most_standings", "most_events", "standings", "kind", "events", "at", "before", "after", "tries", "points"] ["pot", "most_standings", "most_events"] (defScope s_law_parts) := ⟨rfl, rfl, rfl, by decide +kernel, rfl, by decide +kernel, by decide +kernel⟩
theorem ok_law_parts (T : Txt K mg A) : FnOk P w K mg base CX0 2 A.f_law_parts A.d_law_parts ["pot", "most_standings", "most_events"] (spParts K) := by
  refine T.F_law_parts.ok sc_law_parts (fun vs H Q E h => ?_) (fun cdv A1 outer s H vs Q E hr h => ?_)
  · obtain ⟨p, ms, me, rfl, _⟩ := h
    rfl
  · obtain ⟨p, ms, me, rfl, hp, s0, s1, e0, e1, k⟩ := h
    refine ⟨_, (pss_cons (ps_set (i := 3) sc_law_parts.nd rfl (Or.inl rfl) (pe_op op_add pe_int (pe_call (ok_law_draw T) (hr.mono (by decide)) rfl T.m_law_draw T.F_law_draw.kp T.B_law_draw .nil pass0 (pa_cons (pv 0) (pa_cons (pv 1) pa_nil)))))
      (pss_cons (ps_set (i := 4) sc_law_parts.nd rfl (Or.inl rfl) (pe_call (ok_law_draw T) (hr.mono (by decide)) rfl T.m_law_draw T.F_law_draw.kp T.B_law_draw .nil pass0 (pa_cons (pv 0) (pa_cons pe_int pa_nil))))
      (pss_cons (ps_set (i := 5) sc_law_parts.nd rfl (Or.inl rfl) (pe_lst pa_nil))
      (pss_cons (ps_for PassesOwn.never rfl (pi_range1 rfl T.z_range (pa_cons (pe_op op_add pe_int (pe_call (ok_law_draw T) (hr.mono (by decide)) rfl T.m_law_draw T.F_law_draw.kp T.B_law_draw .nil pass0 (pa_cons (pv 0) (pa_cons (pv 2) pa_nil)))) pa_nil)) (pg_name (i := 6) sc_law_parts.nd rfl (Or.inl rfl))
        (pss_cons (ps_par (i := 7) (j := 8) rfl sc_law_parts.nd rfl rfl (by decide) rfl rfl (pa_cons (pe_call (ok_law_draw T) (hr.mono (by decide)) rfl T.m_law_draw T.F_law_draw.kp T.B_law_draw .nil pass0 (pa_cons (pv 0) (pa_cons (pv 3) pa_nil))) (pa_cons (pe_call (ok_law_draw T) (hr.mono (by decide)) rfl T.m_law_draw T.F_law_draw.kp T.B_law_draw .nil pass0 (pa_cons (pv 0) (pa_cons (pv 3) pa_nil))) pa_nil)) (by rfl))
      (Evl.pss_cut (ps_if (pt_cmpR op_gt (pv 4) pe_int (nomark _)) (pss_cons (ps_set (i := 7) sc_law_parts.nd rfl (Or.inl rfl) (pe_op op_mod (pe_callTy call_int1 (by rfl) T.z_int (by decide +kernel) (pa_cons (pv 6) pa_nil)) (pv 3)))
      (pss_one (ps_set (i := 8) sc_law_parts.nd rfl (Or.inl rfl) (pe_ix (ix_tupK K rfl) (pe_tup (pa_cons (pv 7) (pa_cons (pe_op op_mod (pe_callTy call_int1 (by rfl) T.z_int (by decide +kernel) (pa_cons (pe_op op_add (pv 7) pe_int) pa_nil)) (pv 3)) pa_nil))) (pe_callTy call_int1 (by rfl) T.z_int (by decide +kernel) (pa_cons (pe_cmpR op_gt (pe_call (ok_law_draw T) (hr.mono (by decide)) rfl T.m_law_draw T.F_law_draw.kp T.B_law_draw .nil pass0 (pa_cons (pv 0) (pa_cons pe_int pa_nil))) pe_int (nomark _)) pa_nil)) (fun _ _ => rfl))))) pss_nil)
      (pss_cons (ps_set (i := 9) sc_law_parts.nd rfl (Or.inl rfl) (pe_ifExp (pt_cmpR op_eq (pv 4) pe_int (nomark _)) pe_int (pe_op op_add pe_int (pe_call (ok_law_draw T) (hr.mono (by decide)) rfl T.m_law_draw T.F_law_draw.kp T.B_law_draw .nil pass0 (pa_cons (pv 0) (pa_cons pe_int pa_nil))))))
      (pss_cons (ps_set (i := 10) sc_law_parts.nd rfl (Or.inl rfl) (pe_ifExp (pt_cmpR op_eq (pv 4) pe_int (nomark _)) (pe_call (ok_law_draw T) (hr.mono (by decide)) rfl T.m_law_draw T.F_law_draw.kp T.B_law_draw .nil pass0 (pa_cons (pv 0) (pa_cons pe_int pa_nil))) (pe_op op_sub (pe_call (ok_law_draw T) (hr.mono (by decide)) rfl T.m_law_draw T.F_law_draw.kp T.B_law_draw .nil pass0 (pa_cons (pv 0) (pa_cons pe_int pa_nil))) pe_int)))
      (pss_one (ps_expr (pe_bm PySem.F.plainAttrs_list PySem.F.slot_list_append PySem.F.type_list_append mt_append (pv 5) (pa_cons (pe_tup (pa_cons (pv 7) (pa_cons (pv 8) (pa_cons (pv 9) (pa_cons (pv 10) pa_nil))))) pa_nil)))))))))
      (pss_one (ps_ret (pe_tup (pa_cons (pv 3) (pa_cons (pe_callTy (call_tupleK K rfl) (by rfl) T.z_tuple (by decide +kernel) (pa_cons (pv 5) pa_nil)) pa_nil))))))))), ?_⟩
    refine ⟨_, rfl, _, rfl, p, ms, rfl, hp, by omega, small_of (by omega), fun r1 H1 r10 r11 hp1 b1 => ⟨_, _, rfl, rfl, ?_⟩⟩
    refine ⟨_, rfl, p, 4, rfl, hp1, by decide, small_of (by decide), fun kind H2 k0 k1 hp2 b2 => ⟨Nat.zero_le _, fun D hD => ?_⟩⟩
    have fD := hp2.fresh hD
    have bD : But p.l H (upd H2 D (.lst [])) := (b1.trans b2).trans (But.new hD)
    have hpD := hp2.same (Same.new (o := .lst []) hD)
    have hD0 : H D = none := by
      cases z : H D with
      | none => rfl
      | some o =>
        have := (b1.trans b2) _ _ (Pt.out fD) z
        rw [hD] at this
        cases this
    have LD : LTs K (upd H2 D (.lst [])) D [] := ⟨[], upd_same, .nil⟩
    generalize upd H2 D (.lst []) = H3 at bD hpD LD ⊢
    refine ⟨_, rfl, _, rfl, p, me, rfl, hpD, by omega, small_of (by omega), fun r2 H4 r20 r21 hp4 b4 => ⟨_, _, rfl, rfl, ?_⟩⟩
    refine ⟨1 + r2, rfl, by omega, by omega, ?_⟩
    refine for_range (lo := 0) (n := (1 + r2).toNat) (fun i σ H' => p.At H' ∧ But p.l H H' ∧ ∃ (evs : List (List Int)) (u1 u2 u3 u4 u5 : Option V), σ = [some (.ref p.a), some (.int ms), some (.int me), some (.int (1 + r1)), some (.int kind), some (.ref D), u1, u2, u3, u4, u5] ∧
        LTs K H' D evs ∧ evs.length = i ∧ ∀ e ∈ evs, drawnEv (1 + r1) e)
      ⟨hp4, bD.trans b4, [], none, none, none, none, none, rfl, LD.but b4 (hpD.keep b4) (Pt.out fD), rfl, (fun _ h => by cases h)⟩ ?_ ?_
    · rintro i σ H5 hi ⟨hp5, b5, evs, u1, u2, u3, u4, u5, rfl, L5, len, all⟩
      have fr : D ∉ p.l := Pt.out fD
      refine ⟨_, rfl, _, rfl, p, _, rfl, hp5, by omega, small_of (by omega), fun bb H6 bb0 bb1 hp6 b6 => ⟨_, rfl, _, rfl, p, _, rfl, hp6, by omega, small_of (by omega), fun aa H7 aa0 aa1 hp7 b7 => ⟨_, _, rfl, ?_⟩⟩⟩
      have L7 := (L5.but b6 (hp5.keep b6) fr).but b7 (hp6.keep b7) fr
      have b57 := (b5.trans b6).trans b7
      -- the events' ends: b and a, whatever the kind
      refine ⟨fun σ' H8 => ∃ b a : Int, σ' = [some (.ref p.a), some (.int ms), some (.int me), some (.int (1 + r1)), some (.int kind), some (.ref D), some (.int (0 + (i : Nat))), some (.int b), some (.int a), u4, u5] ∧ p.At H8 ∧ But p.l H H8 ∧ LTs K H8 D evs ∧ 0 ≤ b ∧ b < 1 + r1 ∧ 0 ≤ a ∧ a < 1 + r1, ?_, ?_⟩
      · refine ⟨_, rfl, _, _, rfl, rfl, _, rfl, ?_⟩
        refine ite2 (fun c => ?_) (fun c => ⟨bb, aa, rfl, hp7, b57, L7, bb0, bb1, aa0, aa1⟩)
        have m0 := Int.emod_nonneg (0 + ((i : Nat) : Int)) (show (1 + r1 : Int) ≠ 0 by omega)
        have m1 := Int.emod_lt_of_pos (0 + ((i : Nat) : Int)) (show (0 : Int) < 1 + r1 by omega)
        refine ⟨_, rfl, .inl ⟨_, rfl, _, rfl, _, _, rfl, rfl, (by show (0 : Int) < 1 + r1; omega), ?_⟩⟩
        generalize hb : (0 + ((i : Nat) : Int)) % (1 + r1) = b8 at m0 m1
        have n0 := Int.emod_nonneg (b8 + 1) (show (1 + r1 : Int) ≠ 0 by omega)
        have n1 := Int.emod_lt_of_pos (b8 + 1) (show (0 : Int) < 1 + r1 by omega)
        subst hb
        refine ⟨_, rfl, _, rfl, _, _, rfl, rfl, .inl ⟨_, rfl, _, rfl, _, _, rfl, rfl, (by show (0 : Int) < 1 + r1; omega), (by show 2 ≤ sizeLine; decide), fun w hw => ?_⟩⟩
        have s8 := Same.new (o := .tup [.int ((0 + ((i : Nat) : Int)) % (1 + r1)), .int (((0 + ((i : Nat) : Int)) % (1 + r1) + 1) % (1 + r1))]) hw
        have hp8 := hp7.same s8
        have hw8 : upd H7 w (.tup [.int ((0 + ((i : Nat) : Int)) % (1 + r1)), .int (((0 + ((i : Nat) : Int)) % (1 + r1) + 1) % (1 + r1))]) w = some (.tup [.int ((0 + ((i : Nat) : Int)) % (1 + r1)), .int (((0 + ((i : Nat) : Int)) % (1 + r1) + 1) % (1 + r1))]) := upd_same
        have L8 := L7.but (But.of s8) (Keep.of s8) fr
        have b8 := b57.trans (But.of s8)
        refine ⟨_, rfl, p, 3, rfl, hp8, by decide, small_of (by decide), fun r H9 r0 r3 hp9 b9 => ?_⟩
        have hw9 := hp8.keep b9 w _ rfl hw8
        refine ⟨_, _, rfl, rfl, .inr ⟨_, rfl, w, _, _, if 0 < r then .int (((0 + ((i : Nat) : Int)) % (1 + r1) + 1) % (1 + r1)) else .int ((0 + ((i : Nat) : Int)) % (1 + r1)), rfl, rfl, SqT.lt hw9, ?_, ?_⟩⟩
        · by_cases c : 0 < r
          · rw [if_pos c]
            show atI _ (if decide (0 < r) = true then (1 : Int) else 0) = _
            rw [if_pos (decide_eq_true c)]
            rfl
          · rw [if_neg c]
            show atI _ (if decide (0 < r) = true then (1 : Int) else 0) = _
            rw [if_neg (by simp [c])]
            rfl
        · by_cases c : 0 < r
          · rw [if_pos c]
            exact ⟨_, _, rfl, hp9, b8.trans b9, L8.but b9 (hp8.keep b9) fr, m0, m1, n0, n1⟩
          · rw [if_neg c]
            exact ⟨_, _, rfl, hp9, b8.trans b9, L8.but b9 (hp8.keep b9) fr, m0, m1, m0, m1⟩
      · rintro σ' H8 ⟨b, a, rfl, hp8, b8, L8, q0, q1, q2, q3⟩
        -- tries and points, by the kind
        have last : ∀ (t q : Int) (H9 : Hp), p.At H9 → But p.l H H9 → LTs K H9 D evs → 1 ≤ t → t ≤ 3 → -4 ≤ q → q ≤ 4 → ∀ v, v = [some (.ref p.a), some (.int ms), some (.int me), some (.int (1 + r1)), some (.int kind), some (.ref D), some (.int (0 + (i : Nat))), some (.int b), some (.int a), some (.int t), some (V.int q)] →
            ∀ z, H9 z = none → ∃ l xs y, V.ref D = .ref l ∧ [V.ref z] = [y] ∧ (upd H9 z (.tup [.int b, .int a, .int t, .int q])) l = some (.lst xs) ∧ xs.length < sizeLine ∧
              (p.At (upd (upd H9 z (.tup [.int b, .int a, .int t, .int q])) l (.lst (xs ++ [y]))) ∧ But p.l H (upd (upd H9 z (.tup [.int b, .int a, .int t, .int q])) l (.lst (xs ++ [y]))) ∧ ∃ (evs : List (List Int)) (u1 u2 u3 u4 u5 : Option V),
                v = [some (.ref p.a), some (.int ms), some (.int me), some (.int (1 + r1)), some (.int kind), some (.ref D), u1, u2, u3, u4, u5] ∧ LTs K (upd (upd H9 z (.tup [.int b, .int a, .int t, .int q])) l (.lst (xs ++ [y]))) D evs ∧ evs.length = i + 1 ∧ ∀ e ∈ evs, drawnEv (1 + r1) e) := by
          intro t q H9 hp9 b9 L9 t0 t1 p0 p1 v hv z hz
          obtain ⟨xs, hx, al⟩ := L9
          have sz := Same.new (o := .tup [.int b, .int a, .int t, .int q]) hz
          have lx := al.len
          refine ⟨D, xs, _, rfl, rfl, sz _ _ hx, ?_, ?_⟩
          · exact Nat.lt_of_lt_of_le (show xs.length < 2000 by omega) (by decide)
          · have kp := Keep.lst (o := .lst (xs ++ [.ref z])) (sz _ _ hx)
            refine ⟨(hp9.same sz).but (l := [D]) (But.at (by simp)) (by simp; exact fD.1.symm) (by simp; exact fD.2.1.symm) (by simp; exact fD.2.2.symm), (b9.trans (But.of sz)).chg hD0,
              evs ++ [[b, a, t, q]], _, _, _, _, _, hv, ⟨_, upd_same, (al.imp fun _ _ y => (y.keep (Keep.of sz)).keep kp).snoc ((IT.new (xs := [V.int b, V.int a, V.int t, V.int q]) rfl).keep kp)⟩, by rw [List.length_append, len]; rfl, fun e he => ?_⟩
            rcases List.mem_append.mp he with h1 | h1
            · exact all e h1
            · rw [List.mem_singleton.mp h1]
              exact ⟨b, a, t, q, rfl, q0, q1, q2, q3, t0, t1, p0, p1⟩
        refine ⟨_, rfl, rfl, _, rfl, ?_⟩
        by_cases c : kind = 1
        · have e : decide (V.int kind = V.int 1) = true := decide_eq_true (congrArg V.int c)
          rw [e]
          refine iteT ⟨_, rfl, rfl, _, rfl, ?_⟩
          rw [e]
          refine iteT ⟨_, rfl, p, 2, rfl, hp8, by decide, small_of (by decide), fun r H9 r0 r1' hp9 b9 => ?_⟩
          have L9 := L8.but b9 (hp8.keep b9) fr
          exact ⟨_, rfl, .inl ⟨rfl, _, SqL.lt L9.choose_spec.1⟩, _, rfl, _, rfl, _, rfl, _, rfl, (by show 4 ≤ sizeLine; decide), fun z hz => last 1 r H9 hp9 (b8.trans b9) L9 (by decide) (by decide) (by omega) (by omega) _ rfl z hz⟩
        · have e : decide (V.int kind = V.int 1) = false := decide_eq_false fun z => c (by injection z)
          rw [e]
          refine iteF ⟨_, rfl, p, 3, rfl, hp8, by decide, small_of (by decide), fun r H9 r0 r1' hp9 b9 => ⟨_, _, rfl, rfl, _, rfl, rfl, _, rfl, ?_⟩⟩
          rw [e]
          have L9 := L8.but b9 (hp8.keep b9) fr
          refine iteF ⟨_, rfl, p, 9, rfl, hp9, by decide, small_of (by decide), fun r' H10 r0' r9 hp10 b10 => ⟨_, _, rfl, rfl, ?_⟩⟩
          have L10 := L9.but b10 (hp9.keep b10) fr
          exact ⟨_, rfl, .inl ⟨rfl, _, SqL.lt L10.choose_spec.1⟩, _, rfl, _, rfl, _, rfl, _, rfl, (by show 4 ≤ sizeLine; decide), fun z hz => last (1 + r) (r' - 4) H10 hp10 ((b8.trans b9).trans b10) L10 (by omega) (by omega) (by omega) (by omega) _ rfl z hz⟩
    · rintro σ H5 ⟨hp5, b5, evs, u1, u2, u3, u4, u5, rfl, ⟨xs, hx, al⟩, len, all⟩
      refine ⟨_, rfl, _, rfl, D, _, rfl, .inl ⟨SqL.lt hx, fun w hw => ⟨(by show 2 ≤ sizeLine; decide), fun q hq => ?_⟩⟩⟩
      have s6 := Same.new (o := .tup xs) hw
      have s7 := Same.new (o := .tup [.int (1 + r1), .ref w]) hq
      refine k q _ (1 + r1) evs ((hp5.same s6).same s7) ((b5.trans (But.of s6)).trans (But.of s7)) ⟨q, _, rfl, SqT.lt upd_same, w, xs, rfl, SqT.lt (s7 _ _ upd_same), al.imp fun _ _ z => z.keep (Keep.of (s6.trans s7))⟩ (by omega) (by omega) (by omega) (by omega) all
theorem sumT_app (evs : List (List Int)) (r q : List Int) : sumT evs (r ++ q) = sumT evs r + sumT evs q := by unfold sumT; rw [List.map_append, List.sum_append]
theorem sumP_app (evs : List (List Int)) (r q : List Int) : sumP evs (r ++ q) = sumP evs r + sumP evs q := by unfold sumP; rw [List.map_append, List.sum_append]
theorem sumT_one (evs : List (List Int)) (k : Int) : sumT evs [k] = evT (evs.getD k.toNat []) := Int.add_zero _
theorem sumP_one (evs : List (List Int)) (k : Int) : sumP evs [k] = evP (evs.getD k.toNat []) := Int.add_zero _
def boardsTo (evs : List (List Int)) (run : List Int) (n : Nat) : List (List Int) := (List.range n).map fun i => [sumT evs (run.take (i + 1)), sumP evs (run.take (i + 1))]
def spBoards (K : PySem.W.Frag) (C : Addr) : Sp := fun vs H Q _ => ∃ (m v : V) (n : Int) (evs : List (List Int)) (run : List Int), vs = [m, v] ∧ MachAt K C H m n evs ∧ (∀ e ∈ evs, Four e) ∧ IT K H v run ∧ (walkTo evs 0 run).isSome = true ∧ InEv evs run ∧ run.length ≤ 1000 ∧
  ∀ (D : Addr) (H' : Hp), Same H H' → H D = none → LTs K H' D (boardsTo evs run run.length) → Q (.ref D) H'
/-- the share that a board shows -/
def shareOf (b : List Int) : List Int := [evA b / gcdI (evA b) (evB b), evB b / gcdI (evA b) (evB b)]
def spShares (K : PySem.W.Frag) (C : Addr) : Sp := fun vs H Q _ => ∃ (m v : V) (n : Int) (evs : List (List Int)) (run : List Int), vs = [m, v] ∧ MachAt K C H m n evs ∧ (∀ e ∈ evs, Four e) ∧ IT K H v run ∧ (walkTo evs 0 run).isSome = true ∧ InEv evs run ∧ run.length ≤ 1000 ∧
  (∀ e ∈ evs, 1 ≤ evT e ∧ evT e ≤ 1000) ∧
  ∀ (D : Addr) (H' : Hp), Same H H' → H D = none → LTs K H' D ((boardsTo evs run run.length).map shareOf) → Q (.ref D) H'
theorem sumT_bd {evs : List (List Int)} (h : ∀ e ∈ evs, 1 ≤ evT e ∧ evT e ≤ 1000) : ∀ {run : List Int}, InEv evs run → (run.length : Int) ≤ sumT evs run ∧ sumT evs run ≤ 1000 * run.length
  | [], _ => ⟨Int.le_refl _, Int.le_refl _⟩
  | k :: r, hin => by
    obtain ⟨h0, h1⟩ := hin k (by simp)
    have ih := sumT_bd h (run := r) fun y hy => hin y (by simp [hy])
    have hk : k.toNat < evs.length := by omega
    have he : evs.getD k.toNat [] ∈ evs := by rw [List.getD_eq_getElem?_getD, List.getElem?_eq_getElem hk]; exact List.getElem_mem hk
    obtain ⟨t0, t1⟩ := h _ he
    have e : sumT evs (k :: r) = evT (evs.getD k.toNat []) + sumT evs r := rfl
    rw [e, List.length_cons]
    omega

theorem sc_boards : FnScope ["machine", "run", "all_tries", "all_points", "found", "number"] ["machine", "run"] (defScope s_boards) := ⟨rfl, rfl, rfl, by decide +kernel, rfl, by decide +kernel, by decide +kernel⟩
theorem ok_boards (T : Txt K mg A) : FnOk P w K mg base CX0 5 A.f_boards A.d_boards ["machine", "run"] (spBoards K A.C_Machine) := by
  refine T.F_boards.ok sc_boards (fun vs H Q E h => ?_) (fun cdv A1 outer s H vs Q E hr h => ?_)
  · obtain ⟨m, v, n, evs, run, rfl, _⟩ := h
    rfl
  · obtain ⟨m, v, n, evs, run, rfl, hM, f4, hv, hw, hin, hl, k⟩ := h
    obtain ⟨x, rfl, hx⟩ := id hv
    refine ⟨_, (pss_cons (ps_if (pt_not (pt_val (pe_call (ok_is_run T) (hr.mono (by decide)) rfl T.m_is_run T.F_is_run.kp T.B_is_run .nil pass0 (pa_cons (pv 0) (pa_cons (pv 1) pa_nil))))) (pss_one ps_never) pss_nil)
      (pss_cons (ps_set (i := 2) sc_boards.nd rfl (Or.inl rfl) pe_int)
      (pss_cons (ps_set (i := 3) sc_boards.nd rfl (Or.inl rfl) pe_int)
      (pss_cons (ps_set (i := 4) sc_boards.nd rfl (Or.inl rfl) (pe_lst pa_nil))
      (pss_cons (ps_for PassesOwn.never rfl (pi_tup (pv 1)) (pg_name (i := 5) sc_boards.nd rfl (Or.inl rfl))
        (pss_cons (ps_aug (i := 2) sc_boards.nd rfl (Or.inl rfl) (pe_ix (ix_tupK K rfl) (pe_ix (ix_tupK K rfl) (pe_fldK K rfl (pv 0) (by rfl)) (pv 5) (fun _ _ => rfl)) pe_int (fun _ _ => rfl)) ip_add)
      (pss_cons (ps_aug (i := 3) sc_boards.nd rfl (Or.inl rfl) (pe_ix (ix_tupK K rfl) (pe_ix (ix_tupK K rfl) (pe_fldK K rfl (pv 0) (by rfl)) (pv 5) (fun _ _ => rfl)) pe_int (fun _ _ => rfl)) ip_add)
      (pss_one (ps_expr (pe_bm PySem.F.plainAttrs_list PySem.F.slot_list_append PySem.F.type_list_append mt_append (pv 4) (pa_cons (pe_tup (pa_cons (pv 2) (pa_cons (pv 3) pa_nil))) pa_nil)))))))
      (pss_one (ps_ret (pv 4)))))))), ?_⟩
    refine ⟨_, rfl, _, rfl, m, .ref x, n, evs, run, rfl, hM, f4, hv, _, rfl, ?_⟩
    rw [hw]
    refine iteF ⟨Nat.zero_le _, fun D hD => ?_⟩
    have s0 := Same.new (o := .lst []) hD
    refine ⟨_, rfl, x, rfl, ⟨_, SqT.keep (Keep.of s0) hx⟩, ?_⟩
    refine for_tup (K := K) (a := x) (xs := run.map V.int) (fun i σ H' => Same H H' ∧ ∃ u, σ = [some m, some (.ref x), some (.int (sumT evs (run.take i))), some (.int (sumP evs (run.take i))), some (.ref D), u] ∧ LTs K H' D (boardsTo evs run i))
      ⟨s0, none, rfl, [], upd_same, .nil⟩ (fun i σ H' _ z => SqT.keep (Keep.of z.1) hx) ?_ ?_
    · rintro i y σ H1 hi ⟨s1, u, rfl, ys, hy, al⟩
      obtain ⟨j, hj, rfl⟩ : ∃ j, run[i]? = some j ∧ y = V.int j := by
        rw [List.getElem?_map] at hi
        cases z : run[i]? with
        | none => rw [z] at hi; cases hi
        | some n => rw [z] at hi; exact ⟨n, rfl, (Option.some.inj hi).symm⟩
      obtain ⟨j0, j1⟩ := hin j (List.mem_of_getElem? hj)
      obtain ⟨b, a, t, p, e1, e2⟩ := ev_at f4 j0 j1
      have tk := take_succ hj
      have eT : sumT evs (run.take (i + 1)) = sumT evs (run.take i) + t := by rw [tk, sumT_app, sumT_one, e2]; rfl
      have eP : sumP evs (run.take (i + 1)) = sumP evs (run.take i) + p := by rw [tk, sumP_app, sumP_one, e2]; rfl
      have hM1 := hM.keep (Keep.of s1)
      have ly := al.len
      have il := (List.getElem?_eq_some_iff.mp hj).1
      refine ⟨_, rfl, _, rfl, fldE hM1 T.cl_Machine T.n_events fun w hw => ⟨_, rfl, ixT hw j0 e1 fun z hz => ixI hz (by decide) rfl ⟨_, _, rfl, rfl, _, rfl, _, rfl, fldE hM1 T.cl_Machine T.n_events fun w2 hw2 => ⟨_, rfl, ixT hw2 j0 e1 fun z2 hz2 => ixI hz2 (by decide) rfl ⟨_, _, rfl, rfl, ?_⟩⟩⟩⟩⟩
      refine ⟨_, rfl, .inl ⟨rfl, _, SqL.lt hy⟩, _, rfl, _, rfl, (by show 2 ≤ sizeLine; decide), fun z hz => ?_⟩
      have sz := Same.new (o := .tup [.int (sumT evs (run.take i) + t), .int (sumP evs (run.take i) + p)]) hz
      refine ⟨D, ys, _, rfl, rfl, sz _ _ hy, ?_, ?_⟩
      · rw [ly]
        unfold boardsTo
        rw [List.length_map, List.length_range]
        exact Nat.lt_of_lt_of_le (show i < 1001 by omega) (by decide)
      · have kp := Keep.lst (o := .lst (ys ++ [.ref z])) (sz _ _ hy)
        refine ⟨Same.chg (s1.trans sz) hD, some (.int j), ?_, _, upd_same, ?_⟩
        · rw [eT, eP]
          rfl
        · unfold boardsTo
          rw [List.range_succ, List.map_append]
          refine (al.imp fun _ _ y => (y.keep (Keep.of sz)).keep kp).snoc ?_
          show IT K _ _ [sumT evs (run.take (i + 1)), sumP evs (run.take (i + 1))]
          rw [eT, eP]
          exact (IT.new (xs := [.int (sumT evs (run.take i) + t), .int (sumP evs (run.take i) + p)]) rfl).keep kp
    · rintro σ H1 ⟨s1, u, rfl, L⟩
      rw [List.length_map] at L
      exact ⟨_, rfl, k D H1 s1 hD L⟩
theorem sc_shares : FnScope ["machine", "run", "tries", "points"] ["machine", "run"] (defScope s_shares) := ⟨rfl, rfl, rfl, by decide +kernel, rfl, by decide +kernel, by decide +kernel⟩
theorem ok_shares (T : Txt K mg A) : FnOk P w K mg base CX0 6 A.f_shares A.d_shares ["machine", "run"] (spShares K A.C_Machine) := by
  refine T.F_shares.ok sc_shares (fun vs H Q E h => ?_) (fun cdv A1 outer s H vs Q E hr h => ?_)
  · obtain ⟨m, v, n, evs, run, rfl, _⟩ := h
    rfl
  · obtain ⟨m, v, n, evs, run, rfl, hM, f4, hv, hw, hin, hl, ht, k⟩ := h
    refine ⟨_, (pss_one (ps_ret (pe_lc (own := [("tries", 2), ("points", 3)]) rfl sc_shares.nd (pi_list (pe_call (ok_boards T) (hr.mono (by decide)) rfl T.m_boards T.F_boards.kp T.B_boards .nil pass0 (pa_cons (pv 0) (pa_cons (pv 1) pa_nil)))) (blkOk_by (N := ["machine", "run", "tries", "points"]) (sc := defScope s_shares) (by decide +kernel)) (fun _ _ _ _ _ => by exact (pg_tupK K rfl 2 rfl (pgs_cons (pg_name (i := 2) sc_shares.nd rfl (Or.inl rfl)) (pgs_cons (pg_name (i := 3) sc_shares.nd rfl (Or.inl rfl)) pgs_nil)) rfl rfl)) (fun _ _ _ _ _ => by exact pts_nil) (fun _ _ _ _ _ => by exact (pe_call (ok_share_of T) (hr.mono (by decide)) rfl T.m_share_of T.F_share_of.kp T.B_share_of .nil pass0 (pa_cons (pv 3) (pa_cons (pv 2) pa_nil))))))), ?_⟩
    refine ⟨_, rfl, _, rfl, m, v, n, evs, run, rfl, hM, f4, hv, hw, hin, hl, fun D H1 s1 hD L => ?_⟩
    obtain ⟨xs, hx, al⟩ := L
    have lb : (boardsTo evs run run.length).length = run.length := by unfold boardsTo; rw [List.length_map, List.length_range]
    refine ⟨D, rfl, ⟨_, SqL.lt hx⟩, fun D2 hD2 => ?_⟩
    refine lcGL (K := K) (a := D) (xs := xs) (bs := (boardsTo evs run run.length).map shareOf) (R := fun H v b => IT K H v b) (SqL.lt hx) hD2 ?_ ?_ (fun _ _ _ _ kp z => z.keep kp) ?_ ?_
    · rw [List.length_map, lb]
      exact Nat.lt_of_le_of_lt hl (by decide)
    · rw [List.length_map, al.len]
    · intro i x b H2 Q1 Q2 hi hb s2 hq
      obtain ⟨bd, hbd, hI⟩ := al.getL hi
      rw [List.getElem?_map, hbd] at hb
      have hb' : shareOf bd = b := Option.some.inj hb
      subst hb'
      obtain ⟨j, hj, rfl⟩ : ∃ j, j < run.length ∧ bd = [sumT evs (run.take (j + 1)), sumP evs (run.take (j + 1))] := by
        unfold boardsTo at hbd
        obtain ⟨j, h1, h2⟩ := List.mem_map.mp (List.mem_of_getElem? hbd)
        exact ⟨j, List.mem_range.mp h1, h2.symm⟩
      obtain ⟨q, rfl, hq2⟩ := hI.keep (Keep.of s2)
      have bt := sumT_bd ht (hin.take (j + 1))
      have tl : (run.take (j + 1)).length = j + 1 := by rw [List.length_take]; omega
      rw [tl] at bt
      refine ⟨q, _, rfl, hq2, rfl, .int (sumT evs (run.take (j + 1))), [.int (sumP evs (run.take (j + 1)))], rfl, .int (sumP evs (run.take (j + 1))), [], rfl, rfl, rfl, ?_⟩
      refine ⟨_, rfl, _, rfl, _, _, rfl, by omega, small_of (by omega), fun z H3 s3 hz hI3 => hq _ _ s3 hI3⟩
    · intro H2 acc s2 hA al2
      refine k D2 H2 (s1.trans s2) ?_ ⟨acc, hA, al2⟩
      exact s1.free hD2
theorem walk_take {evs : List (List Int)} {run : List Int} (h : (walkTo evs 0 run).isSome = true) (n : Nat) : (walkTo evs 0 (run.take n)).isSome = true := by
  rw [← List.take_append_drop n run, walkTo_app] at h
  cases z : walkTo evs 0 (run.take n) with
  | none => rw [z] at h; cases h
  | some s => rfl
theorem sumP_bd {evs : List (List Int)} {B : Int} (hB : 0 ≤ B) (h : ∀ e ∈ evs, -B ≤ evP e ∧ evP e ≤ B) : ∀ {run : List Int}, InEv evs run → -(B * run.length) ≤ sumP evs run ∧ sumP evs run ≤ B * run.length
  | [], _ => by
    have e : B * (([] : List Int).length : Int) = 0 := by simp
    have e2 : sumP evs [] = 0 := rfl
    rw [e, e2]; exact ⟨by decide, by decide⟩
  | k :: r, hin => by
    obtain ⟨h0, h1⟩ := hin k (by simp)
    have ih := sumP_bd hB h (run := r) fun y hy => hin y (by simp [hy])
    have hk : k.toNat < evs.length := by omega
    have he : evs.getD k.toNat [] ∈ evs := by rw [List.getD_eq_getElem?_getD, List.getElem?_eq_getElem hk]; exact List.getElem_mem hk
    obtain ⟨t0, t1⟩ := h _ he
    have e : sumP evs (k :: r) = evP (evs.getD k.toNat []) + sumP evs r := rfl
    have e2 : B * (((k :: r).length : Nat) : Int) = B * (r.length : Int) + B := by rw [List.length_cons]; show B * ((r.length : Int) + 1) = _; rw [Int.mul_add, Int.mul_one]
    rw [e, e2]
    omega
theorem okEv.bT {n : Int} {e : List Int} (h : okEv n e) : 1 ≤ evT e ∧ evT e ≤ 1000 := by
  obtain ⟨b, a, t, p, rfl, _, _, _, _, h1, h2, _, _⟩ := h
  exact ⟨h1, by show t ≤ 1000; omega⟩
theorem okEv.bP {n : Int} {e : List Int} (h : okEv n e) : -400 ≤ evP e ∧ evP e ≤ 400 := by
  obtain ⟨b, a, t, p, rfl, _, _, _, _, _, _, h1, h2⟩ := h
  exact ⟨h1, h2⟩
/-- a slice of a tuple of ints from its begin on -/
theorem slTo {K : PySem.W.Frag} {q : Addr} {run : List Int} {i : Nat} {z : Int} {H : Hp} {P : Addr → Hp → Prop} (ez : z = (i : Int)) (h : SqT K H q (run.map V.int)) (k : ∀ v H', Same H H' → IT K H' (.ref v) (run.take i) → P v H') :
    ∃ a xs, V.ref q = .ref a ∧ SqT K H a xs ∧ (HT.sIx xs.length 0 none = 0 ∧ HT.sIx xs.length xs.length (some z) = xs.length → P a H) ∧
      (¬ (HT.sIx xs.length 0 none = 0 ∧ HT.sIx xs.length xs.length (some z) = xs.length) → ∀ p, H p = none → P p (upd H p (.tup (cutV xs none (some z))))) := by
  subst ez
  have cut : cutV (run.map V.int) none (some (i : Int)) = (run.take i).map V.int := by
    unfold cutV
    rw [HT.sIx_none, HT.sIx_nat, List.drop_zero, Nat.sub_zero, List.map_take, List.length_map]
    by_cases c : i ≤ run.length
    · rw [Nat.min_eq_left c]
    · rw [Nat.min_eq_right (by omega), List.take_of_length_le (by rw [List.length_map]; exact Nat.le_refl _), List.take_of_length_le (by rw [List.length_map]; omega)]
  refine ⟨q, _, rfl, h, fun e => ?_, fun _ p hp => ?_⟩
  · rw [HT.sIx_nat, List.length_map] at e
    have le : run.length ≤ i := by omega
    refine k q H (Same.refl H) ⟨q, rfl, ?_⟩
    rw [List.take_of_length_le le]
    exact h
  · rw [cut]
    exact k p _ (Same.new hp) (IT.new rfl)
theorem last_of {α : Type} {xs : List α} {n : Nat} {y : α} (h : xs.length = n + 1) (hy : xs[n]? = some y) : atI xs (-1) = some y := by
  unfold atI ixN
  rw [if_neg (by decide), if_pos (by omega)]
  have e : (-1 + ((xs.length : Nat) : Int)).toNat = n := by omega
  show xs[(-1 + ((xs.length : Nat) : Int)).toNat]? = some y
  rw [e]
  exact hy
theorem boardsTo_last {evs : List (List Int)} {run : List Int} {n : Nat} (h : run.length = n + 1) : (boardsTo evs run run.length)[n]? = some [sumT evs run, sumP evs run] := by
  unfold boardsTo
  rw [List.getElem?_map, List.getElem?_range (by omega)]
  show some [sumT evs (run.take (n + 1)), sumP evs (run.take (n + 1))] = _
  rw [List.take_of_length_le (by omega)]
def signI (n : Int) : Int := (if decide (0 < n) = true then 1 else 0) - (if decide (n < 0) = true then 1 else 0)
theorem sign_mul {g n : Int} (h : 0 < g) : signI (g * n) = signI n := by
  have h1 : (0 < g * n) ↔ (0 < n) := ⟨fun z => by
    by_cases c : 0 < n
    · exact c
    · exact absurd z (Int.not_lt.mpr (Int.mul_nonpos_of_nonneg_of_nonpos (Int.le_of_lt h) (by omega))), fun z => Int.mul_pos h z⟩
  have h2 : (g * n < 0) ↔ (n < 0) := ⟨fun z => by
    by_cases c : n < 0
    · exact c
    · exact absurd z (Int.not_lt.mpr (Int.mul_nonneg (Int.le_of_lt h) (by omega))), fun z => Int.mul_neg_of_pos_of_neg h z⟩
  unfold signI
  rw [decide_eq_decide.mpr h1, decide_eq_decide.mpr h2]
/-- the share that a board shows is below, at, above a / b as the value is below, at, above 0 -/
theorem sign_share {P T a b : Int} (hT : 0 < T) : signI (P / gcdI P T * b - a * (T / gcdI P T)) = signI (b * P - a * T) := by
  have g0 := gcdI_pos (p := P) hT
  have d1 : gcdI P T ∣ P := Int.ofNat_dvd_left.mpr (Nat.gcd_dvd_left _ _)
  have d2 : gcdI P T ∣ T := Int.ofNat_dvd_left.mpr (Nat.gcd_dvd_right _ _)
  have e1 := Int.mul_ediv_cancel' d1
  have e2 := Int.mul_ediv_cancel' d2
  rw [← sign_mul (n := P / gcdI P T * b - a * (T / gcdI P T)) g0]
  congr 1
  rw [Int.mul_sub, ← Int.mul_assoc, e1, ← Int.mul_assoc, Int.mul_comm (gcdI P T) a, Int.mul_assoc, e2, Int.mul_comm P b]
theorem low_bd {P T : Int} (hT : 0 < T) : (P / gcdI P T).natAbs ≤ P.natAbs ∧ 1 ≤ T / gcdI P T ∧ T / gcdI P T ≤ T := by
  obtain ⟨_, l2, l3⟩ := low_one (p := P) hT
  refine ⟨?_, l2, l3⟩
  have d1 : gcdI P T ∣ P := Int.ofNat_dvd_left.mpr (Nat.gcd_dvd_left _ _)
  rw [Int.natAbs_ediv_of_dvd d1]
  exact Nat.div_le_self _ _
theorem gcd_shift {a b k : Int} : gcdI (a + k * b) b = gcdI a b := by
  have e : ∀ x y : Int, gcdI x y = ((Int.gcd x y : Nat) : Int) := fun _ _ => rfl
  rw [e, e, Int.gcd_add_mul_right_left]
/-- so many points more for each try -/
def shiftE (k : Int) (e : List Int) : List Int := [evB e, evA e, evT e, evP e + k * evT e]
theorem getD_shift {k : Int} {evs : List (List Int)} {j : Int} (h0 : 0 ≤ j) (h1 : j < (evs.length : Int)) : (evs.map (shiftE k)).getD j.toNat [] = shiftE k (evs.getD j.toNat []) := by
  have hj : j.toNat < evs.length := by omega
  rw [List.getD_eq_getElem?_getD, List.getD_eq_getElem?_getD, List.getElem?_map, List.getElem?_eq_getElem hj]
  rfl
theorem walk_shift {k : Int} {evs : List (List Int)} : ∀ (run : List Int) (s : Int), InEv evs run → walkTo (evs.map (shiftE k)) s run = walkTo evs s run
  | [], s, _ => rfl
  | j :: r, s, hin => by
    obtain ⟨h0, h1⟩ := hin j (by simp)
    have ih := fun s => walk_shift (k := k) r s fun y hy => hin y (by simp [hy])
    show (if _ then walkTo _ _ r else none) = (if _ then walkTo _ _ r else none)
    rw [getD_shift h0 h1, List.length_map, ih]
    rfl
theorem sum_shift {k : Int} {evs : List (List Int)} : ∀ (run : List Int), InEv evs run → sumT (evs.map (shiftE k)) run = sumT evs run ∧ sumP (evs.map (shiftE k)) run = sumP evs run + k * sumT evs run
  | [], _ => ⟨rfl, by show (0 : Int) = 0 + k * 0; rw [Int.mul_zero]; rfl⟩
  | j :: r, hin => by
    obtain ⟨h0, h1⟩ := hin j (by simp)
    obtain ⟨i1, i2⟩ := sum_shift (k := k) r fun y hy => hin y (by simp [hy])
    have e1 : sumT (evs.map (shiftE k)) (j :: r) = evT ((evs.map (shiftE k)).getD j.toNat []) + sumT (evs.map (shiftE k)) r := rfl
    have e2 : sumP (evs.map (shiftE k)) (j :: r) = evP ((evs.map (shiftE k)).getD j.toNat []) + sumP (evs.map (shiftE k)) r := rfl
    have e3 : sumT evs (j :: r) = evT (evs.getD j.toNat []) + sumT evs r := rfl
    have e4 : sumP evs (j :: r) = evP (evs.getD j.toNat []) + sumP evs r := rfl
    rw [e1, e2, e3, e4, getD_shift h0 h1, i1, i2]
    refine ⟨rfl, ?_⟩
    show (evP (evs.getD j.toNat []) + k * evT (evs.getD j.toNat [])) + (sumP evs r + k * sumT evs r) = _
    rw [Int.mul_add]
    omega
theorem val_shift {a b k t p : Int} : b * (p + k * t) - (a + k * b) * t = b * p - a * t := by
  rw [Int.mul_add, Int.add_mul, Int.mul_assoc, Int.mul_left_comm b k t]
  omega
theorem all2_bl {as : List V} {bs : List Bool} (h : All2 (fun v b => v = .bl b) as bs) : as = bs.map V.bl := by
  induction h with
  | nil => rfl
  | cons e _ ih => rw [e, ih]; rfl
/-- points beyond 400 -/
def far (e : List Int) : Bool := decide ((400 : Int) < (if evP e < 0 then -evP e else evP e))
theorem shift_ok {n k : Int} {evs : List (List Int)} (ok : ∀ e ∈ evs, okEv n e) (h : ((evs.map (shiftE k)).map far).any id = false) : ∀ e ∈ evs.map (shiftE k), okEv n e := by
  intro e he
  obtain ⟨e0, h0, rfl⟩ := List.mem_map.mp he
  obtain ⟨b, a, t, p, rfl, h1, h2, h3, h4, h5, h6, h7, h8⟩ := ok e0 h0
  have nf : far (shiftE k [b, a, t, p]) = false := by
    have z := (List.any_eq_false.mp h) (far (shiftE k [b, a, t, p])) (List.mem_map.mpr ⟨_, he, rfl⟩)
    simpa using z
  have nf2 := of_decide_eq_false nf
  have ep : evP (shiftE k [b, a, t, p]) = p + k * t := rfl
  rw [ep] at nf2
  refine ⟨b, a, t, p + k * t, rfl, h1, h2, h3, h4, h5, h6, ?_, ?_⟩
  · split at nf2 <;> omega
  · split at nf2 <;> omega

end
end Myk56

namespace Myk56
open PySem L2 My EnT
-- Same from behind
local macro_rules | `(tactic| nest_cls) => `(tactic| first
  | exact Same.refl _
  | assumption
  | (refine Same.back (Same.new (by assumption)) ?_; nest_cls)
  | (refine Same.back (by assumption) ?_; nest_cls)
  | (refine Same.chg ?_ (by first | assumption | exact Free.flip (by assumption) (by nest_cls)); nest_cls))
-- Keep from behind
local macro_rules | `(tactic| mem_news) => `(tactic| first
  | exact Keep.refl _
  | assumption
  | (refine Keep.back (Keep.new (by assumption)) ?_; mem_news)
  | (refine Keep.back (Keep.lst (by assumption)) ?_; mem_news)
  | (refine Keep.back (Keep.lst (by kd_adr)) ?_; mem_news)
  | (refine Keep.back (Keep.of (by assumption)) ?_; mem_news)
  | (refine Keep.back (Keep.ofBut (by assumption) (by kba_ints)) ?_; mem_news)
  | (refine Keep.back (by assumption) ?_; mem_news))
-- the pot
local macro_rules | `(tactic| kba_ints) => `(tactic| first
  | assumption
  | (refine Pt.At.back (Same.new (by assumption)) ?_; kba_ints)
  | (refine Pt.At.back (by assumption) ?_; kba_ints)
  | exact Pt.At.flip (by assumption) (by nest_cls))
-- a fact of a heap, from behind
local macro_rules | `(tactic| kd_adr) => `(tactic| first
  | ((with_reducible show IT _ _ _ _); first
    | assumption
    | exact IT.new2
    | exact IT.new1
    | exact IT.new3
    | exact IT.new4
    | exact IT.flip (by assumption) (by mem_news)
    | exact IT.flip IT.new2 (by mem_news)
    | exact IT.flip IT.new3 (by mem_news)
    | exact IT.flip IT.new1 (by mem_news)
    | exact IT.flip IT.new4 (by mem_news))
  | ((with_reducible show ITs _ _ _ _); first
    | assumption
    | exact ITs.flip (by assumption) (by mem_news))
  | ((with_reducible show SqT _ _ _ _); first
    | assumption
    | exact SqT.lt upd_same
    | exact SqT.lt (by assumption)
    | exact IT.sq (by assumption)
    | exact SqT.flip (by assumption) (by mem_news)
    | exact SqT.flip (SqT.lt (by assumption)) (by mem_news)
    | exact SqT.flip (IT.sq (by assumption)) (by mem_news)
    | exact SqT.flip (SqT.lt upd_same) (by mem_news))
  | ((with_reducible show SqL _ _ _ _); first
    | assumption
    | exact SqL.lt upd_same
    | exact SqL.lt (by assumption)
    | exact SqL.flip (by assumption) (by nest_cls)
    | exact SqL.flip (SqL.lt (by assumption)) (by nest_cls)
    | exact SqL.flip (SqL.lt upd_same) (by nest_cls))
  | ((with_reducible show Parts _ _ _ _ _); first | assumption | exact Parts.flip (by assumption) (by mem_news))
  | ((with_reducible show MachAt _ _ _ _ _ _); first | assumption | exact MachAt.flip (by assumption) (by mem_news))
  | ((with_reducible show ShIs _ _ _ _ _); first | assumption | exact ShIs.flip (by assumption) (by mem_news))
  | ((with_reducible show RunIs _ _ _ _ _); first | assumption | exact RunIs.flip (by assumption) (by mem_news))
  | ((with_reducible show LTs _ _ _ _); first | assumption | exact LTs.flip (by assumption) (by nest_cls))
  | ((with_reducible show Pt.At _ _); kba_ints)
  | ((with_reducible show Same _ _); nest_cls)
  | ((with_reducible show Keep _ _); mem_news)
  | ((with_reducible show (_ : Hp) _ = some _); first
    | assumption
    | exact upd_same
    | exact At.flip (by assumption) (by nest_cls)
    | exact At.flip upd_same (by nest_cls)))
-- a side condition
local macro_rules | `(tactic| leaf_len) => `(tactic| first
  | (with_reducible rfl)
  | (with_reducible assumption)
  | kd_adr
  | omega
  | ((with_reducible show (_ : Nat) ≤ sizeLine); first | (show 1 ≤ sizeLine; decide) | (show 2 ≤ sizeLine; decide) | (show 3 ≤ sizeLine; decide) | (show 4 ≤ sizeLine; decide) | (show 5 ≤ sizeLine; decide) | (show 6 ≤ sizeLine; decide) | (show 7 ≤ sizeLine; decide) | (show 8 ≤ sizeLine; decide) | (show 0 ≤ sizeLine; decide))
  | exact rfl
  | ((with_reducible show _ ∨ _); first | exact Or.inl (by leaf_len) | exact Or.inr (by leaf_len))
  | exact List.cons_ne_nil _ _
  | exact mf_ev _ _
  | exact mf_st _ _
  | exact flat_ints _
  | ((with_reducible show tyV _ _ _ _); exact Or.inl ⟨rfl, _, by kd_adr⟩)
  | ((with_reducible show ClsV _ _); exact ClsV.ty _)
  | ((with_reducible show CDivW _ _); exact CDivW.of (by omega) (by omega))
  | (apply Exists.intro (α := List V); kd_adr)
  | assumption
  | ((with_reducible show small _); unfold small; omega)
  | ((with_reducible show CPow _ _); exact ⟨by decide, by decide, by decide⟩)
  | ((with_reducible show CMul _ _); first | exact CMul.l (by omega) (by omega) | exact CMul.r (by omega) (by omega))
  | ((with_reducible show CMulW _ _); exact CMulW.of (by omega) (by omega))
  | ((with_reducible show TyX _ _ _ _); first | exact TyX.base (.int _) | exact TyX.base (.str _) | exact TyX.base (.bl _) | exact tyT (by kd_adr) | exact TyX.base (.lst (by kd_adr)))
  | ((with_reducible show PySem.W.kitOne _ _ _ = some _); first | exact kit_ty (r := true) (by decide +kernel) | exact kit_ty (r := false) (by decide +kernel))
  | decide)
-- a step
local macro_rules | `(tactic| l_ints) => `(tactic| first
  | (intro (p : Addr) (hp : (_ : Hp) p = none))
  | (intro (H' : Hp) (s : Same _ H'))
  | (intro (p : Addr) (H' : Hp) (s : Same _ H'))
  | (intro (h : IT _ _ _ _))
  | (intro (h : SqT _ _ _ _))
  | (intro (h : (_ : Hp) _ = none))
  | (intro (h : (_ : Hp) _ = some _))
  | ((with_reducible show rCatA _ _ _ _ _); refine catJ (by kd_adr) (by kd_adr) (by leaf_len) ?_)
  | ((with_reducible show rSlA _ _ none (some _) _ _); refine slTake (by kd_adr) (by omega) ?_)
  | with_reducible refine tC_i ?_
  | with_reducible refine tNil_i ?_
  | with_reducible refine tCons_i ?_
  | with_reducible refine tCall_i ?_
  | with_reducible refine tOp_i ?_
  | ((with_reducible refine tVar_i ?_ ?_); · exact rfl)
  | with_reducible refine iteT ?_
  | with_reducible refine iteF ?_
  | (with_reducible refine iteNEq ?_ ?_; · assumption)
  | (with_reducible refine iteNb ?_ ?_; · assumption)
  | (with_reducible refine iteTb ?_ ?_; · assumption)
  | (with_reducible refine iteFb ?_ ?_; · assumption)
  | ((with_reducible refine iteFb ?_ ?_); · exact rfl)
  | ((with_reducible refine iteTb ?_ ?_); · exact rfl)
  | with_reducible refine iteST rfl ?_
  | with_reducible refine iteSF (by decide +kernel) ?_
  | (refine And.intro ?_ ?_; · leaf_len)
  | apply Exists.intro (α := V)
  | apply Exists.intro (α := Int)
  | apply Exists.intro (α := Addr)
  | apply Exists.intro (α := List V)
  | apply Exists.intro (α := Str)
  | apply Exists.intro (α := Nat)
  | apply Exists.intro (α := Bool)
  | apply Exists.intro (α := Value)
  | apply Exists.intro (α := List Int)
  | apply Exists.intro (α := List (List Int))
  | apply Exists.intro (α := List Bool)
  | apply Exists.intro (α := List (Str × V))
  | apply Exists.intro (α := Option (List (Option Int)))
  | apply Exists.intro (α := Option Int)
  | apply Exists.intro (α := Pt)
  | refine Or.inr ⟨_, rfl, ?_⟩
  | apply Or.inl)

section
variable {P : Program} {w : World} {K : PySem.W.Frag} {mg : Str → Option Value} {base : Heap} {A : Ad}
/-- any value, and the whole number that it is -/
inductive Odd (K : PySem.W.Frag) (H : Hp) : V → Option Int → Prop
  | int (n : Int) : Odd K H (.int n) (some n)
  | bl (b : Bool) : Odd K H (.bl b) none
  | oth {v : V} {s : Value} (t : TyX K H v s) (h1 : PySem.W.kitOne K s (.type "int") = some false) (h2 : PySem.W.kitOne K s (.type "bool") = some false) : Odd K H v none
def inB (o : Option Int) (l h : Int) : Bool := match o with
  | some n => decide (l ≤ n ∧ n ≤ h)
  | none => false
/-- is_whole, is_between of any value -/
def spWholeO (K : PySem.W.Frag) : Sp := fun vs H Q _ => ∃ (v : V) (o : Option Int), vs = [v] ∧ Odd K H v o ∧ Q (.bl o.isSome) H
def spBetweenO (K : PySem.W.Frag) : Sp := fun vs H Q _ => ∃ (v : V) (o : Option Int) (l h : Int), vs = [v, .int l, .int h] ∧ Odd K H v o ∧ Q (.bl (inB o l h)) H


theorem okO_is_whole (T : Txt K mg A) : FnOk P w K mg base CX0 1 A.f_is_whole A.d_is_whole ["thing"] (spWholeO K) := by
  refine T.F_is_whole.ok sc_is_whole (fun vs H Q E h => ?_) (fun cdv A1 outer s H vs Q E hr h => ?_)
  · obtain ⟨v, o, rfl, _⟩ := h
    rfl
  · obtain ⟨v, o, rfl, ho, q⟩ := h
    refine ⟨_, (pss_one (ps_ret (pe_and (pe_callB (call_isK K rfl) (by rfl) T.z_isinstance (by decide +kernel) (pa_cons (pv 0) (pa_cons (pe_bltn (v := .ty "int") (u := .type "int") rfl T.z_int (by decide +kernel) rfl) pa_nil))) (pe_one (pe_not (pe_callB (call_isK K rfl) (by rfl) T.z_isinstance (by decide +kernel) (pa_cons (pv 0) (pa_cons (pe_bltn (v := .ty "bool") (u := .type "bool") rfl T.z_bool (by decide +kernel) rfl) pa_nil)))))))), ?_⟩
    cases ho with
    | int n =>
      refine ⟨_, rfl, _, _, _, _, _, rfl, .ty _, .base (.int _), kit_ty (by decide +kernel), true, rfl, ?_⟩
      exact iteT ⟨_, rfl, _, _, _, _, _, rfl, .ty _, .base (.int _), kit_ty (r := false) (by decide +kernel), false, rfl, q⟩
    | bl b =>
      refine ⟨_, rfl, _, _, _, _, _, rfl, .ty _, .base (.bl _), kit_ty (r := true) (by decide +kernel), true, rfl, ?_⟩
      exact iteT ⟨_, rfl, _, _, _, _, _, rfl, .ty _, .base (.bl _), kit_ty (r := true) (by decide +kernel), true, rfl, q⟩
    | oth t h1 h2 => exact ⟨_, rfl, _, _, _, _, _, rfl, .ty _, t, h1, false, rfl, iteF q⟩

theorem okO_is_between (T : Txt K mg A) : FnOk P w K mg base CX0 2 A.f_is_between A.d_is_between ["thing", "low", "high"] (spBetweenO K) := by
  refine T.F_is_between.ok sc_is_between (fun vs H Q E h => ?_) (fun cdv A1 outer s H vs Q E hr h => ?_)
  · obtain ⟨v, o, l, h, rfl, _⟩ := h
    rfl
  · obtain ⟨v, o, l, hh, rfl, ho, q⟩ := h
    refine ⟨_, (pss_one (ps_ret (pe_and (pe_call (okO_is_whole T) (hr.mono (by decide)) rfl T.m_is_whole T.F_is_whole.kp T.B_is_whole .nil pass0 (pa_cons (pv 0) pa_nil)) (pe_one (pe_chain op_le op_le (pv 1) (pv 0) (pv 2)))))), ?_⟩
    cases o with
    | none => exact ⟨_, rfl, v, none, rfl, ho, false, rfl, iteF q⟩
    | some n =>
      cases ho
      refine ⟨_, rfl, _, some n, rfl, .int n, true, rfl, iteT ?_⟩
      refine ⟨_, rfl, _, rfl, _, _, rfl, rfl, _, rfl, ?_⟩
      have q : Q (.bl (decide (l ≤ n ∧ n ≤ hh))) H := q
      by_cases h1 : l ≤ n
      · rw [decide_eq_true h1]
        refine iteT ⟨_, rfl, _, _, rfl, rfl, ?_⟩
        have e : decide (l ≤ n ∧ n ≤ hh) = decide (n ≤ hh) := by simp [h1]
        rw [e] at q
        exact q
      · rw [decide_eq_false h1]
        have e : decide (l ≤ n ∧ n ≤ hh) = false := by simp [h1]
        rw [e] at q
        exact iteF q
/-- where a row of any values leads -/
def walkO (evs : List (List Int)) : Int → List (Option Int) → Bool
  | _, [] => true
  | s, none :: _ => false
  | s, some k :: r => if 0 ≤ k ∧ k < (evs.length : Int) ∧ evB (evs.getD k.toNat []) = s then walkO evs (evA (evs.getD k.toNat [])) r else false
theorem walkO_some (evs : List (List Int)) : ∀ (run : List Int) (s : Int), walkO evs s (run.map some) = (walkTo evs s run).isSome
  | [], _ => rfl
  | k :: r, s => by
    show (if _ then walkO evs _ (r.map some) else false) = (if _ then walkTo evs _ r else none).isSome
    rw [walkO_some evs r]
    split <;> rfl
/-- any value, and its items where it is a tuple -/
inductive Thg (K : PySem.W.Frag) (H : Hp) : V → Option (List (Option Int)) → Prop
  | tup {a : Addr} {xs : List V} {os : List (Option Int)} (h : SqT K H a xs) (al : All2 (Odd K H) xs os) : Thg K H (.ref a) (some os)
  | not {v : V} {s : Value} (t : TyX K H v s) (h : PySem.W.kitOne K s (.type "tuple") = some false) : Thg K H v none
def runO (evs : List (List Int)) (o : Option (List (Option Int))) : Bool := match o with
  | some os => walkO evs 0 os
  | none => false
def spHasO (K : PySem.W.Frag) (C : Addr) : Sp := fun vs H Q _ => ∃ (m v : V) (o : Option Int) (n : Int) (evs : List (List Int)), vs = [m, v] ∧ MachAt K C H m n evs ∧ Odd K H v o ∧ Q (.bl (inB o 0 ((evs.length : Int) - 1))) H
def spRunO (K : PySem.W.Frag) (C : Addr) : Sp := fun vs H Q _ => ∃ (m v : V) (o : Option (List (Option Int))) (n : Int) (evs : List (List Int)), vs = [m, v] ∧ MachAt K C H m n evs ∧ (∀ e ∈ evs, Four e) ∧ Thg K H v o ∧ Q (.bl (runO evs o)) H


theorem okO_has_event (T : Txt K mg A) : FnOk P w K mg base CX0 3 A.f_has_event A.d_has_event ["machine", "thing"] (spHasO K A.C_Machine) := by
  refine T.F_has_event.ok sc_has_event (fun vs H Q E h => ?_) (fun cdv A1 outer s H vs Q E hr h => ?_)
  · obtain ⟨m, v, o, n, evs, rfl, _⟩ := h
    rfl
  · obtain ⟨m, v, o, n, evs, rfl, hM, ho, q⟩ := h
    refine ⟨_, (pss_one (ps_ret (pe_call (okO_is_between T) (hr.mono (by decide)) rfl T.m_is_between T.F_is_between.kp T.B_is_between .nil pass0 (pa_cons (pv 1) (pa_cons pe_int (pa_cons (pe_op op_sub (pe_callB (call_lenK K rfl) (by rfl) T.z_len (by decide +kernel) (pa_cons (pe_fldK K rfl (pv 0) (by rfl)) pa_nil)) pe_int) pa_nil)))))), ?_⟩
    refine ⟨_, rfl, _, rfl, fldE hM T.cl_Machine T.n_events fun w hw => lenT hw fun ys e => ?_⟩
    rw [e]
    exact ⟨_, _, rfl, rfl, v, o, 0, (evs.length : Int) - 1, rfl, ho, q⟩

theorem okO_is_run (T : Txt K mg A) : FnOk P w K mg base CX0 4 A.f_is_run A.d_is_run ["machine", "thing"] (spRunO K A.C_Machine) := by
  refine T.F_is_run.ok sc_is_run (fun vs H Q E h => ?_) (fun cdv A1 outer s H vs Q E hr h => ?_)
  · obtain ⟨m, v, o, n, evs, rfl, _⟩ := h
    rfl
  · obtain ⟨m, v, o, n, evs, rfl, hM, f4, hT, q⟩ := h
    refine ⟨_, (pss_cons (ps_if (pt_not (pt_val (pe_callB (call_isK K rfl) (by rfl) T.z_isinstance (by decide +kernel) (pa_cons (pv 1) (pa_cons (pe_bltn (v := .ty "tuple") (u := .type "tuple") rfl T.z_tuple (by decide +kernel) rfl) pa_nil))))) (pss_one (ps_ret pe_bl)) pss_nil)
      (pss_cons (ps_set (i := 2) sc_is_run.nd rfl (Or.inl rfl) pe_int)
      (pss_cons (ps_for PassesOwn.never rfl (pi_tup (pv 1)) (pg_name (i := 3) sc_is_run.nd rfl (Or.inl rfl))
        (pss_cons (ps_if (PW.pt (pw_or (pt_not (pt_val (pe_call (okO_has_event T) (hr.mono (by decide)) rfl T.m_has_event T.F_has_event.kp T.B_has_event .nil pass0 (pa_cons (pv 0) (pa_cons (pv 3) pa_nil))))) (pw_or1 (pt_cmpR op_ne (pe_ix (ix_tupK K rfl) (pe_ix (ix_tupK K rfl) (pe_fldK K rfl (pv 0) (by rfl)) (pv 3) (fun _ _ => rfl)) pe_int (fun _ _ => rfl)) (pv 2) (nomark _))))) (pss_one (ps_ret pe_bl)) pss_nil)
      (pss_one (ps_set (i := 2) sc_is_run.nd rfl (Or.inl rfl) (pe_ix (ix_tupK K rfl) (pe_ix (ix_tupK K rfl) (pe_fldK K rfl (pv 0) (by rfl)) (pv 3) (fun _ _ => rfl)) pe_int (fun _ _ => rfl))))))
      (pss_one (ps_ret pe_bl))))), ?_⟩
    cases hT with
    | not t h => exact ⟨_, rfl, _, _, _, _, _, rfl, .ty _, t, h, false, rfl, iteT q⟩
    | @tup a xs os hx al =>
      refine ⟨_, rfl, isT rfl hx ⟨true, rfl, iteF ⟨_, rfl, a, rfl, ⟨_, hx⟩, ?_⟩⟩⟩
      have q : Q (.bl (walkO evs 0 os)) H := q
      refine for_tup (K := K) (a := a) (xs := xs) (fun i σ H' => H' = H ∧ ∃ (s : Int) (u : Option V), σ = [some m, some (.ref a), some (.int s), u] ∧ walkO evs 0 os = walkO evs s (os.drop i))
        ⟨rfl, 0, none, rfl, rfl⟩ (fun i σ H' _ z => z.1 ▸ hx) ?_ ?_
      · rintro i y σ H1 hi ⟨rfl, s, u, rfl, hw⟩
        obtain ⟨o, ho, hO⟩ := al.getL hi
        have dr : os.drop i = o :: os.drop (i + 1) := by
          obtain ⟨h1, h2⟩ := List.getElem?_eq_some_iff.mp ho
          rw [List.drop_eq_getElem_cons h1, h2]
        rw [dr] at hw
        refine ⟨_, rfl, _, rfl, m, y, o, n, evs, rfl, hM, hO, _, rfl, ?_⟩
        cases o with
        | none =>
          refine iteT ?_
          have e : walkO evs 0 os = false := hw
          rw [e] at q
          exact q
        | some k =>
          cases hO
          show if (!decide (0 ≤ k ∧ k ≤ (evs.length : Int) - 1)) = true then _ else _
          by_cases c : 0 ≤ k ∧ k ≤ (evs.length : Int) - 1
          · rw [decide_eq_true c]
            obtain ⟨b, a', t, p, e1, e2⟩ := ev_at f4 c.1 (by omega)
            refine iteF ⟨_, rfl, fldE hM T.cl_Machine T.n_events fun w hw2 => ⟨_, rfl, ixT hw2 c.1 e1 fun z hz => ixI hz (by decide) rfl ⟨_, rfl, rfl, _, rfl, ?_⟩⟩⟩
            by_cases cb : b = s
            · have ed : decide (V.int b = V.int s) = true := decide_eq_true (congrArg V.int cb)
              rw [ed]
              refine iteF ⟨_, rfl, fldE hM T.cl_Machine T.n_events fun w3 hw3 => ⟨_, rfl, ixT hw3 c.1 e1 fun z3 hz3 => ixI hz3 (by decide) rfl ⟨rfl, a', _, rfl, ?_⟩⟩⟩
              rw [hw]
              show (if 0 ≤ k ∧ k < (evs.length : Int) ∧ evB (evs.getD k.toNat []) = s then walkO evs (evA (evs.getD k.toNat [])) _ else false) = _
              rw [e2, if_pos ⟨c.1, by omega, cb⟩]
              rfl
            · have ed : decide (V.int b = V.int s) = false := decide_eq_false fun z => cb (by injection z)
              rw [ed]
              refine iteT ?_
              have e : walkO evs 0 os = false := by
                rw [hw]
                show (if 0 ≤ k ∧ k < (evs.length : Int) ∧ evB (evs.getD k.toNat []) = s then _ else false) = false
                rw [e2]
                exact if_neg fun z => cb z.2.2
              rw [e] at q
              exact q
          · rw [decide_eq_false c]
            refine iteT ?_
            have e : walkO evs 0 os = false := by
              rw [hw]
              exact if_neg fun z => c ⟨z.1, by omega⟩
            rw [e] at q
            exact q
      · rintro σ H1 ⟨rfl, s, u, rfl, hw⟩
        rw [al.len, List.drop_length] at hw
        have e : walkO evs 0 os = true := hw
        rw [e] at q
        exact q
def spCheckShare (K : PySem.W.Frag) : Sp := fun vs H Q _ => ∃ (x : V) (a b : Int), vs = [x] ∧ IT K H x [a, b] ∧ 1 ≤ b ∧ gcdI a b = 1 ∧ Q .non H
def spLiftOf3 (K : PySem.W.Frag) : Sp := fun vs H Q _ => ∃ (x : V) (a b t p : Int), vs = [x, .int t, .int p] ∧ IT K H x [a, b] ∧ -(2 ^ 64) < t ∧ t < 2 ^ 64 ∧ -(2 ^ 64) < p ∧ p < 2 ^ 64 ∧ Q (.int (b * p - a * t)) H

theorem sc_check_share : FnScope ["thing"] ["thing"] (defScope s_check_share) := ⟨rfl, rfl, rfl, by decide +kernel, rfl, by decide +kernel, by decide +kernel⟩
theorem ok_check_share (T : Txt K mg A) : FnOk P w K mg base CX0 4 A.f_check_share A.d_check_share ["thing"] (spCheckShare K) := by
  refine T.F_check_share.ok sc_check_share (fun vs H Q E h => ?_) (fun cdv A1 outer s H vs Q E hr h => ?_)
  · obtain ⟨x, a, b, rfl, _⟩ := h
    rfl
  · obtain ⟨x, a, b, rfl, hx, hb, hg, q⟩ := h
    refine ⟨_, (pss_one (ps_if (pt_not (pt_val (pe_call (ok_is_share T) (hr.mono (by decide)) rfl T.m_is_share T.F_is_share.kp T.B_is_share .nil pass0 (pa_cons (pv 0) pa_nil)))) (pss_one ps_never) pss_nil)), ?_⟩
    repeat l_ints
    all_goals exact q
theorem sc_lift_of : FnScope ["share", "tries", "points"] ["share", "tries", "points"] (defScope s_lift_of) := ⟨rfl, rfl, rfl, by decide +kernel, rfl, by decide +kernel, by decide +kernel⟩
theorem ok_lift_of (T : Txt K mg A) : FnOk P w K mg base CX0 1 A.f_lift_of A.d_lift_of ["share", "tries", "points"] (spLiftOf3 K) := by
  refine T.F_lift_of.ok sc_lift_of (fun vs H Q E h => ?_) (fun cdv A1 outer s H vs Q E hr h => ?_)
  · obtain ⟨x, a, b, t, p, rfl, _⟩ := h
    rfl
  · obtain ⟨x, a, b, t, p, rfl, hx, t0, t1, p0, p1, q⟩ := h
    obtain ⟨r, rfl, hr2⟩ := id hx
    refine ⟨_, (pss_one (ps_ret (pe_op op_sub (pe_op op_mul (pe_ix (ix_tupK K rfl) (pv 0) pe_int (fun _ _ => rfl)) (pv 2)) (pe_op op_mul (pe_ix (ix_tupK K rfl) (pv 0) pe_int (fun _ _ => rfl)) (pv 1))))), ?_⟩
    repeat l_ints
    all_goals exact q
def wy : Bool → Str
  | true => "up"
  | false => "down"
def spWayR : Sp := fun vs H Q _ => ∃ (z : Str) (u : Bool), vs = [.str z] ∧ z = wy u ∧ Q (.bl true) H
def spCheckWay : Sp := fun vs H Q _ => ∃ (z : Str) (u : Bool), vs = [.str z] ∧ z = wy u ∧ Q .non H
def valB (evs : List (List Int)) (a b : Int) (run : List Int) (i : Nat) : Int := b * sumP evs (run.take i) - a * sumT evs (run.take i)
structure EvB (evs : List (List Int)) : Prop where
  f4 : ∀ e ∈ evs, Four e
  t : ∀ e ∈ evs, 1 ≤ evT e ∧ evT e ≤ 1000
  p : ∀ e ∈ evs, -1000000 ≤ evP e ∧ evP e ≤ 1000000
theorem sums_bd {evs : List (List Int)} {run : List Int} (e : EvB evs) (hin : InEv evs run) (hl : run.length ≤ 1000) (i : Nat) : 0 ≤ sumT evs (run.take i) ∧ sumT evs (run.take i) ≤ 1000000 ∧ -1000000000 ≤ sumP evs (run.take i) ∧ sumP evs (run.take i) ≤ 1000000000 := by
  have t := sumT_bd e.t (hin.take i)
  have p := sumP_bd (B := 1000000) (by decide) e.p (hin.take i)
  rw [List.length_take] at t p
  omega
def spValsB (K : PySem.W.Frag) (C : Addr) : Sp := fun vs H Q _ => ∃ (m x v : V) (n a b : Int) (evs : List (List Int)) (run : List Int), vs = [m, x, v] ∧ MachAt K C H m n evs ∧ ShIs K H x a b ∧ RunIs K H v evs run ∧ EvB evs ∧
  ∀ (D : Addr) (H' : Hp), Same H H' → H D = none → H' D = some (.lst (((List.range run.length).map fun i => valB evs a b run (i + 1)).map V.int)) → Q (.ref D) H'

theorem sc_is_way : FnScope ["thing"] ["thing"] (defScope s_is_way) := ⟨rfl, rfl, rfl, by decide +kernel, rfl, by decide +kernel, by decide +kernel⟩
theorem ok_is_way (T : Txt K mg A) : FnOk P w K mg base CX0 1 A.f_is_way A.d_is_way ["thing"] (spWayR) := by
  refine T.F_is_way.ok sc_is_way (fun vs H Q E h => ?_) (fun cdv A1 outer s H vs Q E hr h => ?_)
  · obtain ⟨z, u, rfl, _⟩ := h
    rfl
  · obtain ⟨z, u, rfl, e, q⟩ := h
    refine ⟨_, (pss_one (ps_ret (pe_and (pe_callB (call_isK K rfl) (by rfl) T.z_isinstance (by decide +kernel) (pa_cons (pv 0) (pa_cons (pe_bltn (v := .ty "str") (u := .type "str") rfl T.z_str (by decide +kernel) rfl) pa_nil))) (pe_one (pe_or (pe_cmpR op_eq (pv 0) pe_str (nomark _)) (pe_one (pe_cmpR op_eq (pv 0) pe_str (nomark _)))))))), ?_⟩
    cases u <;> (unfold wy at e; subst e; repeat l_ints)
    all_goals exact q
theorem sc_check_way : FnScope ["thing"] ["thing"] (defScope s_check_way) := ⟨rfl, rfl, rfl, by decide +kernel, rfl, by decide +kernel, by decide +kernel⟩
theorem ok_check_way (T : Txt K mg A) : FnOk P w K mg base CX0 2 A.f_check_way A.d_check_way ["thing"] (spCheckWay) := by
  refine T.F_check_way.ok sc_check_way (fun vs H Q E h => ?_) (fun cdv A1 outer s H vs Q E hr h => ?_)
  · obtain ⟨z, u, rfl, _⟩ := h
    rfl
  · obtain ⟨z, u, rfl, e, q⟩ := h
    refine ⟨_, (pss_one (ps_if (pt_not (pt_val (pe_call (ok_is_way T) (hr.mono (by decide)) rfl T.m_is_way T.F_is_way.kp T.B_is_way .nil pass0 (pa_cons (pv 0) pa_nil)))) (pss_one ps_never) pss_nil)), ?_⟩
    repeat l_ints
    all_goals exact q
theorem sc_values_behind : FnScope ["machine", "share", "run", "tries", "points"] ["machine", "share", "run"] (defScope s_values_behind) := ⟨rfl, rfl, rfl, by decide +kernel, rfl, by decide +kernel, by decide +kernel⟩
theorem ok_values_behind (T : Txt K mg A) : FnOk P w K mg base CX0 6 A.f_values_behind A.d_values_behind ["machine", "share", "run"] (spValsB K A.C_Machine) := by
  refine T.F_values_behind.ok sc_values_behind (fun vs H Q E h => ?_) (fun cdv A1 outer s H vs Q E hr h => ?_)
  · obtain ⟨m, x, v, n, a, b, evs, run, rfl, _⟩ := h
    rfl
  · obtain ⟨m, x, v, n, a, b, evs, run, rfl, hM, hx, hv, eb, k⟩ := h
    have f4 := eb.f4
    have hI := hv.at_
    have hwk := hv.wk
    have hin := hv.inn
    have hl := hv.len
    refine ⟨_, (pss_cons (ps_if (pt_not (pt_val (pe_call (ok_is_run T) (hr.mono (by decide)) rfl T.m_is_run T.F_is_run.kp T.B_is_run .nil pass0 (pa_cons (pv 0) (pa_cons (pv 2) pa_nil))))) (pss_one ps_never) pss_nil)
      (pss_one (ps_ret (pe_lc (own := [("tries", 3), ("points", 4)]) rfl sc_values_behind.nd (pi_list (pe_call (ok_boards T) (hr.mono (by decide)) rfl T.m_boards T.F_boards.kp T.B_boards .nil pass0 (pa_cons (pv 0) (pa_cons (pv 2) pa_nil)))) (blkOk_by (N := ["machine", "share", "run", "tries", "points"]) (sc := defScope s_values_behind) (by decide +kernel)) (fun _ _ _ _ _ => by exact (pg_tupK K rfl 2 rfl (pgs_cons (pg_name (i := 3) sc_values_behind.nd rfl (Or.inl rfl)) (pgs_cons (pg_name (i := 4) sc_values_behind.nd rfl (Or.inl rfl)) pgs_nil)) rfl rfl)) (fun _ _ _ _ _ => by exact pts_nil) (fun _ _ _ _ _ => by exact (pe_call (ok_lift_of T) (hr.mono (by decide)) rfl T.m_lift_of T.F_lift_of.kp T.B_lift_of .nil pass0 (pa_cons (pv 1) (pa_cons (pv 3) (pa_cons (pv 4) pa_nil))))))))), ?_⟩
    repeat l_ints
    rename_i B H1 s1 hB
    rintro ⟨xs, hxs, al⟩
    repeat l_ints
    rename_i D hD
    have hD0 : H D = none := Same.free s1 hD
    refine lcGL (K := K) (a := B) (xs := xs) (bs := (List.range run.length).map fun i => valB evs a b run (i + 1)) (R := fun _ v b => v = .int b) (by kd_adr) hD ?_ ?_ (fun _ _ _ _ _ z => z) ?_ ?_
    · rw [List.length_map, List.length_range]
      exact Nat.lt_of_le_of_lt hl (by decide)
    · rw [al.len]
      unfold boardsTo
      rw [List.length_map, List.length_map]
    · intro i y bb H2 Q1 Q2 hi hbb s2 hq
      obtain ⟨bd, hbi, hId⟩ := al.getL hi
      unfold boardsTo at hbi
      rw [List.getElem?_map] at hbi hbb
      cases hr : (List.range run.length)[i]? with
      | none => rw [hr] at hbb; cases hbb
      | some i' =>
        rw [hr] at hbb hbi
        have hbi := Option.some.inj hbi
        have hbb := Option.some.inj hbb
        subst hbi hbb
        obtain ⟨t0, t1, p0, p1⟩ := sums_bd eb hin hl (i' + 1)
        have hId2 := hId.keep (Keep.of s2)
        obtain ⟨r, rfl, hr⟩ := id hId2
        have hx2 : IT K H2 x [a, b] := hx.at_.keep (by kd_adr)
        clear al hxs
        repeat l_ints
        exact hq _ _ (by nest_cls) rfl
    · intro H2 acc s2 hA al2
      have ea := all2_int al2
      subst ea
      exact k D H2 (by nest_cls) hD0 hA
end
end Myk56

namespace Myk56
open PySem L2 My EnT
-- Same from behind
local macro_rules | `(tactic| nest_cls) => `(tactic| first
  | exact Same.refl _
  | assumption
  | (refine Same.back (Same.new (by assumption)) ?_; nest_cls)
  | (refine Same.back (by assumption) ?_; nest_cls)
  | (refine Same.chg ?_ (by first | assumption | exact Free.flip (by assumption) (by nest_cls)); nest_cls))
-- Keep from behind
local macro_rules | `(tactic| mem_news) => `(tactic| first
  | exact Keep.refl _
  | assumption
  | (refine Keep.back (Keep.new (by assumption)) ?_; mem_news)
  | (refine Keep.back (Keep.lst (by assumption)) ?_; mem_news)
  | (refine Keep.back (Keep.lst (by kd_adr)) ?_; mem_news)
  | (refine Keep.back (Keep.of (by assumption)) ?_; mem_news)
  | (refine Keep.back (Keep.ofBut (by assumption) (by kba_ints)) ?_; mem_news)
  | (refine Keep.back (by assumption) ?_; mem_news))
-- the pot
local macro_rules | `(tactic| kba_ints) => `(tactic| first
  | assumption
  | (refine Pt.At.back (Same.new (by assumption)) ?_; kba_ints)
  | (refine Pt.At.back (by assumption) ?_; kba_ints)
  | exact Pt.At.flip (by assumption) (by nest_cls))
-- a fact of a heap, from behind
local macro_rules | `(tactic| kd_adr) => `(tactic| first
  | ((with_reducible show IT _ _ _ _); first
    | assumption
    | exact IT.new2
    | exact IT.new1
    | exact IT.new3
    | exact IT.new4
    | exact IT.flip (by assumption) (by mem_news)
    | exact IT.flip IT.new2 (by mem_news)
    | exact IT.flip IT.new3 (by mem_news)
    | exact IT.flip IT.new1 (by mem_news)
    | exact IT.flip IT.new4 (by mem_news))
  | ((with_reducible show ITs _ _ _ _); first
    | assumption
    | exact ITs.flip (by assumption) (by mem_news))
  | ((with_reducible show SqT _ _ _ _); first
    | assumption
    | exact SqT.lt upd_same
    | exact SqT.lt (by assumption)
    | exact IT.sq (by assumption)
    | exact SqT.flip (by assumption) (by mem_news)
    | exact SqT.flip (SqT.lt (by assumption)) (by mem_news)
    | exact SqT.flip (IT.sq (by assumption)) (by mem_news)
    | exact SqT.flip (SqT.lt upd_same) (by mem_news))
  | ((with_reducible show SqL _ _ _ _); first
    | assumption
    | exact SqL.lt upd_same
    | exact SqL.lt (by assumption)
    | exact SqL.flip (by assumption) (by nest_cls)
    | exact SqL.flip (SqL.lt (by assumption)) (by nest_cls)
    | exact SqL.flip (SqL.lt upd_same) (by nest_cls))
  | ((with_reducible show Parts _ _ _ _ _); first | assumption | exact Parts.flip (by assumption) (by mem_news))
  | ((with_reducible show MachAt _ _ _ _ _ _); first | assumption | exact MachAt.flip (by assumption) (by mem_news))
  | ((with_reducible show ShIs _ _ _ _ _); first | assumption | exact ShIs.flip (by assumption) (by mem_news))
  | ((with_reducible show RunIs _ _ _ _ _); first | assumption | exact RunIs.flip (by assumption) (by mem_news))
  | ((with_reducible show LTs _ _ _ _); first | assumption | exact LTs.flip (by assumption) (by nest_cls))
  | ((with_reducible show Pt.At _ _); kba_ints)
  | ((with_reducible show Same _ _); nest_cls)
  | ((with_reducible show Keep _ _); mem_news)
  | ((with_reducible show (_ : Hp) _ = some _); first
    | assumption
    | exact upd_same
    | exact At.flip (by assumption) (by nest_cls)
    | exact At.flip upd_same (by nest_cls)))
-- a side condition
local macro_rules | `(tactic| leaf_len) => `(tactic| first
  | (with_reducible rfl)
  | (with_reducible assumption)
  | kd_adr
  | omega
  | ((with_reducible show (_ : Nat) ≤ sizeLine); first | (show 1 ≤ sizeLine; decide) | (show 2 ≤ sizeLine; decide) | (show 3 ≤ sizeLine; decide) | (show 4 ≤ sizeLine; decide) | (show 5 ≤ sizeLine; decide) | (show 6 ≤ sizeLine; decide) | (show 7 ≤ sizeLine; decide) | (show 8 ≤ sizeLine; decide) | (show 0 ≤ sizeLine; decide))
  | exact rfl
  | ((with_reducible show _ ∨ _); first | exact Or.inl (by leaf_len) | exact Or.inr (by leaf_len))
  | exact List.cons_ne_nil _ _
  | exact mf_ev _ _
  | exact mf_st _ _
  | exact flat_ints _
  | ((with_reducible show tyV _ _ _ _); exact Or.inl ⟨rfl, _, by kd_adr⟩)
  | ((with_reducible show ClsV _ _); exact ClsV.ty _)
  | ((with_reducible show CDivW _ _); exact CDivW.of (by omega) (by omega))
  | (apply Exists.intro (α := List V); kd_adr)
  | assumption
  | ((with_reducible show small _); unfold small; omega)
  | ((with_reducible show CPow _ _); exact ⟨by decide, by decide, by decide⟩)
  | ((with_reducible show CMul _ _); first | exact CMul.l (by omega) (by omega) | exact CMul.r (by omega) (by omega))
  | ((with_reducible show CMulW _ _); exact CMulW.of (by omega) (by omega))
  | ((with_reducible show TyX _ _ _ _); first | exact TyX.base (.int _) | exact TyX.base (.str _) | exact TyX.base (.bl _) | exact tyT (by kd_adr) | exact TyX.base (.lst (by kd_adr)))
  | ((with_reducible show PySem.W.kitOne _ _ _ = some _); first | exact kit_ty (r := true) (by decide +kernel) | exact kit_ty (r := false) (by decide +kernel))
  | decide)
-- a step
local macro_rules | `(tactic| l_ints) => `(tactic| first
  | (intro (p : Addr) (hp : (_ : Hp) p = none))
  | (intro (H' : Hp) (s : Same _ H'))
  | (intro (p : Addr) (H' : Hp) (s : Same _ H'))
  | (intro (h : IT _ _ _ _))
  | (intro (h : SqT _ _ _ _))
  | (intro (h : (_ : Hp) _ = none))
  | (intro (h : (_ : Hp) _ = some _))
  | ((with_reducible show rCatA _ _ _ _ _); refine catJ (by kd_adr) (by kd_adr) (by leaf_len) ?_)
  | ((with_reducible show rSlA _ _ none (some _) _ _); refine slTake (by kd_adr) (by omega) ?_)
  | with_reducible refine tC_i ?_
  | with_reducible refine tNil_i ?_
  | with_reducible refine tCons_i ?_
  | with_reducible refine tCall_i ?_
  | with_reducible refine tOp_i ?_
  | ((with_reducible refine tVar_i ?_ ?_); · exact rfl)
  | with_reducible refine iteT ?_
  | with_reducible refine iteF ?_
  | (with_reducible refine iteNEq ?_ ?_; · assumption)
  | (with_reducible refine iteNb ?_ ?_; · assumption)
  | (with_reducible refine iteTb ?_ ?_; · assumption)
  | (with_reducible refine iteFb ?_ ?_; · assumption)
  | ((with_reducible refine iteFb ?_ ?_); · exact rfl)
  | ((with_reducible refine iteTb ?_ ?_); · exact rfl)
  | with_reducible refine iteST rfl ?_
  | with_reducible refine iteSF (by decide +kernel) ?_
  | (refine And.intro ?_ ?_; · leaf_len)
  | apply Exists.intro (α := V)
  | apply Exists.intro (α := Int)
  | apply Exists.intro (α := Addr)
  | apply Exists.intro (α := List V)
  | apply Exists.intro (α := Str)
  | apply Exists.intro (α := Nat)
  | apply Exists.intro (α := Bool)
  | apply Exists.intro (α := Value)
  | apply Exists.intro (α := List Int)
  | apply Exists.intro (α := List (List Int))
  | apply Exists.intro (α := List Bool)
  | apply Exists.intro (α := List (Str × V))
  | apply Exists.intro (α := Option (List (Option Int)))
  | apply Exists.intro (α := Option Int)
  | apply Exists.intro (α := Pt)
  | refine Or.inr ⟨_, rfl, ?_⟩
  | apply Or.inl)

section
variable {P : Program} {w : World} {K : PySem.W.Frag} {mg : Str → Option Value} {base : Heap} {A : Ad}
/-- a comprehension over enumerate of a list, to ints, with a test -/
theorem lcEn {K : PySem.W.Frag} {a D : Addr} {xs : List V} {g : TG} {tt : L2.TT} {te : TE} {vs : List Nat} {σ : L2.St} {H1 : Hp} {Qd : Hp → Prop} (f : Nat → Bool) (e : Nat → Int) (hS : SqL K H1 a xs) (hD : H1 D = none) (hl : xs.length < sizeLine)
    (hs : ∀ (i : Nat) (x : V) (T : Addr) (H : Hp) (Q1 : Hp → Prop) (Q2 : V → Hp → Prop), xs[i]? = some x → Same H1 H → H T = none → (f i = true → ∀ H', Same H H' → Q2 (.int (e i)) H') → (f i = false → ∀ H', Same H H' → Q1 H') →
      g (.ref T) (wipe σ vs) (upd H T (.tup [.int (i : Nat), x])) fun σ2 H2 => wipe σ2 vs = wipe σ vs ∧ tt σ2 H2 fun b H3 => if b = true then te σ2 H3 Q2 else Q1 H3)
    (hd : ∀ H, Same H1 H → H D = some (.lst ((((List.range xs.length).filter f).map e).map V.int)) → Qd H) :
    ∃ W : Nat → Nat → Hp → Prop, (∃ m, W 0 m (upd H1 D (.lst []))) ∧ ∀ i m H, W i m H →
      ((Ite K a).stop i H ∧ Qd H) ∨ ((Ite K a).go i H ∧ ∃ Nx : Hp → Prop, (∀ H', Nx H' → ∃ m', m' < m ∧ W (i + 1) m' H') ∧ ∀ x H', (Ite K a).yld i H x H' → g x (wipe σ vs) H' fun σ2 H2 => wipe σ2 vs = wipe σ vs ∧ tt σ2 H2 fun b H3 =>
        if b = true then te σ2 H3 fun y H4 => ∃ acc, H4 D = some (.lst acc) ∧ acc.length < sizeLine ∧ Nx (upd H4 D (.lst (acc ++ [y]))) else Nx H3) := by
  refine ⟨fun i m H => m = xs.length - i ∧ i ≤ xs.length ∧ Same H1 H ∧ H D = some (.lst ((((List.range i).filter f).map e).map V.int)), ⟨xs.length, by simp, Nat.zero_le _, Same.new hD, upd_same⟩, ?_⟩
  rintro i m H ⟨rfl, hi, s1, hA⟩
  have q := Same.seq s1 hS
  by_cases hlt : i < xs.length
  · refine .inr ⟨⟨xs, xs[i], q, by simp [hlt]⟩, fun H' => Same H1 H' ∧ H' D = some (.lst ((((List.range (i + 1)).filter f).map e).map V.int)), fun H' p' => ⟨xs.length - (i + 1), by omega, rfl, hlt, p'.1, p'.2⟩, ?_⟩
    rintro v H' ⟨T, x, rfl, hT, rfl, hx⟩
    have len : (((List.range i).filter f).map e).length < sizeLine := by
      rw [List.length_map]
      have q1 := List.length_filter_le f (List.range i)
      rw [List.length_range] at q1
      omega
    refine hs i x T H _ _ (hx xs q) s1 hT (fun c H2 s2 => ⟨_, s2 _ _ hA, by rw [List.length_map]; exact len, Same.chg (s1.trans s2) hD, ?_⟩) (fun c H2 s2 => ⟨s1.trans s2, ?_⟩)
    · rw [upd_same, List.range_succ, List.filter_append, List.map_append, List.map_append]
      simp [c]
    · rw [s2 _ _ hA, List.range_succ, List.filter_append, List.map_append, List.map_append]
      simp [c]
  · have e : i = xs.length := by omega
    subst e
    exact .inl ⟨⟨xs, q, Nat.le_refl _⟩, hd H s1 hA⟩
def meAt (evs : List (List Int)) (a b : Int) (run : List Int) (i : Nat) : Bool := decide (valB evs a b run (i + 1) = 0)
def meL (evs : List (List Int)) (a b : Int) (run : List Int) : List Int := ((List.range run.length).filter (meAt evs a b run)).map fun i : Nat => (i : Int)
def spMeets (K : PySem.W.Frag) (C : Addr) : Sp := fun vs H Q _ => ∃ (m x v : V) (n a b : Int) (evs : List (List Int)) (run : List Int), vs = [m, x, v] ∧ MachAt K C H m n evs ∧ ShIs K H x a b ∧ RunIs K H v evs run ∧ EvB evs ∧
  ∀ (D : Addr) (H' : Hp), Same H H' → H D = none → H' D = some (.lst ((meL evs a b run).map V.int)) → Q (.ref D) H'
def lpAt (evs : List (List Int)) (a b : Int) (u : Bool) (run : List Int) (i : Nat) : Bool := if u then decide (valB evs a b run i < 0 ∧ 0 < valB evs a b run (i + 1)) else decide (0 < valB evs a b run i ∧ valB evs a b run (i + 1) < 0)
def lpL (evs : List (List Int)) (a b : Int) (u : Bool) (run : List Int) : List Int := ((List.range run.length).filter (lpAt evs a b u run)).map fun i : Nat => (i : Int)
def spLeaps (K : PySem.W.Frag) (C : Addr) : Sp := fun vs H Q _ => ∃ (m x v : V) (way : Str) (u : Bool) (n a b : Int) (evs : List (List Int)) (run : List Int), vs = [m, x, .str way, v] ∧ way = wy u ∧ MachAt K C H m n evs ∧ ShIs K H x a b ∧ RunIs K H v evs run ∧ EvB evs ∧
  ∀ (D : Addr) (H' : Hp), Same H H' → H D = none → H' D = some (.lst ((lpL evs a b u run).map V.int)) → Q (.ref D) H'

theorem sc_meets : FnScope ["machine", "share", "run", "place", "number"] ["machine", "share", "run"] (defScope s_meets) := ⟨rfl, rfl, rfl, by decide +kernel, rfl, by decide +kernel, by decide +kernel⟩
theorem ok_meets (T : Txt K mg A) : FnOk P w K mg base CX0 7 A.f_meets A.d_meets ["machine", "share", "run"] (spMeets K A.C_Machine) := by
  refine T.F_meets.ok sc_meets (fun vs H Q E h => ?_) (fun cdv A1 outer s H vs Q E hr h => ?_)
  · obtain ⟨m, x, v, n, a, b, evs, run, rfl, _⟩ := h
    rfl
  · obtain ⟨m, x, v, n, a, b, evs, run, rfl, hM, hx, hv, eb, k⟩ := h
    have hI := hx.at_
    have hp := hx.pos
    have hg := hx.low
    refine ⟨_, (pss_cons (ps_expr (pe_call (ok_check_share T) (hr.mono (by decide)) rfl T.m_check_share T.F_check_share.kp T.B_check_share .nil pass0 (pa_cons (pv 1) pa_nil)))
      (pss_one (ps_ret (pe_lc (own := [("place", 3), ("number", 4)]) rfl sc_meets.nd (pi_enum rfl T.z_enumerate (pa_cons (pe_call (ok_values_behind T) (hr.mono (by decide)) rfl T.m_values_behind T.F_values_behind.kp T.B_values_behind .nil pass0 (pa_cons (pv 0) (pa_cons (pv 1) (pa_cons (pv 2) pa_nil)))) pa_nil)) (blkOk_by (N := ["machine", "share", "run", "place", "number"]) (sc := defScope s_meets) (by decide +kernel)) (fun _ _ _ _ _ => by exact (pg_tupK K rfl 2 rfl (pgs_cons (pg_name (i := 3) sc_meets.nd rfl (Or.inl rfl)) (pgs_cons (pg_name (i := 4) sc_meets.nd rfl (Or.inl rfl)) pgs_nil)) rfl rfl)) (fun _ _ _ _ _ => by exact (pts_one (pt_cmpR op_eq (pv 4) pe_int (nomark _)))) (fun _ _ _ _ _ => by exact (pv 3)))))), ?_⟩
    repeat l_ints
    rename_i B H1 s1 hB hL D hD
    refine lcEn (K := K) (a := B) (xs := ((List.range run.length).map fun i => valB evs a b run (i + 1)).map V.int) (meAt evs a b run) (fun i => (i : Int)) (by kd_adr) hD ?_ ?_ ?_
    · rw [List.length_map, List.length_map, List.length_range]
      exact Nat.lt_of_le_of_lt hv.len (by decide)
    · intro i y T H2 Q1 Q2 hi s2 hT h1 h2
      obtain ⟨z, hz, rfl⟩ := mapI hi
      rw [List.getElem?_map] at hz
      cases hr : (List.range run.length)[i]? with
      | none => rw [hr] at hz; cases hz
      | some i' =>
        rw [hr] at hz
        have hz := Option.some.inj hz
        have ei : i' = i := by
          have := List.getElem?_eq_some_iff.mp hr
          obtain ⟨h3, h4⟩ := this
          rw [List.getElem_range] at h4
          exact h4.symm
        subst ei hz
        repeat l_ints
        refine iteI (fun c => ?_) (fun c => ?_)
        · repeat l_ints
          exact h1 (decide_eq_true c) _ (by nest_cls)
        · repeat l_ints
          exact h2 (decide_eq_false c) _ (by nest_cls)
    · intro H2 s2 hA
      rw [List.length_map, List.length_map, List.length_range] at hA
      exact k D H2 (by nest_cls) (Same.free s1 hD) hA
theorem valB0 (evs : List (List Int)) (a b : Int) (run : List Int) : valB evs a b run 0 = 0 := by
  unfold valB
  rw [List.take_zero]
  show b * 0 - a * 0 = 0
  omega
theorem range_at {n i : Nat} (h : i < n) : (List.range n)[i]? = some i := List.getElem?_range h
theorem told_at {evs : List (List Int)} {a b : Int} {run : List Int} {sg : Int} {i : Nat} (h : i ≤ run.length) : ([V.int 0] ++ (((List.range run.length).map fun i => sg * valB evs a b run (i + 1)).map V.int))[i]? = some (V.int (sg * valB evs a b run i)) := by
  cases i with
  | zero => rw [valB0, Int.mul_zero]; rfl
  | succ i =>
    show (((List.range run.length).map fun i => sg * valB evs a b run (i + 1)).map V.int)[i]? = _
    rw [List.getElem?_map, List.getElem?_map, range_at (by omega)]
    rfl

theorem sc_leaps : FnScope ["machine", "share", "way", "run", "sign", "number", "told", "place"] ["machine", "share", "way", "run"] (defScope s_leaps) := ⟨rfl, rfl, rfl, by decide +kernel, rfl, by decide +kernel, by decide +kernel⟩
theorem ok_leaps (T : Txt K mg A) : FnOk P w K mg base CX0 7 A.f_leaps A.d_leaps ["machine", "share", "way", "run"] (spLeaps K A.C_Machine) := by
  refine T.F_leaps.ok sc_leaps (fun vs H Q E h => ?_) (fun cdv A1 outer s H vs Q E hr h => ?_)
  · obtain ⟨m, x, v, way, u, n, a, b, evs, run, rfl, _⟩ := h
    rfl
  · obtain ⟨m, x, v, way, u, n, a, b, evs, run, rfl, e, hM, hx, hv, eb, k⟩ := h
    have hI := hx.at_
    have hp := hx.pos
    have hg := hx.low
    obtain ⟨vr, rfl, hvr⟩ := id hv.at_
    refine ⟨_, (pss_cons (ps_expr (pe_call (ok_check_share T) (hr.mono (by decide)) rfl T.m_check_share T.F_check_share.kp T.B_check_share .nil pass0 (pa_cons (pv 1) pa_nil)))
      (pss_cons (ps_expr (pe_call (ok_check_way T) (hr.mono (by decide)) rfl T.m_check_way T.F_check_way.kp T.B_check_way .nil pass0 (pa_cons (pv 2) pa_nil)))
      (pss_cons (ps_set (i := 4) sc_leaps.nd rfl (Or.inr rfl) (pe_ifExp (pt_cmpR op_eq (pv 2) pe_str (nomark _)) pe_int (pe_un un_neg pe_int)))
      (pss_cons (ps_set (i := 6) sc_leaps.nd rfl (Or.inr rfl) (pe_op op_cat (pe_lst (pa_cons pe_int pa_nil)) (pe_lc (own := [("number", 5)]) rfl sc_leaps.nd (pi_list (pe_call (ok_values_behind T) (hr.mono (by decide)) rfl T.m_values_behind T.F_values_behind.kp T.B_values_behind .nil pass0 (pa_cons (pv 0) (pa_cons (pv 1) (pa_cons (pv 3) pa_nil))))) (blkOk_by (N := ["machine", "share", "way", "run", "sign", "number", "told", "place"]) (sc := defScope s_leaps) (by decide +kernel)) (fun _ _ _ _ _ => by exact (pg_name (i := 5) sc_leaps.nd rfl (Or.inl rfl))) (fun _ _ _ _ _ => by exact pts_nil) (fun _ _ _ _ _ => by exact (pe_op op_mul (pv 4) (pv 5))))))
      (pss_one (ps_ret (pe_lc (own := [("place", 7)]) rfl sc_leaps.nd (pi_range1 rfl T.z_range (pa_cons (pe_callB (call_lenK K rfl) (by rfl) T.z_len (by decide +kernel) (pa_cons (pv 3) pa_nil)) pa_nil)) (blkOk_by (N := ["machine", "share", "way", "run", "sign", "number", "told", "place"]) (sc := defScope s_leaps) (by decide +kernel)) (fun _ _ _ _ _ => by exact (pg_name (i := 7) sc_leaps.nd rfl (Or.inl rfl))) (fun _ _ _ _ _ => by exact (pts_one (PW.pt (pw_and (pt_cmpR op_lt (pe_ix (ix_listK K rfl) (pv 6) (pv 7) (fun _ _ => rfl)) pe_int (nomark _)) (pw_and1 (pt_cmpR op_gt (pe_ix (ix_listK K rfl) (pv 6) (pe_op op_add (pv 7) pe_int) (fun _ _ => rfl)) pe_int (nomark _))))))) (fun _ _ _ _ _ => by exact (pv 7))))))))), ?_⟩
    have e1 : ("up" : Str) = wy true := rfl
    have e2 : ("down" : Str) = wy false := rfl
    cases u <;> (unfold wy at e; subst e; repeat l_ints)
    all_goals rename_i B H1 s1 hB hL D hD
    · refine lcGL (K := K) (a := B) (xs := ((List.range run.length).map fun i => valB evs a b run (i + 1)).map V.int) (bs := (List.range run.length).map fun i => -1 * valB evs a b run (i + 1)) (R := fun _ v b => v = .int b) (by kd_adr) hD ?_ ?_ (fun _ _ _ _ _ z => z) ?_ ?_
      · rw [List.length_map, List.length_range]
        exact Nat.lt_of_le_of_lt hv.len (by decide)
      · rw [List.length_map, List.length_map, List.length_map]
      · intro i y bb H2 Q1 Q2 hi hbb s2 hq
        obtain ⟨z, hz, rfl⟩ := mapI hi
        rw [List.getElem?_map] at hz hbb
        cases hr : (List.range run.length)[i]? with
        | none => rw [hr] at hz; cases hz
        | some i' =>
          rw [hr] at hz hbb
          have hz := Option.some.inj hz
          have hbb := Option.some.inj hbb
          subst hz hbb
          repeat l_ints
          exact hq _ _ (by nest_cls) rfl
      · intro H2 acc s2 hA al
        have ea := all2_int al
        subst ea
        have L0 : (((List.range run.length).map fun i => -1 * valB evs a b run (i + 1)).map V.int).length = run.length := by rw [List.length_map, List.length_map, List.length_range]
        have hle : [V.int 0].length + (((List.range run.length).map fun i => -1 * valB evs a b run (i + 1)).map V.int).length ≤ sizeLine := by
          rw [L0]
          exact Nat.le_trans (show 1 + run.length ≤ 2000 by have := hv.len; omega) (by decide)
        have nL := hv.len
        have eL : (run.map V.int).length = run.length := List.length_map _
        repeat l_ints
        rename_i Tl hTl D3 hD3
        have enat : (((run.map V.int).length : Nat) : Int).toNat = run.length := by rw [eL]; omega
        rw [enat]
        refine lcFR (lpAt evs a b false run) (fun i => (i : Int)) hD3 (Nat.lt_of_le_of_lt nL (by decide)) ?_ ?_
        · intro i H4 Q1 Q2 hi s4 h1 h2
          have t0 := told_at (evs := evs) (a := a) (b := b) (run := run) (sg := -1) (i := i) (by omega)
          have t1 := told_at (evs := evs) (a := a) (b := b) (run := run) (sg := -1) (i := i + 1) (by omega)
          have a0 := at_ge (i := (0 + (i : Int))) (by omega) (by rw [show (0 + (i : Int)).toNat = i by omega]; exact t0)
          have a1 := at_ge (i := (0 + (i : Int) + 1)) (by omega) (by rw [show (0 + (i : Int) + 1).toNat = i + 1 by omega]; exact t1)
          have ez : (0 + (i : Int)) = (i : Int) := by omega
          repeat l_ints
          refine iteD (fun c => ?_) (fun c => ?_)
          · repeat l_ints
            refine iteD (fun c2 => ?_) (fun c2 => ?_)
            · repeat l_ints
              rw [ez]
              exact h1 (by unfold lpAt; simp; omega)
            · repeat l_ints
              exact h2 (by unfold lpAt; simp; omega)
          · repeat l_ints
            exact h2 (by unfold lpAt; simp; omega)
        · repeat l_ints
          have h0 : H D3 = none := Same.free (by nest_cls) hD3
          exact k _ _ (by nest_cls) h0 upd_same
    · refine lcGL (K := K) (a := B) (xs := ((List.range run.length).map fun i => valB evs a b run (i + 1)).map V.int) (bs := (List.range run.length).map fun i => 1 * valB evs a b run (i + 1)) (R := fun _ v b => v = .int b) (by kd_adr) hD ?_ ?_ (fun _ _ _ _ _ z => z) ?_ ?_
      · rw [List.length_map, List.length_range]
        exact Nat.lt_of_le_of_lt hv.len (by decide)
      · rw [List.length_map, List.length_map, List.length_map]
      · intro i y bb H2 Q1 Q2 hi hbb s2 hq
        obtain ⟨z, hz, rfl⟩ := mapI hi
        rw [List.getElem?_map] at hz hbb
        cases hr : (List.range run.length)[i]? with
        | none => rw [hr] at hz; cases hz
        | some i' =>
          rw [hr] at hz hbb
          have hz := Option.some.inj hz
          have hbb := Option.some.inj hbb
          subst hz hbb
          repeat l_ints
          exact hq _ _ (by nest_cls) rfl
      · intro H2 acc s2 hA al
        have ea := all2_int al
        subst ea
        have L0 : (((List.range run.length).map fun i => 1 * valB evs a b run (i + 1)).map V.int).length = run.length := by rw [List.length_map, List.length_map, List.length_range]
        have hle : [V.int 0].length + (((List.range run.length).map fun i => 1 * valB evs a b run (i + 1)).map V.int).length ≤ sizeLine := by
          rw [L0]
          exact Nat.le_trans (show 1 + run.length ≤ 2000 by have := hv.len; omega) (by decide)
        have nL := hv.len
        have eL : (run.map V.int).length = run.length := List.length_map _
        repeat l_ints
        rename_i Tl hTl D3 hD3
        have enat : (((run.map V.int).length : Nat) : Int).toNat = run.length := by rw [eL]; omega
        rw [enat]
        refine lcFR (lpAt evs a b true run) (fun i => (i : Int)) hD3 (Nat.lt_of_le_of_lt nL (by decide)) ?_ ?_
        · intro i H4 Q1 Q2 hi s4 h1 h2
          have t0 := told_at (evs := evs) (a := a) (b := b) (run := run) (sg := 1) (i := i) (by omega)
          have t1 := told_at (evs := evs) (a := a) (b := b) (run := run) (sg := 1) (i := i + 1) (by omega)
          have a0 := at_ge (i := (0 + (i : Int))) (by omega) (by rw [show (0 + (i : Int)).toNat = i by omega]; exact t0)
          have a1 := at_ge (i := (0 + (i : Int) + 1)) (by omega) (by rw [show (0 + (i : Int) + 1).toNat = i + 1 by omega]; exact t1)
          have ez : (0 + (i : Int)) = (i : Int) := by omega
          repeat l_ints
          refine iteD (fun c => ?_) (fun c => ?_)
          · repeat l_ints
            refine iteD (fun c2 => ?_) (fun c2 => ?_)
            · repeat l_ints
              rw [ez]
              exact h1 (by unfold lpAt; simp; omega)
            · repeat l_ints
              exact h2 (by unfold lpAt; simp; omega)
          · repeat l_ints
            exact h2 (by unfold lpAt; simp; omega)
        · repeat l_ints
          have h0 : H D3 = none := Same.free (by nest_cls) hD3
          exact k _ _ (by nest_cls) h0 upd_same
end
end Myk56

namespace Myk56
open PySem L2 My EnT
-- Same from behind
local macro_rules | `(tactic| nest_cls) => `(tactic| first
  | exact Same.refl _
  | assumption
  | (refine Same.back (Same.new (by assumption)) ?_; nest_cls)
  | (refine Same.back (by assumption) ?_; nest_cls)
  | (refine Same.chg ?_ (by first | assumption | exact Free.flip (by assumption) (by nest_cls)); nest_cls))
-- Keep from behind
local macro_rules | `(tactic| mem_news) => `(tactic| first
  | exact Keep.refl _
  | assumption
  | (refine Keep.back (Keep.new (by assumption)) ?_; mem_news)
  | (refine Keep.back (Keep.lst (by assumption)) ?_; mem_news)
  | (refine Keep.back (Keep.lst (by kd_adr)) ?_; mem_news)
  | (refine Keep.back (Keep.of (by assumption)) ?_; mem_news)
  | (refine Keep.back (Keep.ofBut (by assumption) (by kba_ints)) ?_; mem_news)
  | (refine Keep.back (by assumption) ?_; mem_news))
-- the pot
local macro_rules | `(tactic| kba_ints) => `(tactic| first
  | assumption
  | (refine Pt.At.back (Same.new (by assumption)) ?_; kba_ints)
  | (refine Pt.At.back (by assumption) ?_; kba_ints)
  | exact Pt.At.flip (by assumption) (by nest_cls))
-- a fact of a heap, from behind
local macro_rules | `(tactic| kd_adr) => `(tactic| first
  | ((with_reducible show IT _ _ _ _); first
    | assumption
    | exact IT.new2
    | exact IT.new1
    | exact IT.new3
    | exact IT.new4
    | exact IT.flip (by assumption) (by mem_news)
    | exact IT.flip IT.new2 (by mem_news)
    | exact IT.flip IT.new3 (by mem_news)
    | exact IT.flip IT.new1 (by mem_news)
    | exact IT.flip IT.new4 (by mem_news))
  | ((with_reducible show ITs _ _ _ _); first
    | assumption
    | exact ITs.flip (by assumption) (by mem_news))
  | ((with_reducible show SqT _ _ _ _); first
    | assumption
    | exact SqT.lt upd_same
    | exact SqT.lt (by assumption)
    | exact IT.sq (by assumption)
    | exact SqT.flip (by assumption) (by mem_news)
    | exact SqT.flip (SqT.lt (by assumption)) (by mem_news)
    | exact SqT.flip (IT.sq (by assumption)) (by mem_news)
    | exact SqT.flip (SqT.lt upd_same) (by mem_news))
  | ((with_reducible show SqL _ _ _ _); first
    | assumption
    | exact SqL.lt upd_same
    | exact SqL.lt (by assumption)
    | exact SqL.flip (by assumption) (by nest_cls)
    | exact SqL.flip (SqL.lt (by assumption)) (by nest_cls)
    | exact SqL.flip (SqL.lt upd_same) (by nest_cls))
  | ((with_reducible show Parts _ _ _ _ _); first | assumption | exact Parts.flip (by assumption) (by mem_news))
  | ((with_reducible show MachAt _ _ _ _ _ _); first | assumption | exact MachAt.flip (by assumption) (by mem_news))
  | ((with_reducible show ShIs _ _ _ _ _); first | assumption | exact ShIs.flip (by assumption) (by mem_news))
  | ((with_reducible show RunIs _ _ _ _ _); first | assumption | exact RunIs.flip (by assumption) (by mem_news))
  | ((with_reducible show LTs _ _ _ _); first | assumption | exact LTs.flip (by assumption) (by nest_cls))
  | ((with_reducible show Pt.At _ _); kba_ints)
  | ((with_reducible show Same _ _); nest_cls)
  | ((with_reducible show Keep _ _); mem_news)
  | ((with_reducible show (_ : Hp) _ = some _); first
    | assumption
    | exact upd_same
    | exact At.flip (by assumption) (by nest_cls)
    | exact At.flip upd_same (by nest_cls)))
-- a side condition
local macro_rules | `(tactic| leaf_len) => `(tactic| first
  | (with_reducible rfl)
  | (with_reducible assumption)
  | kd_adr
  | omega
  | ((with_reducible show (_ : Nat) ≤ sizeLine); first | (show 1 ≤ sizeLine; decide) | (show 2 ≤ sizeLine; decide) | (show 3 ≤ sizeLine; decide) | (show 4 ≤ sizeLine; decide) | (show 5 ≤ sizeLine; decide) | (show 6 ≤ sizeLine; decide) | (show 7 ≤ sizeLine; decide) | (show 8 ≤ sizeLine; decide) | (show 0 ≤ sizeLine; decide))
  | exact rfl
  | ((with_reducible show _ ∨ _); first | exact Or.inl (by leaf_len) | exact Or.inr (by leaf_len))
  | exact List.cons_ne_nil _ _
  | exact mf_ev _ _
  | exact mf_st _ _
  | exact flat_ints _
  | ((with_reducible show tyV _ _ _ _); exact Or.inl ⟨rfl, _, by kd_adr⟩)
  | ((with_reducible show ClsV _ _); exact ClsV.ty _)
  | ((with_reducible show CDivW _ _); exact CDivW.of (by omega) (by omega))
  | (apply Exists.intro (α := List V); kd_adr)
  | assumption
  | ((with_reducible show small _); unfold small; omega)
  | ((with_reducible show CPow _ _); exact ⟨by decide, by decide, by decide⟩)
  | ((with_reducible show CMul _ _); first | exact CMul.l (by omega) (by omega) | exact CMul.r (by omega) (by omega))
  | ((with_reducible show CMulW _ _); exact CMulW.of (by omega) (by omega))
  | ((with_reducible show TyX _ _ _ _); first | exact TyX.base (.int _) | exact TyX.base (.str _) | exact TyX.base (.bl _) | exact tyT (by kd_adr) | exact TyX.base (.lst (by kd_adr)))
  | ((with_reducible show PySem.W.kitOne _ _ _ = some _); first | exact kit_ty (r := true) (by decide +kernel) | exact kit_ty (r := false) (by decide +kernel))
  | decide)
-- a step
local macro_rules | `(tactic| l_ints) => `(tactic| first
  | (intro (p : Addr) (hp : (_ : Hp) p = none))
  | (intro (H' : Hp) (s : Same _ H'))
  | (intro (p : Addr) (H' : Hp) (s : Same _ H'))
  | (intro (h : IT _ _ _ _))
  | (intro (h : SqT _ _ _ _))
  | (intro (h : (_ : Hp) _ = none))
  | (intro (h : (_ : Hp) _ = some _))
  | ((with_reducible show rCatA _ _ _ _ _); refine catJ (by kd_adr) (by kd_adr) (by leaf_len) ?_)
  | ((with_reducible show rSlA _ _ none (some _) _ _); refine slTake (by kd_adr) (by omega) ?_)
  | with_reducible refine tC_i ?_
  | with_reducible refine tNil_i ?_
  | with_reducible refine tCons_i ?_
  | with_reducible refine tCall_i ?_
  | with_reducible refine tOp_i ?_
  | ((with_reducible refine tVar_i ?_ ?_); · exact rfl)
  | with_reducible refine iteT ?_
  | with_reducible refine iteF ?_
  | (with_reducible refine iteNEq ?_ ?_; · assumption)
  | (with_reducible refine iteNb ?_ ?_; · assumption)
  | (with_reducible refine iteTb ?_ ?_; · assumption)
  | (with_reducible refine iteFb ?_ ?_; · assumption)
  | ((with_reducible refine iteFb ?_ ?_); · exact rfl)
  | ((with_reducible refine iteTb ?_ ?_); · exact rfl)
  | with_reducible refine iteST rfl ?_
  | with_reducible refine iteSF (by decide +kernel) ?_
  | (refine And.intro ?_ ?_; · leaf_len)
  | apply Exists.intro (α := V)
  | apply Exists.intro (α := Int)
  | apply Exists.intro (α := Addr)
  | apply Exists.intro (α := List V)
  | apply Exists.intro (α := Str)
  | apply Exists.intro (α := Nat)
  | apply Exists.intro (α := Bool)
  | apply Exists.intro (α := Value)
  | apply Exists.intro (α := List Int)
  | apply Exists.intro (α := List (List Int))
  | apply Exists.intro (α := List Bool)
  | apply Exists.intro (α := List (Str × V))
  | apply Exists.intro (α := Option (List (Option Int)))
  | apply Exists.intro (α := Option Int)
  | apply Exists.intro (α := Pt)
  | refine Or.inr ⟨_, rfl, ?_⟩
  | apply Or.inl)

section
variable {P : Program} {w : World} {K : PySem.W.Frag} {mg : Str → Option Value} {base : Heap} {A : Ad}
def spIsLeap (K : PySem.W.Frag) (C : Addr) : Sp := fun vs H Q _ => ∃ (m x v : V) (way : Str) (u : Bool) (n a b : Int) (evs : List (List Int)) (run : List Int), vs = [m, x, .str way, v] ∧ way = wy u ∧ MachAt K C H m n evs ∧ ShIs K H x a b ∧ RunIs K H v evs run ∧ EvB evs ∧
  ∀ (H' : Hp), Same H H' → Q (.bl (decide ((run.length : Int) - 1 ∈ lpL evs a b u run))) H'
def spIsLeapO (K : PySem.W.Frag) (C : Addr) : Sp := fun vs H Q _ => ∃ (m x v : V) (way : Str) (u : Bool) (n a b : Int) (evs : List (List Int)) (o : Option (List (Option Int))), vs = [m, x, .str way, v] ∧ way = wy u ∧ MachAt K C H m n evs ∧ ShIs K H x a b ∧ (∀ e ∈ evs, Four e) ∧ Thg K H v o ∧ runO evs o = false ∧
  Q (.bl false) H

theorem sc_is_leap : FnScope ["machine", "share", "way", "thing"] ["machine", "share", "way", "thing"] (defScope s_is_leap) := ⟨rfl, rfl, rfl, by decide +kernel, rfl, by decide +kernel, by decide +kernel⟩
theorem ok_is_leap (T : Txt K mg A) : FnOk P w K mg base CX0 8 A.f_is_leap A.d_is_leap ["machine", "share", "way", "thing"] (spIsLeap K A.C_Machine) := by
  refine T.F_is_leap.ok sc_is_leap (fun vs H Q E h => ?_) (fun cdv A1 outer s H vs Q E hr h => ?_)
  · obtain ⟨m, x, v, way, u, n, a, b, evs, run, rfl, _⟩ := h
    rfl
  · obtain ⟨m, x, v, way, u, n, a, b, evs, run, rfl, e, hM, hx, hv, eb, k⟩ := h
    have hI := hx.at_
    have hp := hx.pos
    have hg := hx.low
    have f4 := eb.f4
    have hwk := hv.wk
    obtain ⟨vr, rfl, hvr⟩ := id hv.at_
    have hvI := hv.at_
    refine ⟨_, (pss_cons (ps_expr (pe_call (ok_check_share T) (hr.mono (by decide)) rfl T.m_check_share T.F_check_share.kp T.B_check_share .nil pass0 (pa_cons (pv 1) pa_nil)))
      (pss_cons (ps_expr (pe_call (ok_check_way T) (hr.mono (by decide)) rfl T.m_check_way T.F_check_way.kp T.B_check_way .nil pass0 (pa_cons (pv 2) pa_nil)))
      (pss_one (ps_ret (pe_and (pe_call (ok_is_run T) (hr.mono (by decide)) rfl T.m_is_run T.F_is_run.kp T.B_is_run .nil pass0 (pa_cons (pv 0) (pa_cons (pv 3) pa_nil))) (pe_one (pe_cmpR (op_inK K rfl) (pe_op op_sub (pe_callB (call_lenK K rfl) (by rfl) T.z_len (by decide +kernel) (pa_cons (pv 3) pa_nil)) pe_int) (pe_call (ok_leaps T) (hr.mono (by decide)) rfl T.m_leaps T.F_leaps.kp T.B_leaps .nil pass0 (pa_cons (pv 0) (pa_cons (pv 1) (pa_cons (pv 2) (pa_cons (pv 3) pa_nil))))) (by with_unfolding_all rfl)))))))), ?_⟩
    repeat l_ints
    rename_i D H1 s1 hD hL
    have e2 : Q (.bl (inV (.int ((run.map V.int).length - 1)) ((lpL evs a b u run).map V.int))) H1 := by
      rw [inV_ints, List.length_map]
      exact k H1 s1
    exact e2

theorem okO_is_leap (T : Txt K mg A) : FnOk P w K mg base CX0 8 A.f_is_leap A.d_is_leap ["machine", "share", "way", "thing"] (spIsLeapO K A.C_Machine) := by
  refine T.F_is_leap.ok sc_is_leap (fun vs H Q E h => ?_) (fun cdv A1 outer s H vs Q E hr h => ?_)
  · obtain ⟨m, x, v, way, u, n, a, b, evs, o, rfl, _⟩ := h
    rfl
  · obtain ⟨m, x, v, way, u, n, a, b, evs, o, rfl, e, hM, hx, f4, ht, hr0, k⟩ := h
    have hI := hx.at_
    have hp := hx.pos
    have hg := hx.low
    refine ⟨_, (pss_cons (ps_expr (pe_call (ok_check_share T) (hr.mono (by decide)) rfl T.m_check_share T.F_check_share.kp T.B_check_share .nil pass0 (pa_cons (pv 1) pa_nil)))
      (pss_cons (ps_expr (pe_call (ok_check_way T) (hr.mono (by decide)) rfl T.m_check_way T.F_check_way.kp T.B_check_way .nil pass0 (pa_cons (pv 2) pa_nil)))
      (pss_one (ps_ret (pe_and (pe_call (okO_is_run T) (hr.mono (by decide)) rfl T.m_is_run T.F_is_run.kp T.B_is_run .nil pass0 (pa_cons (pv 0) (pa_cons (pv 3) pa_nil))) (pe_one (pe_cmpR (op_inK K rfl) (pe_op op_sub (pe_callB (call_lenK K rfl) (by rfl) T.z_len (by decide +kernel) (pa_cons (pv 3) pa_nil)) pe_int) (pe_call (ok_leaps T) (hr.mono (by decide)) rfl T.m_leaps T.F_leaps.kp T.B_leaps .nil pass0 (pa_cons (pv 0) (pa_cons (pv 1) (pa_cons (pv 2) (pa_cons (pv 3) pa_nil))))) (by with_unfolding_all rfl)))))))), ?_⟩
    repeat l_ints
end
end Myk56

namespace Myk56
open PySem L2 My EnT
-- Same from behind
local macro_rules | `(tactic| nest_cls) => `(tactic| first
  | exact Same.refl _
  | assumption
  | (refine Same.back (Same.new (by assumption)) ?_; nest_cls)
  | (refine Same.back (by assumption) ?_; nest_cls)
  | (refine Same.chg ?_ (by first | assumption | exact Free.flip (by assumption) (by nest_cls)); nest_cls))
-- Keep from behind
local macro_rules | `(tactic| mem_news) => `(tactic| first
  | exact Keep.refl _
  | assumption
  | (refine Keep.back (Keep.new (by assumption)) ?_; mem_news)
  | (refine Keep.back (Keep.lst (by assumption)) ?_; mem_news)
  | (refine Keep.back (Keep.lst (by kd_adr)) ?_; mem_news)
  | (refine Keep.back (Keep.of (by assumption)) ?_; mem_news)
  | (refine Keep.back (Keep.ofBut (by assumption) (by kba_ints)) ?_; mem_news)
  | (refine Keep.back (by assumption) ?_; mem_news))
-- the pot
local macro_rules | `(tactic| kba_ints) => `(tactic| first
  | assumption
  | (refine Pt.At.back (Same.new (by assumption)) ?_; kba_ints)
  | (refine Pt.At.back (by assumption) ?_; kba_ints)
  | exact Pt.At.flip (by assumption) (by nest_cls))
-- a fact of a heap, from behind
local macro_rules | `(tactic| kd_adr) => `(tactic| first
  | ((with_reducible show IT _ _ _ _); first
    | assumption
    | exact IT.new2
    | exact IT.new1
    | exact IT.new3
    | exact IT.new4
    | exact IT.flip (by assumption) (by mem_news)
    | exact IT.flip IT.new2 (by mem_news)
    | exact IT.flip IT.new3 (by mem_news)
    | exact IT.flip IT.new1 (by mem_news)
    | exact IT.flip IT.new4 (by mem_news))
  | ((with_reducible show ITs _ _ _ _); first
    | assumption
    | exact ITs.flip (by assumption) (by mem_news))
  | ((with_reducible show SqT _ _ _ _); first
    | assumption
    | exact SqT.lt upd_same
    | exact SqT.lt (by assumption)
    | exact IT.sq (by assumption)
    | exact SqT.flip (by assumption) (by mem_news)
    | exact SqT.flip (SqT.lt (by assumption)) (by mem_news)
    | exact SqT.flip (IT.sq (by assumption)) (by mem_news)
    | exact SqT.flip (SqT.lt upd_same) (by mem_news))
  | ((with_reducible show SqL _ _ _ _); first
    | assumption
    | exact SqL.lt upd_same
    | exact SqL.lt (by assumption)
    | exact SqL.flip (by assumption) (by nest_cls)
    | exact SqL.flip (SqL.lt (by assumption)) (by nest_cls)
    | exact SqL.flip (SqL.lt upd_same) (by nest_cls))
  | ((with_reducible show Parts _ _ _ _ _); first | assumption | exact Parts.flip (by assumption) (by mem_news))
  | ((with_reducible show MachAt _ _ _ _ _ _); first | assumption | exact MachAt.flip (by assumption) (by mem_news))
  | ((with_reducible show ShIs _ _ _ _ _); first | assumption | exact ShIs.flip (by assumption) (by mem_news))
  | ((with_reducible show RunIs _ _ _ _ _); first | assumption | exact RunIs.flip (by assumption) (by mem_news))
  | ((with_reducible show LTs _ _ _ _); first | assumption | exact LTs.flip (by assumption) (by nest_cls))
  | ((with_reducible show Pt.At _ _); kba_ints)
  | ((with_reducible show Same _ _); nest_cls)
  | ((with_reducible show Keep _ _); mem_news)
  | ((with_reducible show (_ : Hp) _ = some _); first
    | assumption
    | exact upd_same
    | exact At.flip (by assumption) (by nest_cls)
    | exact At.flip upd_same (by nest_cls)))
-- a side condition
local macro_rules | `(tactic| leaf_len) => `(tactic| first
  | (with_reducible rfl)
  | (with_reducible assumption)
  | kd_adr
  | omega
  | ((with_reducible show (_ : Nat) ≤ sizeLine); first | (show 1 ≤ sizeLine; decide) | (show 2 ≤ sizeLine; decide) | (show 3 ≤ sizeLine; decide) | (show 4 ≤ sizeLine; decide) | (show 5 ≤ sizeLine; decide) | (show 6 ≤ sizeLine; decide) | (show 7 ≤ sizeLine; decide) | (show 8 ≤ sizeLine; decide) | (show 0 ≤ sizeLine; decide))
  | exact rfl
  | ((with_reducible show _ ∨ _); first | exact Or.inl (by leaf_len) | exact Or.inr (by leaf_len))
  | exact List.cons_ne_nil _ _
  | exact mf_ev _ _
  | exact mf_st _ _
  | exact flat_ints _
  | ((with_reducible show tyV _ _ _ _); exact Or.inl ⟨rfl, _, by kd_adr⟩)
  | ((with_reducible show ClsV _ _); exact ClsV.ty _)
  | ((with_reducible show CDivW _ _); exact CDivW.of (by omega) (by omega))
  | (apply Exists.intro (α := List V); kd_adr)
  | assumption
  | ((with_reducible show small _); unfold small; omega)
  | ((with_reducible show CPow _ _); exact ⟨by decide, by decide, by decide⟩)
  | ((with_reducible show CMul _ _); first | exact CMul.l (by omega) (by omega) | exact CMul.r (by omega) (by omega))
  | ((with_reducible show CMulW _ _); exact CMulW.of (by omega) (by omega))
  | ((with_reducible show TyX _ _ _ _); first | exact TyX.base (.int _) | exact TyX.base (.str _) | exact TyX.base (.bl _) | exact tyT (by kd_adr) | exact TyX.base (.lst (by kd_adr)))
  | ((with_reducible show PySem.W.kitOne _ _ _ = some _); first | exact kit_ty (r := true) (by decide +kernel) | exact kit_ty (r := false) (by decide +kernel))
  | decide)
-- a step
local macro_rules | `(tactic| l_ints) => `(tactic| first
  | (intro (p : Addr) (hp : (_ : Hp) p = none))
  | (intro (H' : Hp) (s : Same _ H'))
  | (intro (p : Addr) (H' : Hp) (s : Same _ H'))
  | (intro (h : IT _ _ _ _))
  | (intro (h : SqT _ _ _ _))
  | (intro (h : (_ : Hp) _ = none))
  | (intro (h : (_ : Hp) _ = some _))
  | ((with_reducible show rCatA _ _ _ _ _); refine catJ (by kd_adr) (by kd_adr) (by leaf_len) ?_)
  | ((with_reducible show rSlA _ _ none (some _) _ _); refine slTake (by kd_adr) (by omega) ?_)
  | with_reducible refine tC_i ?_
  | with_reducible refine tNil_i ?_
  | with_reducible refine tCons_i ?_
  | with_reducible refine tCall_i ?_
  | with_reducible refine tOp_i ?_
  | ((with_reducible refine tVar_i ?_ ?_); · exact rfl)
  | with_reducible refine iteT ?_
  | with_reducible refine iteF ?_
  | (with_reducible refine iteNEq ?_ ?_; · assumption)
  | (with_reducible refine iteNb ?_ ?_; · assumption)
  | (with_reducible refine iteTb ?_ ?_; · assumption)
  | (with_reducible refine iteFb ?_ ?_; · assumption)
  | ((with_reducible refine iteFb ?_ ?_); · exact rfl)
  | ((with_reducible refine iteTb ?_ ?_); · exact rfl)
  | with_reducible refine iteST rfl ?_
  | with_reducible refine iteSF (by decide +kernel) ?_
  | (refine And.intro ?_ ?_; · leaf_len)
  | apply Exists.intro (α := V)
  | apply Exists.intro (α := Int)
  | apply Exists.intro (α := Addr)
  | apply Exists.intro (α := List V)
  | apply Exists.intro (α := Str)
  | apply Exists.intro (α := Nat)
  | apply Exists.intro (α := Bool)
  | apply Exists.intro (α := Value)
  | apply Exists.intro (α := List Int)
  | apply Exists.intro (α := List (List Int))
  | apply Exists.intro (α := List Bool)
  | apply Exists.intro (α := List (Str × V))
  | apply Exists.intro (α := Option (List (Option Int)))
  | apply Exists.intro (α := Option Int)
  | apply Exists.intro (α := Pt)
  | refine Or.inr ⟨_, rfl, ?_⟩
  | apply Or.inl)

section
variable {P : Program} {w : World} {K : PySem.W.Frag} {mg : Str → Option Value} {base : Heap} {A : Ad}
def spIs : Sp := fun vs H Q _ => ∃ (t : Bool), vs = [.bl t, .bl t] ∧ Q (.bl true) H
def spLpt : Sp := fun vs H Q _ => ∃ (x y : Int) (way : Str) (u : Bool), vs = [.int x, .int y, .str way] ∧ way = wy u ∧ Q (.bl (if u then decide (x < 0 ∧ 0 < y) else decide (0 < x ∧ y < 0))) H
def spNums (K : PySem.W.Frag) : Sp := fun vs H Q _ => ∃ (q : Addr) (x v : V) (n a b : Int) (evs : List (List Int)) (run : List Int), vs = [.ref q, x, v] ∧ Parts K H (.ref q) n evs ∧ ShIs K H x a b ∧ RunIs K H v evs run ∧ EvB evs ∧
  ∀ (D : Addr) (H' : Hp), Same H H' → H D = none → H' D = some (.lst (((List.range (run.length + 1)).map (valB evs a b run)).map V.int)) → Q (.ref D) H'

theorem sc_law_is : FnScope ["told", "due"] ["told", "due"] (defScope s_law_is) := ⟨rfl, rfl, rfl, by decide +kernel, rfl, by decide +kernel, by decide +kernel⟩
theorem ok_law_is (T : Txt K mg A) : FnOk P w K mg base CX0 1 A.f_law_is A.d_law_is ["told", "due"] (spIs) := by
  refine T.F_law_is.ok sc_law_is (fun vs H Q E h => ?_) (fun cdv A1 outer s H vs Q E hr h => ?_)
  · obtain ⟨t, rfl, _⟩ := h
    rfl
  · obtain ⟨t, rfl, q⟩ := h
    refine ⟨_, (pss_one (ps_ret (pe_and (pe_callB (call_isK K rfl) (by rfl) T.z_isinstance (by decide +kernel) (pa_cons (pv 0) (pa_cons (pe_bltn (v := .ty "bool") (u := .type "bool") rfl T.z_bool (by decide +kernel) rfl) pa_nil))) (pe_one (pe_cmpR op_eq (pv 0) (pv 1) (nomark _)))))), ?_⟩
    repeat l_ints
    exact bl_true (Q := Q) q rfl
theorem sc_law_leapt : FnScope ["before", "after", "way"] ["before", "after", "way"] (defScope s_law_leapt) := ⟨rfl, rfl, rfl, by decide +kernel, rfl, by decide +kernel, by decide +kernel⟩
theorem ok_law_leapt (T : Txt K mg A) : FnOk P w K mg base CX0 1 A.f_law_leapt A.d_law_leapt ["before", "after", "way"] (spLpt) := by
  refine T.F_law_leapt.ok sc_law_leapt (fun vs H Q E h => ?_) (fun cdv A1 outer s H vs Q E hr h => ?_)
  · obtain ⟨x, y, way, u, rfl, _⟩ := h
    rfl
  · obtain ⟨x, y, way, u, rfl, e, q⟩ := h
    refine ⟨_, (pss_cons (ps_if (pt_cmpR op_eq (pv 2) pe_str (nomark _)) (pss_one (ps_ret (pe_chain op_lt op_lt (pv 0) pe_int (pv 1)))) pss_nil)
      (pss_one (ps_ret (pe_chain op_lt op_lt (pv 1) pe_int (pv 0))))), ?_⟩
    cases u <;> (unfold wy at e; subst e; repeat l_ints)
    · have q : Q (.bl (decide (0 < x ∧ y < 0))) H := q
      refine iteD (fun c => ?_) (fun c => ?_)
      · repeat l_ints
        have e : decide (0 < x ∧ y < 0) = decide (0 < x) := by simp [c]
        rw [e] at q
        exact q
      · have e : decide (0 < x ∧ y < 0) = false := by simp; omega
        rw [e] at q
        exact q
    · have q : Q (.bl (decide (x < 0 ∧ 0 < y))) H := q
      refine iteD (fun c => ?_) (fun c => ?_)
      · repeat l_ints
        have e : decide (x < 0 ∧ 0 < y) = decide (0 < y) := by simp [c]
        rw [e] at q
        exact q
      · have e : decide (x < 0 ∧ 0 < y) = false := by simp; omega
        rw [e] at q
        exact q
theorem sc_law_numbers : FnScope ["parts", "share", "run", "numbers", "event"] ["parts", "share", "run"] (defScope s_law_numbers) := ⟨rfl, rfl, rfl, by decide +kernel, rfl, by decide +kernel, by decide +kernel⟩
theorem ok_law_numbers (T : Txt K mg A) : FnOk P w K mg base CX0 2 A.f_law_numbers A.d_law_numbers ["parts", "share", "run"] (spNums K) := by
  refine T.F_law_numbers.ok sc_law_numbers (fun vs H Q E h => ?_) (fun cdv A1 outer s H vs Q E hr h => ?_)
  · obtain ⟨q, x, v, n, a, b, evs, run, rfl, _⟩ := h
    rfl
  · obtain ⟨q, x, v, n, a, b, evs, run, rfl, hP, hx, hv, eb, k⟩ := h
    obtain ⟨vr, rfl, hvr⟩ := id hv.at_
    have hin := hv.inn
    have hl := hv.len
    refine ⟨_, (pss_cons (ps_set (i := 3) sc_law_numbers.nd rfl (Or.inl rfl) (pe_lst (pa_cons pe_int pa_nil)))
      (pss_cons (ps_for PassesOwn.never rfl (pi_tup (pv 2)) (pg_name (i := 4) sc_law_numbers.nd rfl (Or.inl rfl))
        (pss_one (ps_expr (pe_bm PySem.F.plainAttrs_list PySem.F.slot_list_append PySem.F.type_list_append mt_append (pv 3) (pa_cons (pe_op op_add (pe_ix (ix_listK K rfl) (pv 3) (pe_un un_neg pe_int) (fun _ _ => rfl)) (pe_call (ok_law_lift T) (hr.mono (by decide)) rfl T.m_law_lift T.F_law_lift.kp T.B_law_lift .nil pass0 (pa_cons (pv 1) (pa_cons (pe_ix (ix_tupK K rfl) (pe_ix (ix_tupK K rfl) (pv 0) pe_int (fun _ _ => rfl)) (pv 4) (fun _ _ => rfl)) pa_nil)))) pa_nil)))))
      (pss_one (ps_ret (pv 3))))), ?_⟩
    repeat l_ints
    rename_i D hD
    refine for_tup (K := K) (a := vr) (xs := run.map V.int) (fun i σ H' => Same H H' ∧ ∃ u4, σ = [some (.ref q), some x, some (.ref vr), some (.ref D), u4] ∧ H' D = some (.lst (((List.range (i + 1)).map (valB evs a b run)).map V.int)))
      ⟨Same.new hD, none, rfl, ?_⟩ (fun i σ H' _ y => SqT.keep (Keep.of y.1) hvr) ?_ ?_
    · rw [upd_same]
      show _ = some (HO.lst [V.int (valB evs a b run 0)])
      rw [valB0]
    · rintro i y σ H1 hi ⟨s1, u4, rfl, hA⟩
      obtain ⟨kk, hk, rfl⟩ := mapI hi
      have hil : i < run.length := (List.getElem?_eq_some_iff.mp hk).1
      obtain ⟨k0, k1⟩ := hin kk (List.mem_of_getElem? hk)
      obtain ⟨b0, a', t, p, e1, e2⟩ := ev_at eb.f4 k0 k1
      obtain ⟨_, pw, xs, e, hpq, hpw, al2⟩ := (hP.keep (Keep.of s1)).open
      cases e
      obtain ⟨z, hat, hz⟩ := evAt al2 k0 e1
      have hx1 : IT K H1 x [a, b] := hx.at_.keep (Keep.of s1)
      have he : [b0, a', t, p] ∈ evs := List.mem_of_getElem? e1
      have tb : 1 ≤ t ∧ t ≤ 1000 := eb.t _ he
      have pb : -1000000 ≤ p ∧ p ≤ 1000000 := eb.p _ he
      have lst : atI (((List.range (i + 1)).map (valB evs a b run)).map V.int) (-1) = some (.int (valB evs a b run i)) := last_of (n := i) (by rw [List.length_map, List.length_map, List.length_range]) (by rw [List.getElem?_map, List.getElem?_map, range_at (by omega)]; rfl)
      have len : (((List.range (i + 1)).map (valB evs a b run)).map V.int).length < sizeLine := by
        rw [List.length_map, List.length_map, List.length_range]
        exact Nat.lt_of_lt_of_le (show i + 1 < 2000 by omega) (by decide)
      repeat l_ints
      have eT : sumT evs (run.take (i + 1)) = sumT evs (run.take i) + t := by rw [take_succ hk, sumT_app, sumT_one, e2]; rfl
      have eP : sumP evs (run.take (i + 1)) = sumP evs (run.take i) + p := by rw [take_succ hk, sumP_app, sumP_one, e2]; rfl
      have ev : valB evs a b run (i + 1) = valB evs a b run i + (b * p - a * t) := by
        unfold valB
        rw [eT, eP, Int.mul_add, Int.mul_add]
        omega
      refine ⟨_, rfl, ?_⟩
      rw [upd_same, List.range_succ (n := i + 1), List.map_append, List.map_append]
      show _ = some (HO.lst (_ ++ [V.int (valB evs a b run (i + 1))]))
      rw [ev]
    · rintro σ H1 ⟨s1, u4, rfl, hA⟩
      rw [List.length_map] at hA
      repeat l_ints
      exact k D H1 s1 hD hA
end
end Myk56

namespace Myk56
open PySem L2 My EnT
-- Same from behind
local macro_rules | `(tactic| nest_cls) => `(tactic| first
  | exact Same.refl _
  | assumption
  | (refine Same.back (Same.new (by assumption)) ?_; nest_cls)
  | (refine Same.back (by assumption) ?_; nest_cls)
  | (refine Same.chg ?_ (by first | assumption | exact Free.flip (by assumption) (by nest_cls)); nest_cls))
-- Keep from behind
local macro_rules | `(tactic| mem_news) => `(tactic| first
  | exact Keep.refl _
  | assumption
  | (refine Keep.back (Keep.new (by assumption)) ?_; mem_news)
  | (refine Keep.back (Keep.lst (by assumption)) ?_; mem_news)
  | (refine Keep.back (Keep.lst (by kd_adr)) ?_; mem_news)
  | (refine Keep.back (Keep.of (by assumption)) ?_; mem_news)
  | (refine Keep.back (Keep.ofBut (by assumption) (by kba_ints)) ?_; mem_news)
  | (refine Keep.back (by assumption) ?_; mem_news))
-- the pot
local macro_rules | `(tactic| kba_ints) => `(tactic| first
  | assumption
  | (refine Pt.At.back (Same.new (by assumption)) ?_; kba_ints)
  | (refine Pt.At.back (by assumption) ?_; kba_ints)
  | exact Pt.At.flip (by assumption) (by nest_cls))
-- a fact of a heap, from behind
local macro_rules | `(tactic| kd_adr) => `(tactic| first
  | ((with_reducible show IT _ _ _ _); first
    | assumption
    | exact IT.new2
    | exact IT.new1
    | exact IT.new3
    | exact IT.new4
    | exact IT.flip (by assumption) (by mem_news)
    | exact IT.flip IT.new2 (by mem_news)
    | exact IT.flip IT.new3 (by mem_news)
    | exact IT.flip IT.new1 (by mem_news)
    | exact IT.flip IT.new4 (by mem_news))
  | ((with_reducible show ITs _ _ _ _); first
    | assumption
    | exact ITs.flip (by assumption) (by mem_news))
  | ((with_reducible show SqT _ _ _ _); first
    | assumption
    | exact SqT.lt upd_same
    | exact SqT.lt (by assumption)
    | exact IT.sq (by assumption)
    | exact SqT.flip (by assumption) (by mem_news)
    | exact SqT.flip (SqT.lt (by assumption)) (by mem_news)
    | exact SqT.flip (IT.sq (by assumption)) (by mem_news)
    | exact SqT.flip (SqT.lt upd_same) (by mem_news))
  | ((with_reducible show SqL _ _ _ _); first
    | assumption
    | exact SqL.lt upd_same
    | exact SqL.lt (by assumption)
    | exact SqL.flip (by assumption) (by nest_cls)
    | exact SqL.flip (SqL.lt (by assumption)) (by nest_cls)
    | exact SqL.flip (SqL.lt upd_same) (by nest_cls))
  | ((with_reducible show Parts _ _ _ _ _); first | assumption | exact Parts.flip (by assumption) (by mem_news))
  | ((with_reducible show MachAt _ _ _ _ _ _); first | assumption | exact MachAt.flip (by assumption) (by mem_news))
  | ((with_reducible show ShIs _ _ _ _ _); first | assumption | exact ShIs.flip (by assumption) (by mem_news))
  | ((with_reducible show RunIs _ _ _ _ _); first | assumption | exact RunIs.flip (by assumption) (by mem_news))
  | ((with_reducible show LTs _ _ _ _); first | assumption | exact LTs.flip (by assumption) (by nest_cls))
  | ((with_reducible show Pt.At _ _); kba_ints)
  | ((with_reducible show Same _ _); nest_cls)
  | ((with_reducible show Keep _ _); mem_news)
  | ((with_reducible show (_ : Hp) _ = some _); first
    | assumption
    | exact upd_same
    | exact At.flip (by assumption) (by nest_cls)
    | exact At.flip upd_same (by nest_cls)))
-- a side condition
local macro_rules | `(tactic| leaf_len) => `(tactic| first
  | (with_reducible rfl)
  | (with_reducible assumption)
  | kd_adr
  | omega
  | ((with_reducible show (_ : Nat) ≤ sizeLine); first | (show 1 ≤ sizeLine; decide) | (show 2 ≤ sizeLine; decide) | (show 3 ≤ sizeLine; decide) | (show 4 ≤ sizeLine; decide) | (show 5 ≤ sizeLine; decide) | (show 6 ≤ sizeLine; decide) | (show 7 ≤ sizeLine; decide) | (show 8 ≤ sizeLine; decide) | (show 0 ≤ sizeLine; decide))
  | exact rfl
  | ((with_reducible show _ ∨ _); first | exact Or.inl (by leaf_len) | exact Or.inr (by leaf_len))
  | exact List.cons_ne_nil _ _
  | exact mf_ev _ _
  | exact mf_st _ _
  | exact flat_ints _
  | ((with_reducible show tyV _ _ _ _); exact Or.inl ⟨rfl, _, by kd_adr⟩)
  | ((with_reducible show ClsV _ _); exact ClsV.ty _)
  | ((with_reducible show CDivW _ _); exact CDivW.of (by omega) (by omega))
  | (apply Exists.intro (α := List V); kd_adr)
  | assumption
  | ((with_reducible show small _); unfold small; omega)
  | ((with_reducible show CPow _ _); exact ⟨by decide, by decide, by decide⟩)
  | ((with_reducible show CMul _ _); first | exact CMul.l (by omega) (by omega) | exact CMul.r (by omega) (by omega))
  | ((with_reducible show CMulW _ _); exact CMulW.of (by omega) (by omega))
  | ((with_reducible show TyX _ _ _ _); first | exact TyX.base (.int _) | exact TyX.base (.str _) | exact TyX.base (.bl _) | exact tyT (by kd_adr) | exact TyX.base (.lst (by kd_adr)))
  | ((with_reducible show PySem.W.kitOne _ _ _ = some _); first | exact kit_ty (r := true) (by decide +kernel) | exact kit_ty (r := false) (by decide +kernel))
  | decide)
-- a step
local macro_rules | `(tactic| l_ints) => `(tactic| first
  | (intro (p : Addr) (hp : (_ : Hp) p = none))
  | (intro (H' : Hp) (s : Same _ H'))
  | (intro (p : Addr) (H' : Hp) (s : Same _ H'))
  | (intro (h : IT _ _ _ _))
  | (intro (h : SqT _ _ _ _))
  | (intro (h : (_ : Hp) _ = none))
  | (intro (h : (_ : Hp) _ = some _))
  | ((with_reducible show rCatA _ _ _ _ _); refine catJ (by kd_adr) (by kd_adr) (by leaf_len) ?_)
  | ((with_reducible show rSlA _ _ none (some _) _ _); refine slTake (by kd_adr) (by omega) ?_)
  | with_reducible refine tC_i ?_
  | with_reducible refine tNil_i ?_
  | with_reducible refine tCons_i ?_
  | with_reducible refine tCall_i ?_
  | with_reducible refine tOp_i ?_
  | ((with_reducible refine tVar_i ?_ ?_); · exact rfl)
  | with_reducible refine iteT ?_
  | with_reducible refine iteF ?_
  | (with_reducible refine iteNEq ?_ ?_; · assumption)
  | (with_reducible refine iteNb ?_ ?_; · assumption)
  | (with_reducible refine iteTb ?_ ?_; · assumption)
  | (with_reducible refine iteFb ?_ ?_; · assumption)
  | ((with_reducible refine iteFb ?_ ?_); · exact rfl)
  | ((with_reducible refine iteTb ?_ ?_); · exact rfl)
  | with_reducible refine iteST rfl ?_
  | with_reducible refine iteSF (by decide +kernel) ?_
  | (refine And.intro ?_ ?_; · leaf_len)
  | apply Exists.intro (α := V)
  | apply Exists.intro (α := Int)
  | apply Exists.intro (α := Addr)
  | apply Exists.intro (α := List V)
  | apply Exists.intro (α := Str)
  | apply Exists.intro (α := Nat)
  | apply Exists.intro (α := Bool)
  | apply Exists.intro (α := Value)
  | apply Exists.intro (α := List Int)
  | apply Exists.intro (α := List (List Int))
  | apply Exists.intro (α := List Bool)
  | apply Exists.intro (α := List (Str × V))
  | apply Exists.intro (α := Option (List (Option Int)))
  | apply Exists.intro (α := Option Int)
  | apply Exists.intro (α := Pt)
  | refine Or.inr ⟨_, rfl, ?_⟩
  | apply Or.inl)

section
variable {P : Program} {w : World} {K : PySem.W.Frag} {mg : Str → Option Value} {base : Heap} {A : Ad}
/-! ### data compared -/
structure Nice (n : Nat) (x : PyData) : Prop where
  c : x.canLay0 = true
  d : x.depth ≤ n
  r : PyData.eqv x x = true
theorem Nice.all {n : Nat} : ∀ {ds : List PyData}, (∀ d ∈ ds, Nice n d) → PyData.canLayAll0 ds = true ∧ PyData.depthAll ds ≤ n ∧ PyData.eqvAll ds ds = true
  | [], _ => ⟨rfl, Nat.zero_le _, rfl⟩
  | d :: ds, h => by
    obtain ⟨h1, h2, h3⟩ := h d (by simp)
    obtain ⟨i1, i2, i3⟩ := Nice.all (ds := ds) fun e he => h e (by simp [he])
    refine ⟨?_, ?_, ?_⟩
    · rw [PyData.canLayAll0, h1, i1]; rfl
    · rw [PyData.depthAll]; exact Nat.max_le.mpr ⟨h2, i2⟩
    · rw [PyData.eqvAll, h3, i3]; rfl
theorem Nice.tup {n : Nat} {ds : List PyData} (h : ∀ d ∈ ds, Nice n d) : Nice (n + 1) (.tuple ds) := by
  obtain ⟨h1, h2, h3⟩ := Nice.all h
  exact ⟨by rw [PyData.canLay0]; exact h1, by rw [PyData.depth]; omega, by rw [PyData.eqv]; exact h3⟩
theorem Nice.lst {n : Nat} {ds : List PyData} (h : ∀ d ∈ ds, Nice n d) : Nice (n + 1) (.list ds) := by
  obtain ⟨h1, h2, h3⟩ := Nice.all h
  exact ⟨by rw [PyData.canLay0]; exact h1, by rw [PyData.depth]; omega, by rw [PyData.eqv]; exact h3⟩
theorem Nice.int {n : Nat} (i : Int) : Nice n (.int i) := ⟨by rw [PyData.canLay0], by rw [PyData.depth]; omega, by rw [PyData.eqv]; exact beq_self_eq_true i⟩
theorem Nice.shaped {n : Nat} {d : PyData} (h : Nice n d) (hn : n ≤ 64) : SeqAt.shaped d = true := by
  unfold SeqAt.shaped
  rw [h.c, decide_eq_true (Nat.le_trans h.d hn)]
  rfl
def dI (ns : List Int) : PyData := .tuple (ns.map .int)
def dIs (nss : List (List Int)) : PyData := .list (nss.map dI)
theorem nice_dI (ns : List Int) : Nice 1 (dI ns) := Nice.tup fun d hd => by
  obtain ⟨i, _, rfl⟩ := List.mem_map.mp hd
  exact Nice.int i
theorem nice_dIs (nss : List (List Int)) : Nice 2 (dIs nss) := Nice.lst fun d hd => by
  obtain ⟨i, _, rfl⟩ := List.mem_map.mp hd
  exact nice_dI i
theorem dp_ints {K : PySem.W.Frag} {H : Hp} : ∀ ns : List Int, DpAll K H (ns.map V.int) (ns.map .int)
  | [] => .nil
  | n :: ns => .cons (.int n) (dp_ints ns)
theorem IT.dp {K : PySem.W.Frag} {H : Hp} {v : V} {ns : List Int} (h : IT K H v ns) : Dp K H v (dI ns) := by
  obtain ⟨q, rfl, s⟩ := h
  exact .tup s (dp_ints ns)
def dLI (ns : List Int) : PyData := .list (ns.map .int)
theorem nice_dLI (ns : List Int) : Nice 1 (dLI ns) := Nice.lst fun d hd => by
  obtain ⟨i, _, rfl⟩ := List.mem_map.mp hd
  exact Nice.int i
theorem neI {K : PySem.W.Frag} {H : Hp} {D E : Addr} {ns : List Int} {Q : VK} (h : SqL K H D (ns.map V.int)) (g : SqL K H E (ns.map V.int)) (q : Q (.bl false) H) : rNeD K (.ref D) (.ref E) H Q := by
  have n := nice_dLI ns
  refine ⟨dLI ns, dLI ns, .lst h (dp_ints ns), .lst g (dp_ints ns), n.shaped (by decide), n.shaped (by decide), ?_⟩
  rw [n.r]
  exact q

theorem eqvAll_ints : ∀ xs ys : List Int, PyData.eqvAll (xs.map PyData.int) (ys.map PyData.int) = decide (xs = ys)
  | [], [] => by simp [PyData.eqvAll]
  | [], y :: ys => by simp [PyData.eqvAll]
  | x :: xs, [] => by simp [PyData.eqvAll]
  | x :: xs, y :: ys => by
    simp [PyData.eqvAll, PyData.eqv, eqvAll_ints xs ys]
    rw [Bool.eq_iff_iff]
    simp
theorem eqv_dI (xs ys : List Int) : PyData.eqv (dI xs) (dI ys) = decide (xs = ys) := by
  unfold dI
  rw [PyData.eqv, eqvAll_ints]
/-- two tuples of ints compared -/
theorem eqT2 {K : PySem.W.Frag} {H : Hp} {x y : V} {xs ys : List Int} {Q : VK} (h : IT K H x xs) (g : IT K H y ys) (q : Q (.bl (decide (xs = ys))) H) : rEqD K x y H Q := by
  refine ⟨_, _, IT.dp h, IT.dp g, (nice_dI xs).shaped (by decide), (nice_dI ys).shaped (by decide), ?_⟩
  rw [eqv_dI]
  exact q
theorem low_eq {P T a b : Int} (hT : 0 < T) (hb : 1 ≤ b) (hg : gcdI a b = 1) : ([P / gcdI P T, T / gcdI P T] = [a, b]) ↔ b * P - a * T = 0 := by
  have g0 := gcdI_pos (p := P) hT
  obtain ⟨l1, l2, l3⟩ := low_one (p := P) hT
  have d1 : gcdI P T ∣ P := Int.ofNat_dvd_left.mpr (Nat.gcd_dvd_left _ _)
  have d2 : gcdI P T ∣ T := Int.ofNat_dvd_left.mpr (Nat.gcd_dvd_right _ _)
  have e1 : P = gcdI P T * (P / gcdI P T) := (Int.mul_ediv_cancel' d1).symm
  have e2 : T = gcdI P T * (T / gcdI P T) := (Int.mul_ediv_cancel' d2).symm
  generalize P / gcdI P T = x at *
  generalize T / gcdI P T = y at *
  generalize gcdI P T = g at *
  subst e1 e2
  have key : b * (g * x) - a * (g * y) = g * (b * x - a * y) := by
    rw [Int.mul_sub, Int.mul_left_comm b g x, Int.mul_left_comm a g y]
  rw [key]
  constructor
  · intro h
    have h1 : x = a := by simpa using (List.cons.inj h).1
    have h2 : y = b := by simpa using (List.cons.inj (List.cons.inj h).2).1
    rw [h1, h2, Int.mul_comm b a, Int.sub_self, Int.mul_zero]
  · intro h
    have h0 : b * x = a * y := by
      rcases Int.mul_eq_zero.mp h with z | z
      · omega
      · omega
    have hN : b.natAbs * x.natAbs = a.natAbs * y.natAbs := by rw [← Int.natAbs_mul, ← Int.natAbs_mul, h0]
    have c1 : Nat.Coprime x.natAbs y.natAbs := by
      unfold gcdI at l1
      exact Int.ofNat.inj l1
    have c2 : Nat.Coprime a.natAbs b.natAbs := by
      unfold gcdI at hg
      exact Int.ofNat.inj hg
    have v1 : y.natAbs ∣ b.natAbs := (Nat.Coprime.symm c1).dvd_of_dvd_mul_right (by rw [hN]; exact Nat.dvd_mul_left _ _)
    have v2 : b.natAbs ∣ y.natAbs := (Nat.Coprime.symm c2).dvd_of_dvd_mul_left (by rw [← hN]; exact Nat.dvd_mul_right _ _)
    have ey : y.natAbs = b.natAbs := Nat.dvd_antisymm v1 v2
    have ey : y = b := by omega
    subst ey
    have ex : x = a := Int.eq_of_mul_eq_mul_left (a := y) (by omega) (by rw [h0, Int.mul_comm])
    rw [ex]
/-- the lists that the law's told looks for, place by place -/
theorem nums_at {evs : List (List Int)} {a b : Int} {run : List Int} {i : Nat} (h : i ≤ run.length) : (((List.range (run.length + 1)).map (valB evs a b run)).map V.int)[i]? = some (V.int (valB evs a b run i)) := by
  rw [List.getElem?_map, List.getElem?_map, range_at (by omega)]
  rfl
theorem lp_pre {evs : List (List Int)} {a b : Int} {u : Bool} {run : List Int} {n : Nat} (hn : n ≤ run.length) : decide (((run.take n).length : Int) - 1 ∈ lpL evs a b u (run.take n)) = decide ((n : Int) - 1 ∈ lpL evs a b u run) := by
  have ln : (run.take n).length = n := by rw [List.length_take]; omega
  have hv : ∀ i, i ≤ n → valB evs a b (run.take n) i = valB evs a b run i := fun i hi => by
    unfold valB
    rw [List.take_take, Nat.min_eq_left hi]
  have hl : ∀ i, i + 1 ≤ n → lpAt evs a b u (run.take n) i = lpAt evs a b u run i := fun i hi => by
    unfold lpAt
    rw [hv i (by omega), hv (i + 1) hi]
  rw [ln]
  congr 1
  apply propext
  unfold lpL
  rw [ln]
  simp only [List.mem_map, List.mem_filter, List.mem_range]
  constructor
  · rintro ⟨i, ⟨h1, h2⟩, h3⟩
    exact ⟨i, ⟨by omega, by rw [← hl i (by omega)]; exact h2⟩, h3⟩
  · rintro ⟨i, ⟨h1, h2⟩, h3⟩
    exact ⟨i, ⟨by omega, by rw [hl i (by omega)]; exact h2⟩, h3⟩

end
end Myk56

namespace Myk56
open PySem L2 My EnT
-- Same from behind
local macro_rules | `(tactic| nest_cls) => `(tactic| first
  | exact Same.refl _
  | assumption
  | (refine Same.back (Same.new (by assumption)) ?_; nest_cls)
  | (refine Same.back (by assumption) ?_; nest_cls)
  | (refine Same.chg ?_ (by first | assumption | exact Free.flip (by assumption) (by nest_cls)); nest_cls))
-- Keep from behind
local macro_rules | `(tactic| mem_news) => `(tactic| first
  | exact Keep.refl _
  | assumption
  | (refine Keep.back (Keep.new (by assumption)) ?_; mem_news)
  | (refine Keep.back (Keep.lst (by assumption)) ?_; mem_news)
  | (refine Keep.back (Keep.lst (by kd_adr)) ?_; mem_news)
  | (refine Keep.back (Keep.of (by assumption)) ?_; mem_news)
  | (refine Keep.back (Keep.ofBut (by assumption) (by kba_ints)) ?_; mem_news)
  | (refine Keep.back (by assumption) ?_; mem_news))
-- the pot
local macro_rules | `(tactic| kba_ints) => `(tactic| first
  | assumption
  | (refine Pt.At.back (Same.new (by assumption)) ?_; kba_ints)
  | (refine Pt.At.back (by assumption) ?_; kba_ints)
  | exact Pt.At.flip (by assumption) (by nest_cls))
-- a fact of a heap, from behind
local macro_rules | `(tactic| kd_adr) => `(tactic| first
  | ((with_reducible show IT _ _ _ _); first
    | assumption
    | exact IT.new2
    | exact IT.new1
    | exact IT.new3
    | exact IT.new4
    | exact IT.flip (by assumption) (by mem_news)
    | exact IT.flip IT.new2 (by mem_news)
    | exact IT.flip IT.new3 (by mem_news)
    | exact IT.flip IT.new1 (by mem_news)
    | exact IT.flip IT.new4 (by mem_news))
  | ((with_reducible show ITs _ _ _ _); first
    | assumption
    | exact ITs.flip (by assumption) (by mem_news))
  | ((with_reducible show SqT _ _ _ _); first
    | assumption
    | exact SqT.lt upd_same
    | exact SqT.lt (by assumption)
    | exact IT.sq (by assumption)
    | exact SqT.flip (by assumption) (by mem_news)
    | exact SqT.flip (SqT.lt (by assumption)) (by mem_news)
    | exact SqT.flip (IT.sq (by assumption)) (by mem_news)
    | exact SqT.flip (SqT.lt upd_same) (by mem_news))
  | ((with_reducible show SqL _ _ _ _); first
    | assumption
    | exact SqL.lt upd_same
    | exact SqL.lt (by assumption)
    | exact SqL.flip (by assumption) (by nest_cls)
    | exact SqL.flip (SqL.lt (by assumption)) (by nest_cls)
    | exact SqL.flip (SqL.lt upd_same) (by nest_cls))
  | ((with_reducible show Parts _ _ _ _ _); first | assumption | exact Parts.flip (by assumption) (by mem_news))
  | ((with_reducible show MachAt _ _ _ _ _ _); first | assumption | exact MachAt.flip (by assumption) (by mem_news))
  | ((with_reducible show ShIs _ _ _ _ _); first | assumption | exact ShIs.flip (by assumption) (by mem_news))
  | ((with_reducible show RunIs _ _ _ _ _); first | assumption | exact RunIs.flip (by assumption) (by mem_news))
  | ((with_reducible show LTs _ _ _ _); first | assumption | exact LTs.flip (by assumption) (by nest_cls))
  | ((with_reducible show Pt.At _ _); kba_ints)
  | ((with_reducible show Same _ _); nest_cls)
  | ((with_reducible show Keep _ _); mem_news)
  | ((with_reducible show (_ : Hp) _ = some _); first
    | assumption
    | exact upd_same
    | exact At.flip (by assumption) (by nest_cls)
    | exact At.flip upd_same (by nest_cls)))
-- a side condition
local macro_rules | `(tactic| leaf_len) => `(tactic| first
  | (with_reducible rfl)
  | (with_reducible assumption)
  | kd_adr
  | omega
  | ((with_reducible show (_ : Nat) ≤ sizeLine); first | (show 1 ≤ sizeLine; decide) | (show 2 ≤ sizeLine; decide) | (show 3 ≤ sizeLine; decide) | (show 4 ≤ sizeLine; decide) | (show 5 ≤ sizeLine; decide) | (show 6 ≤ sizeLine; decide) | (show 7 ≤ sizeLine; decide) | (show 8 ≤ sizeLine; decide) | (show 0 ≤ sizeLine; decide))
  | exact rfl
  | ((with_reducible show _ ∨ _); first | exact Or.inl (by leaf_len) | exact Or.inr (by leaf_len))
  | exact List.cons_ne_nil _ _
  | exact mf_ev _ _
  | exact mf_st _ _
  | exact flat_ints _
  | ((with_reducible show tyV _ _ _ _); exact Or.inl ⟨rfl, _, by kd_adr⟩)
  | ((with_reducible show ClsV _ _); exact ClsV.ty _)
  | ((with_reducible show CDivW _ _); exact CDivW.of (by omega) (by omega))
  | (apply Exists.intro (α := List V); kd_adr)
  | assumption
  | ((with_reducible show small _); unfold small; omega)
  | ((with_reducible show CPow _ _); exact ⟨by decide, by decide, by decide⟩)
  | ((with_reducible show CMul _ _); first | exact CMul.l (by omega) (by omega) | exact CMul.r (by omega) (by omega))
  | ((with_reducible show CMulW _ _); exact CMulW.of (by omega) (by omega))
  | ((with_reducible show TyX _ _ _ _); first | exact TyX.base (.int _) | exact TyX.base (.str _) | exact TyX.base (.bl _) | exact tyT (by kd_adr) | exact TyX.base (.lst (by kd_adr)))
  | ((with_reducible show PySem.W.kitOne _ _ _ = some _); first | exact kit_ty (r := true) (by decide +kernel) | exact kit_ty (r := false) (by decide +kernel))
  | decide)
-- a step
local macro_rules | `(tactic| l_ints) => `(tactic| first
  | (intro (p : Addr) (hp : (_ : Hp) p = none))
  | (intro (H' : Hp) (s : Same _ H'))
  | (intro (p : Addr) (H' : Hp) (s : Same _ H'))
  | (intro (h : IT _ _ _ _))
  | (intro (h : SqT _ _ _ _))
  | (intro (h : (_ : Hp) _ = none))
  | (intro (h : (_ : Hp) _ = some _))
  | ((with_reducible show rCatA _ _ _ _ _); refine catJ (by kd_adr) (by kd_adr) (by leaf_len) ?_)
  | ((with_reducible show rSlA _ _ none (some _) _ _); refine slTake (by kd_adr) (by omega) ?_)
  | with_reducible refine tC_i ?_
  | with_reducible refine tNil_i ?_
  | with_reducible refine tCons_i ?_
  | with_reducible refine tCall_i ?_
  | with_reducible refine tOp_i ?_
  | ((with_reducible refine tVar_i ?_ ?_); · exact rfl)
  | with_reducible refine iteT ?_
  | with_reducible refine iteF ?_
  | (with_reducible refine iteNEq ?_ ?_; · assumption)
  | (with_reducible refine iteNb ?_ ?_; · assumption)
  | (with_reducible refine iteTb ?_ ?_; · assumption)
  | (with_reducible refine iteFb ?_ ?_; · assumption)
  | ((with_reducible refine iteFb ?_ ?_); · exact rfl)
  | ((with_reducible refine iteTb ?_ ?_); · exact rfl)
  | with_reducible refine iteST rfl ?_
  | with_reducible refine iteSF (by decide +kernel) ?_
  | (refine And.intro ?_ ?_; · leaf_len)
  | apply Exists.intro (α := V)
  | apply Exists.intro (α := Int)
  | apply Exists.intro (α := Addr)
  | apply Exists.intro (α := List V)
  | apply Exists.intro (α := Str)
  | apply Exists.intro (α := Nat)
  | apply Exists.intro (α := Bool)
  | apply Exists.intro (α := Value)
  | apply Exists.intro (α := List Int)
  | apply Exists.intro (α := List (List Int))
  | apply Exists.intro (α := List Bool)
  | apply Exists.intro (α := List (Str × V))
  | apply Exists.intro (α := Option (List (Option Int)))
  | apply Exists.intro (α := Option Int)
  | apply Exists.intro (α := Pt)
  | refine Or.inr ⟨_, rfl, ?_⟩
  | apply Or.inl)

section
variable {P : Program} {w : World} {K : PySem.W.Frag} {mg : Str → Option Value} {base : Heap} {A : Ad}
def spTold (K : PySem.W.Frag) (C : Addr) : Sp := fun vs H Q _ => ∃ (m x v : V) (q : Addr) (n a b : Int) (evs : List (List Int)) (run : List Int), vs = [m, .ref q, x, v] ∧ MachAt K C H m n evs ∧ Parts K H (.ref q) n evs ∧ ShIs K H x a b ∧ RunIs K H v evs run ∧ EvB evs ∧
  ∀ (H' : Hp), Same H H' → Q (.bl true) H'

theorem sc_law_told : FnScope ["machine", "parts", "share", "run", "numbers", "shown", "at", "due", "told", "way", "many"] ["machine", "parts", "share", "run"] (defScope s_law_told) := ⟨rfl, rfl, rfl, by decide +kernel, rfl, by decide +kernel, by decide +kernel⟩
theorem ok_law_told (T : Txt K mg A) : FnOk P w K mg base CX0 9 A.f_law_told A.d_law_told ["machine", "parts", "share", "run"] (spTold K A.C_Machine) := by
  refine T.F_law_told.ok sc_law_told (fun vs H Q E h => ?_) (fun cdv A1 outer s H vs Q E hr h => ?_)
  · obtain ⟨m, x, v, q, n, a, b, evs, run, rfl, _⟩ := h
    rfl
  · obtain ⟨m, x, v, q, n, a, b, evs, run, rfl, hM, hP, hx, hv, eb, k⟩ := h
    obtain ⟨vr, rfl, hvr⟩ := id hv.at_
    have hvI := hv.at_
    have hwk := hv.wk
    have hin := hv.inn
    have hl := hv.len
    have f4 := eb.f4
    have ebt := eb.t
    have eL : (run.map V.int).length = run.length := List.length_map _
    have enat : (((run.map V.int).length : Nat) : Int).toNat = run.length := by rw [eL]; omega
    refine ⟨_, (pss_cons (ps_set (i := 4) sc_law_told.nd rfl (Or.inr rfl) (pe_call (ok_law_numbers T) (hr.mono (by decide)) rfl T.m_law_numbers T.F_law_numbers.kp T.B_law_numbers .nil pass0 (pa_cons (pv 1) (pa_cons (pv 2) (pa_cons (pv 3) pa_nil)))))
      (pss_cons (ps_set (i := 5) sc_law_told.nd rfl (Or.inr rfl) (pe_call (ok_shares T) (hr.mono (by decide)) rfl T.m_shares T.F_shares.kp T.B_shares .nil pass0 (pa_cons (pv 0) (pa_cons (pv 3) pa_nil))))
      (pss_cons (ps_setLc (i := 7) (own := [("at", 6)]) rfl sc_law_told.nd rfl rfl (sw_true rfl rfl rfl (by decide +kernel)) (pi_range1 rfl T.z_range (pa_cons (pe_callB (call_lenK K rfl) (by rfl) T.z_len (by decide +kernel) (pa_cons (pv 3) pa_nil)) pa_nil)) (blkOk_by (N := ["machine", "parts", "share", "run", "numbers", "shown", "at", "due", "told", "way", "many"]) (sc := defScope s_law_told) (by decide +kernel)) (fun _ _ _ _ _ => by exact (pg_name (i := 6) sc_law_told.nd rfl (Or.inl rfl))) (fun _ _ _ _ _ => by exact (pts_one (pt_cmpR op_eq (pe_ix (ix_listK K rfl) (pv 4) (pe_op op_add (pv 6) pe_int) (fun _ _ => rfl)) pe_int (nomark _)))) (fun _ _ _ _ _ => by exact (pv 6)))
      (pss_cons (ps_set (i := 8) sc_law_told.nd rfl (Or.inl rfl) (pe_call (ok_meets T) (hr.mono (by decide)) rfl T.m_meets T.F_meets.kp T.B_meets .nil pass0 (pa_cons (pv 0) (pa_cons (pv 2) (pa_cons (pv 3) pa_nil)))))
      (pss_cons (ps_if (PW.pt (pw_or (pt_not (pt_val (pe_callB (call_isK K rfl) (by rfl) T.z_isinstance (by decide +kernel) (pa_cons (pv 8) (pa_cons (pe_bltn (v := .ty "list") (u := .type "list") rfl T.z_list (by decide +kernel) rfl) pa_nil))))) (pw_or (pt_cmpR (op_neDK K rfl (hu64 hr)) (pv 8) (pv 7) (nomark _)) (pw_or1 (pt_cmpR (op_neDK K rfl (hu64 hr)) (pv 7) (pe_lc (own := [("at", 6)]) rfl sc_law_told.nd (pi_range1 rfl T.z_range (pa_cons (pe_callB (call_lenK K rfl) (by rfl) T.z_len (by decide +kernel) (pa_cons (pv 3) pa_nil)) pa_nil)) (blkOk_by (N := ["machine", "parts", "share", "run", "numbers", "shown", "at", "due", "told", "way", "many"]) (sc := defScope s_law_told) (by decide +kernel)) (fun _ _ _ _ _ => by exact (pg_name (i := 6) sc_law_told.nd rfl (Or.inl rfl))) (fun _ _ _ _ _ => by exact (pts_one (pt_cmpR (op_eqDK K rfl (hu64 hr)) (pe_ix (ix_listK K rfl) (pv 5) (pv 6) (fun _ _ => rfl)) (pv 2) (nomark _)))) (fun _ _ _ _ _ => by exact (pv 6))) (nomark _)))))) (pss_one (ps_ret pe_bl)) pss_nil)
      (pss_cons (ps_expr (pe_bm PySem.F.plainAttrs_list PySem.F.slot_list_append PySem.F.type_list_append mt_append (pv 8) (pa_cons pe_int pa_nil)))
      (pss_cons (ps_if (pt_cmpR (op_neDK K rfl (hu64 hr)) (pe_call (ok_meets T) (hr.mono (by decide)) rfl T.m_meets T.F_meets.kp T.B_meets .nil pass0 (pa_cons (pv 0) (pa_cons (pv 2) (pa_cons (pv 3) pa_nil)))) (pv 7) (nomark _)) (pss_one (ps_ret pe_bl)) pss_nil)
      (pss_cons (ps_for PassesOwn.never rfl (pi_list (pe_lst (pa_cons pe_str (pa_cons pe_str pa_nil)))) (pg_name (i := 9) sc_law_told.nd rfl (Or.inr rfl))
        (pss_cons (ps_setLc (i := 7) (own := [("at", 6)]) rfl sc_law_told.nd rfl rfl (sw_true rfl rfl rfl (by decide +kernel)) (pi_range1 rfl T.z_range (pa_cons (pe_callB (call_lenK K rfl) (by rfl) T.z_len (by decide +kernel) (pa_cons (pv 3) pa_nil)) pa_nil)) (blkOk_by (N := ["machine", "parts", "share", "run", "numbers", "shown", "at", "due", "told", "way", "many"]) (sc := defScope s_law_told) (by decide +kernel)) (fun _ _ _ _ _ => by exact (pg_name (i := 6) sc_law_told.nd rfl (Or.inl rfl))) (fun _ _ _ _ _ => by exact (pts_one (pt_val (pe_call (ok_law_leapt T) (hr.mono (by decide)) rfl T.m_law_leapt T.F_law_leapt.kp T.B_law_leapt .nil pass0 (pa_cons (pe_ix (ix_listK K rfl) (pv 4) (pv 6) (fun _ _ => rfl)) (pa_cons (pe_ix (ix_listK K rfl) (pv 4) (pe_op op_add (pv 6) pe_int) (fun _ _ => rfl)) (pa_cons (pv 9) pa_nil))))))) (fun _ _ _ _ _ => by exact (pv 6)))
      (pss_cons (ps_set (i := 8) sc_law_told.nd rfl (Or.inl rfl) (pe_call (ok_leaps T) (hr.mono (by decide)) rfl T.m_leaps T.F_leaps.kp T.B_leaps .nil pass0 (pa_cons (pv 0) (pa_cons (pv 2) (pa_cons (pv 9) (pa_cons (pv 3) pa_nil))))))
      (pss_cons (ps_if (PW.pt (pw_or (pt_not (pt_val (pe_callB (call_isK K rfl) (by rfl) T.z_isinstance (by decide +kernel) (pa_cons (pv 8) (pa_cons (pe_bltn (v := .ty "list") (u := .type "list") rfl T.z_list (by decide +kernel) rfl) pa_nil))))) (pw_or1 (pt_cmpR (op_neDK K rfl (hu64 hr)) (pv 8) (pv 7) (nomark _))))) (pss_one (ps_ret pe_bl)) pss_nil)
      (pss_cons (ps_expr (pe_bm PySem.F.plainAttrs_list PySem.F.slot_list_append PySem.F.type_list_append mt_append (pv 8) (pa_cons pe_int pa_nil)))
      (pss_cons (ps_if (pt_cmpR (op_neDK K rfl (hu64 hr)) (pe_call (ok_leaps T) (hr.mono (by decide)) rfl T.m_leaps T.F_leaps.kp T.B_leaps .nil pass0 (pa_cons (pv 0) (pa_cons (pv 2) (pa_cons (pv 9) (pa_cons (pv 3) pa_nil))))) (pv 7) (nomark _)) (pss_one (ps_ret pe_bl)) pss_nil)
      (pss_one (ps_for PassesOwn.never rfl (pi_range1 rfl T.z_range (pa_cons (pe_op op_add (pe_callB (call_lenK K rfl) (by rfl) T.z_len (by decide +kernel) (pa_cons (pv 3) pa_nil)) pe_int) pa_nil)) (pg_name (i := 10) sc_law_told.nd rfl (Or.inl rfl))
        (pss_one (ps_if (pt_not (pt_val (pe_call (ok_law_is T) (hr.mono (by decide)) rfl T.m_law_is T.F_law_is.kp T.B_law_is .nil pass0 (pa_cons (pe_call (ok_is_leap T) (hr.mono (by decide)) rfl T.m_is_leap T.F_is_leap.kp T.B_is_leap .nil pass0 (pa_cons (pv 0) (pa_cons (pv 2) (pa_cons (pv 9) (pa_cons (pe_slice (sl_tupK K rfl) (pv 3) po_none (po_some (pv 10))) pa_nil))))) (pa_cons (pe_cmpR (op_inK K rfl) (pe_op op_sub (pv 10) pe_int) (pv 7) (by with_unfolding_all rfl)) pa_nil))))) (pss_one (ps_ret pe_bl)) pss_nil))))))))))
      (pss_one (ps_ret pe_bl)))))))))), ?_⟩
    repeat l_ints
    rename_i Dn H1 s1 hDn hLn Ds H2 s2 hDs
    rintro ⟨sx, hsx, sal⟩
    repeat l_ints
    rename_i Dd hDd
    rw [enat]
    refine lcFR (meAt evs a b run) (fun i => (i : Int)) hDd (Nat.lt_of_le_of_lt hl (by decide)) ?_ ?_
    · intro i H4 Q1 Q2 hi s4 h1 h2
      have t1 := nums_at (evs := evs) (a := a) (b := b) (run := run) (i := i + 1) (by omega)
      have a1 := at_ge (i := (0 + (i : Int) + 1)) (by omega) (by rw [show (0 + (i : Int) + 1).toNat = i + 1 by omega]; exact t1)
      have ez : (0 + (i : Int)) = (i : Int) := by omega
      repeat l_ints
      refine iteI (fun c => ?_) (fun c => ?_)
      · repeat l_ints
        rw [ez]
        exact h1 (decide_eq_true c)
      · repeat l_ints
        exact h2 (decide_eq_false c)
    · have eD : ((List.range run.length).filter (meAt evs a b run)).map (fun i : Nat => (i : Int)) = meL evs a b run := rfl
      rw [eD]
      repeat l_ints
      rename_i Dt H5 s5 hDt hLt
      refine neI (ns := meL evs a b run) (SqL.lt hLt) (by kd_adr) ?_
      repeat l_ints
      rename_i Dc hDc
      rw [enat]
      refine lcFR (meAt evs a b run) (fun i => (i : Int)) hDc (Nat.lt_of_le_of_lt hl (by decide)) ?_ ?_
      · intro i H6 Q1 Q2 hi s6 h1 h2
        have ez : (0 + (i : Int)) = (i : Int) := by omega
        obtain ⟨w1, hw1, hI1⟩ := sal.get (i := i) (b := shareOf [sumT evs (run.take (i + 1)), sumP evs (run.take (i + 1))]) (by unfold boardsTo; rw [List.getElem?_map, List.getElem?_map, range_at hi]; rfl)
        have a1 := at_ge (xs := sx) (i := (0 + (i : Int))) (by omega) (by rw [show (0 + (i : Int)).toNat = i by omega]; exact hw1)
        have hI6 : IT K H6 w1 [sumP evs (run.take (i + 1)) / gcdI (sumP evs (run.take (i + 1))) (sumT evs (run.take (i + 1))), sumT evs (run.take (i + 1)) / gcdI (sumP evs (run.take (i + 1))) (sumT evs (run.take (i + 1)))] := hI1.keep (by kd_adr)
        have hx6 : IT K H6 x [a, b] := hx.at_.keep (by kd_adr)
        have tp : 0 < sumT evs (run.take (i + 1)) := by
          have := (sumT_bd eb.t (hin.take (i + 1))).1
          rw [List.length_take] at this
          omega
        have le := low_eq (P := sumP evs (run.take (i + 1))) (a := a) (b := b) tp hx.pos hx.low
        have eM : meAt evs a b run i = decide ([sumP evs (run.take (i + 1)) / gcdI (sumP evs (run.take (i + 1))) (sumT evs (run.take (i + 1))), sumT evs (run.take (i + 1)) / gcdI (sumP evs (run.take (i + 1))) (sumT evs (run.take (i + 1)))] = [a, b]) := by
          unfold meAt valB
          exact decide_eq_decide.mpr le.symm
        repeat l_ints
        refine eqT2 hI6 hx6 ?_
        rw [← eM]
        repeat l_ints
        cases c : meAt evs a b run i with
        | true =>
          repeat l_ints
          rw [ez]
          exact h1 c
        | false =>
          repeat l_ints
          exact h2 c
      · rw [eD]
        repeat l_ints
        refine neI (ns := meL evs a b run) (by kd_adr) (by kd_adr) ?_
        have lenM : ((meL evs a b run).map V.int).length < sizeLine := by
          unfold meL
          rw [List.length_map, List.length_map]
          have q1 := List.length_filter_le (meAt evs a b run) (List.range run.length)
          rw [List.length_range] at q1
          exact Nat.lt_of_le_of_lt (Nat.le_trans q1 hl) (by decide)
        clear sal hsx
        repeat l_ints
        rename_i Dt2 H7 s7 hDt2 hLt2
        refine neI (ns := meL evs a b run) (by kd_adr) (by kd_adr) ?_
        repeat l_ints
        rename_i Lw hLw
        refine for_list (K := K) (a := Lw) (xs := [V.str "up", V.str "down"]) (fun i σ H' => Same H H' ∧ H' Dn = some (.lst (((List.range (run.length + 1)).map (valB evs a b run)).map V.int)) ∧ H' Lw = some (.lst [V.str "up", V.str "down"]) ∧ ∃ u6 u7 u8 u9 u10, σ = [some m, some (.ref q), some x, some (.ref vr), some (.ref Dn), some (.ref Ds), u6, u7, u8, u9, u10])
          ⟨by nest_cls, by kd_adr, by kd_adr, _, _, _, _, _, rfl⟩ (fun i σ H' _ z => SqL.lt z.2.2.1) ?_ ?_
        · rintro i y σ H8 hi ⟨s8, hDn8, hLw8, u6, u7, u8, u9, u10, rfl⟩
          obtain ⟨u, rfl⟩ : ∃ u, y = V.str (wy u) := by
            match i, hi with
            | 0, hi => cases hi; exact ⟨true, rfl⟩
            | 1, hi => cases hi; exact ⟨false, rfl⟩
          clear hLn hLt2 hLt s7 s5 s2 s1 hDt2 hDt hDs hDn hDd hDc hLw enat
          have enat : (((run.map V.int).length : Nat) : Int).toNat = run.length := by rw [eL]; omega
          repeat l_ints
          rename_i Dd2 hDd2
          rw [enat]
          refine lcFR (lpAt evs a b u run) (fun i => (i : Int)) hDd2 (Nat.lt_of_le_of_lt hl (by decide)) ?_ ?_
          · intro j H9 Q1 Q2 hj s9 h1 h2
            have t0 := nums_at (evs := evs) (a := a) (b := b) (run := run) (i := j) (by omega)
            have t1 := nums_at (evs := evs) (a := a) (b := b) (run := run) (i := j + 1) (by omega)
            have a0 := at_ge (i := (0 + (j : Int))) (by omega) (by rw [show (0 + (j : Int)).toNat = j by omega]; exact t0)
            have a1 := at_ge (i := (0 + (j : Int) + 1)) (by omega) (by rw [show (0 + (j : Int) + 1).toNat = j + 1 by omega]; exact t1)
            have ez : (0 + (j : Int)) = (j : Int) := by omega
            have hDn9 : H9 Dn = some (.lst (((List.range (run.length + 1)).map (valB evs a b run)).map V.int)) := by kd_adr
            repeat l_ints
            refine iteCB (c := lpAt evs a b u run j) (fun c => ?_) (fun c => ?_)
            · repeat l_ints
              rw [ez]
              exact h1 c
            · repeat l_ints
              exact h2 c
          · have eD2 : ((List.range run.length).filter (lpAt evs a b u run)).map (fun i : Nat => (i : Int)) = lpL evs a b u run := rfl
            rw [eD2]
            have lenM2 : ((lpL evs a b u run).map V.int).length < sizeLine := by
              unfold lpL
              rw [List.length_map, List.length_map]
              have q1 := List.length_filter_le (lpAt evs a b u run) (List.range run.length)
              rw [List.length_range] at q1
              exact Nat.lt_of_le_of_lt (Nat.le_trans q1 hl) (by decide)
            repeat l_ints
            rename_i Dt H9 s9 hDt hLt
            refine neI (ns := lpL evs a b u run) (SqL.lt hLt) (by kd_adr) ?_
            repeat l_ints
            rename_i Dt2 H10 s10 hDt2 hLt2
            refine neI (ns := lpL evs a b u run) (by kd_adr) (by kd_adr) ?_
            repeat l_ints
            refine for_range (lo := 0) (n := (((run.map V.int).length : Nat) + 1 : Int).toNat) (fun i σ H' => Same H H' ∧ H' Dn = some (.lst (((List.range (run.length + 1)).map (valB evs a b run)).map V.int)) ∧ H' Lw = some (.lst [V.str "up", V.str "down"]) ∧ H' Dd2 = some (.lst ((lpL evs a b u run).map V.int)) ∧ ∃ u10, σ = [some m, some (.ref q), some x, some (.ref vr), some (.ref Dn), some (.ref Ds), u6, some (.ref Dd2), some (.ref Dt), some (.str (wy u)), u10])
              ⟨by nest_cls, by kd_adr, by kd_adr, by kd_adr, _, rfl⟩ ?_ ?_
            · rintro i σ H11 hi ⟨s11, hDn11, hLw11, hDd11, u10, rfl⟩
              have hi : i ≤ run.length := by omega
              clear hLt hLt2 s9 s10 hDn8 hLw8 hDt hDt2 hDd2
              repeat l_ints
              rename_i v12 H12 s12 hI12
              have ez : (0 + (i : Int)).toNat = i := by omega
              rw [ez] at hI12
              have hRT := hv.take i hI12
              refine ⟨hRT, eb, fun H13 s13 => ?_⟩
              have e0 := lp_pre (evs := evs) (a := a) (b := b) (u := u) hi
              have eV : inV (.int ((0 + (i : Int)) - 1)) ((lpL evs a b u run).map V.int) = decide (((run.take i).length : Int) - 1 ∈ lpL evs a b u (run.take i)) := by
                rw [inV_ints, e0, show (0 + (i : Int)) - 1 = (i : Int) - 1 by omega]
              repeat l_ints
              refine ⟨?_, ?_⟩
              · show [V.bl _, V.bl (inV (.int ((0 + (i : Int)) - 1)) ((lpL evs a b u run).map V.int))] = _
                rw [eV]
              repeat l_ints
              exact ⟨_, rfl⟩
            · rintro σ H11 ⟨s11, hDn11, hLw11, hDd11, u10, rfl⟩
              repeat l_ints
              exact ⟨_, _, _, _, _, rfl⟩
        · rintro σ H8 ⟨s8, hDn8, hLw8, u6, u7, u8, u9, u10, rfl⟩
          repeat l_ints
          exact k H8 s8
end
end Myk56

namespace Myk56
open PySem L2 My EnT
-- Same from behind
local macro_rules | `(tactic| nest_cls) => `(tactic| first
  | exact Same.refl _
  | assumption
  | (refine Same.back (Same.new (by assumption)) ?_; nest_cls)
  | (refine Same.back (by assumption) ?_; nest_cls)
  | (refine Same.chg ?_ (by first | assumption | exact Free.flip (by assumption) (by nest_cls)); nest_cls))
-- Keep from behind
local macro_rules | `(tactic| mem_news) => `(tactic| first
  | exact Keep.refl _
  | assumption
  | (refine Keep.back (Keep.new (by assumption)) ?_; mem_news)
  | (refine Keep.back (Keep.lst (by assumption)) ?_; mem_news)
  | (refine Keep.back (Keep.lst (by kd_adr)) ?_; mem_news)
  | (refine Keep.back (Keep.of (by assumption)) ?_; mem_news)
  | (refine Keep.back (Keep.ofBut (by assumption) (by kba_ints)) ?_; mem_news)
  | (refine Keep.back (by assumption) ?_; mem_news))
-- the pot
local macro_rules | `(tactic| kba_ints) => `(tactic| first
  | assumption
  | (refine Pt.At.back (Same.new (by assumption)) ?_; kba_ints)
  | (refine Pt.At.back (by assumption) ?_; kba_ints)
  | exact Pt.At.flip (by assumption) (by nest_cls))
-- a fact of a heap, from behind
local macro_rules | `(tactic| kd_adr) => `(tactic| first
  | ((with_reducible show IT _ _ _ _); first
    | assumption
    | exact IT.new2
    | exact IT.new1
    | exact IT.new3
    | exact IT.new4
    | exact IT.flip (by assumption) (by mem_news)
    | exact IT.flip IT.new2 (by mem_news)
    | exact IT.flip IT.new3 (by mem_news)
    | exact IT.flip IT.new1 (by mem_news)
    | exact IT.flip IT.new4 (by mem_news))
  | ((with_reducible show ITs _ _ _ _); first
    | assumption
    | exact ITs.flip (by assumption) (by mem_news))
  | ((with_reducible show SqT _ _ _ _); first
    | assumption
    | exact SqT.lt upd_same
    | exact SqT.lt (by assumption)
    | exact IT.sq (by assumption)
    | exact SqT.flip (by assumption) (by mem_news)
    | exact SqT.flip (SqT.lt (by assumption)) (by mem_news)
    | exact SqT.flip (IT.sq (by assumption)) (by mem_news)
    | exact SqT.flip (SqT.lt upd_same) (by mem_news))
  | ((with_reducible show SqL _ _ _ _); first
    | assumption
    | exact SqL.lt upd_same
    | exact SqL.lt (by assumption)
    | exact SqL.flip (by assumption) (by nest_cls)
    | exact SqL.flip (SqL.lt (by assumption)) (by nest_cls)
    | exact SqL.flip (SqL.lt upd_same) (by nest_cls))
  | ((with_reducible show Parts _ _ _ _ _); first | assumption | exact Parts.flip (by assumption) (by mem_news))
  | ((with_reducible show MachAt _ _ _ _ _ _); first | assumption | exact MachAt.flip (by assumption) (by mem_news))
  | ((with_reducible show ShIs _ _ _ _ _); first | assumption | exact ShIs.flip (by assumption) (by mem_news))
  | ((with_reducible show RunIs _ _ _ _ _); first | assumption | exact RunIs.flip (by assumption) (by mem_news))
  | ((with_reducible show LTs _ _ _ _); first | assumption | exact LTs.flip (by assumption) (by nest_cls))
  | ((with_reducible show Pt.At _ _); kba_ints)
  | ((with_reducible show Same _ _); nest_cls)
  | ((with_reducible show Keep _ _); mem_news)
  | ((with_reducible show (_ : Hp) _ = some _); first
    | assumption
    | exact upd_same
    | exact At.flip (by assumption) (by nest_cls)
    | exact At.flip upd_same (by nest_cls)))
-- a side condition
local macro_rules | `(tactic| leaf_len) => `(tactic| first
  | (with_reducible rfl)
  | (with_reducible assumption)
  | kd_adr
  | omega
  | ((with_reducible show (_ : Nat) ≤ sizeLine); first | (show 1 ≤ sizeLine; decide) | (show 2 ≤ sizeLine; decide) | (show 3 ≤ sizeLine; decide) | (show 4 ≤ sizeLine; decide) | (show 5 ≤ sizeLine; decide) | (show 6 ≤ sizeLine; decide) | (show 7 ≤ sizeLine; decide) | (show 8 ≤ sizeLine; decide) | (show 0 ≤ sizeLine; decide))
  | exact rfl
  | ((with_reducible show _ ∨ _); first | exact Or.inl (by leaf_len) | exact Or.inr (by leaf_len))
  | exact List.cons_ne_nil _ _
  | exact mf_ev _ _
  | exact mf_st _ _
  | exact flat_ints _
  | ((with_reducible show tyV _ _ _ _); exact Or.inl ⟨rfl, _, by kd_adr⟩)
  | ((with_reducible show ClsV _ _); exact ClsV.ty _)
  | ((with_reducible show CDivW _ _); exact CDivW.of (by omega) (by omega))
  | (apply Exists.intro (α := List V); kd_adr)
  | assumption
  | ((with_reducible show small _); unfold small; omega)
  | ((with_reducible show CPow _ _); exact ⟨by decide, by decide, by decide⟩)
  | ((with_reducible show CMul _ _); first | exact CMul.l (by omega) (by omega) | exact CMul.r (by omega) (by omega))
  | ((with_reducible show CMulW _ _); exact CMulW.of (by omega) (by omega))
  | ((with_reducible show TyX _ _ _ _); first | exact TyX.base (.int _) | exact TyX.base (.str _) | exact TyX.base (.bl _) | exact tyT (by kd_adr) | exact TyX.base (.lst (by kd_adr)))
  | ((with_reducible show PySem.W.kitOne _ _ _ = some _); first | exact kit_ty (r := true) (by decide +kernel) | exact kit_ty (r := false) (by decide +kernel))
  | decide)
-- a step
local macro_rules | `(tactic| l_ints) => `(tactic| first
  | (intro (p : Addr) (hp : (_ : Hp) p = none))
  | (intro (H' : Hp) (s : Same _ H'))
  | (intro (p : Addr) (H' : Hp) (s : Same _ H'))
  | (intro (h : IT _ _ _ _))
  | (intro (h : SqT _ _ _ _))
  | (intro (h : (_ : Hp) _ = none))
  | (intro (h : (_ : Hp) _ = some _))
  | ((with_reducible show rCatA _ _ _ _ _); refine catJ (by kd_adr) (by kd_adr) (by leaf_len) ?_)
  | ((with_reducible show rSlA _ _ none (some _) _ _); refine slTake (by kd_adr) (by omega) ?_)
  | with_reducible refine tC_i ?_
  | with_reducible refine tNil_i ?_
  | with_reducible refine tCons_i ?_
  | with_reducible refine tCall_i ?_
  | with_reducible refine tOp_i ?_
  | ((with_reducible refine tVar_i ?_ ?_); · exact rfl)
  | with_reducible refine iteT ?_
  | with_reducible refine iteF ?_
  | (with_reducible refine iteNEq ?_ ?_; · assumption)
  | (with_reducible refine iteNb ?_ ?_; · assumption)
  | (with_reducible refine iteTb ?_ ?_; · assumption)
  | (with_reducible refine iteFb ?_ ?_; · assumption)
  | ((with_reducible refine iteFb ?_ ?_); · exact rfl)
  | ((with_reducible refine iteTb ?_ ?_); · exact rfl)
  | with_reducible refine iteST rfl ?_
  | with_reducible refine iteSF (by decide +kernel) ?_
  | (refine And.intro ?_ ?_; · leaf_len)
  | apply Exists.intro (α := V)
  | apply Exists.intro (α := Int)
  | apply Exists.intro (α := Addr)
  | apply Exists.intro (α := List V)
  | apply Exists.intro (α := Str)
  | apply Exists.intro (α := Nat)
  | apply Exists.intro (α := Bool)
  | apply Exists.intro (α := Value)
  | apply Exists.intro (α := List Int)
  | apply Exists.intro (α := List (List Int))
  | apply Exists.intro (α := List Bool)
  | apply Exists.intro (α := List (Str × V))
  | apply Exists.intro (α := Option (List (Option Int)))
  | apply Exists.intro (α := Option Int)
  | apply Exists.intro (α := Pt)
  | refine Or.inr ⟨_, rfl, ?_⟩
  | apply Or.inl)

section
variable {P : Program} {w : World} {K : PySem.W.Frag} {mg : Str → Option Value} {base : Heap} {A : Ad}
theorem made_ok {C x dx : Addr} {n : Int} {w : V} {evs : List (List Int)} {H1 : Hp} {Q : Hp → Prop} {E : XK} (hx : H1 x = none) (hd : H1 dx = none) (n0 : 1 ≤ n) (n1 : n ≤ 12) (hw : ITs K H1 w evs) (l30 : evs.length ≤ 30) (ok : ∀ e ∈ evs, okEv n e)
    (k : ∀ H2, Same H1 H2 → MachAt K C H2 (.ref x) n evs → Q H2) : spInitR K C [.ref x, .int n, w] (upd (upd H1 dx (.own x)) x (.ins C dx [])) (fun v H2 => v = .non ∧ Q H2) E := by
  have s1 : Same H1 (upd (upd H1 dx (.own x)) x (.ins C dx [])) := Same.chg (Same.new hd) hx
  refine ⟨x, dx, n, w, evs, rfl, upd_same, n0, n1, hw.keep (Keep.of s1), l30, ok, fun H' hm hk => ⟨rfl, ?_⟩⟩
  have s2 : Same H1 H' := fun b o e => hk b o (ne_of_none e hx) (s1 b o e)
  exact k H' s2 ⟨x, dx, w, rfl, hm, hw.keep (Keep.of s2)⟩

def spAnyL (K : PySem.W.Frag) : Sp := fun vs H Q _ => ∃ (p : Pt) (q : Addr) (xs : List V), vs = [.ref p.a, .ref q] ∧ p.At H ∧ H q = some (.lst xs) ∧ q ∉ p.l ∧ xs ≠ [] ∧ xs.length ≤ 1000 ∧ ∀ (x : V) (H' : Hp), x ∈ xs → p.At H' → But p.l H H' → Q x H'

theorem sc_law_any : FnScope ["pot", "items"] ["pot", "items"] (defScope s_law_any) := ⟨rfl, rfl, rfl, by decide +kernel, rfl, by decide +kernel, by decide +kernel⟩
theorem ok_law_any (T : Txt K mg A) : FnOk P w K mg base CX0 2 A.f_law_any A.d_law_any ["pot", "items"] (spAnyL K) := by
  refine T.F_law_any.ok sc_law_any (fun vs H Q E h => ?_) (fun cdv A1 outer s H vs Q E hr h => ?_)
  · obtain ⟨p, q, xs, rfl, _⟩ := h
    rfl
  · obtain ⟨p, q, xs, rfl, hp, hv, hq, hne, hl, k⟩ := h
    have l0 : 0 < xs.length := List.length_pos_iff.mpr hne
    refine ⟨_, (pss_one (ps_ret (pe_ix (ix_listK K rfl) (pv 1) (pe_call (ok_law_draw T) (hr.mono (by decide)) rfl T.m_law_draw T.F_law_draw.kp T.B_law_draw .nil pass0 (pa_cons (pv 0) (pa_cons (pe_callB (call_lenK K rfl) (by rfl) T.z_len (by decide +kernel) (pa_cons (pv 1) pa_nil)) pa_nil))) (fun _ _ => rfl)))), ?_⟩
    repeat l_ints
    intro r H' r0 r1 hp' b
    have hr : r.toNat < xs.length := by omega
    have hq' := b _ _ hq hv
    have a1 := at_ge r0 (List.getElem?_eq_getElem hr)
    repeat l_ints
    exact k _ _ (List.getElem_mem hr) hp' b
theorem walkO_bad {evs : List (List Int)} {k : Int} : ∀ (r : List Int) (s : Int), ¬ (0 ≤ k ∧ k < (evs.length : Int)) → walkO evs s (r.map some ++ [some k]) = false
  | [], s, h => if_neg fun z => h ⟨z.1, z.2.1⟩
  | x :: r, s, h => by
    show (if _ then walkO evs _ (r.map some ++ [some k]) else false) = false
    rw [walkO_bad r _ h]
    split <;> rfl

theorem sc_law : FnScope ["script", "pot", "turn", "parts", "one", "two", "tries", "points", "some", "machine", "run", "share", "wrong"] ["script"] (defScope s_law) := ⟨rfl, rfl, rfl, by decide +kernel, rfl, by decide +kernel, by decide +kernel⟩
theorem ok_law (T : Txt K mg A) : FnOk P w K mg base CX0 10 A.f_law A.d_law ["script"] (spLaw K) := by
  refine T.F_law.ok sc_law (fun vs H Q E h => ?_) (fun cdv A1 outer s H vs Q E hr h => ?_)
  · obtain ⟨a, ns, rfl, _⟩ := h
    rfl
  · obtain ⟨a, ns, rfl, hS, hlen, k⟩ := h
    refine ⟨_, (pss_cons (ps_set (i := 1) sc_law.nd rfl (Or.inl rfl) (pe_call (ok_law_pot T) (hr.mono (by decide)) rfl T.m_law_pot T.F_law_pot.kp T.B_law_pot .nil pass0 (pa_cons (pv 0) pa_nil)))
      (pss_cons (ps_for PassesOwn.never rfl (pi_range1 rfl T.z_range (pa_cons pe_int pa_nil)) (pg_name (i := 2) sc_law.nd rfl (Or.inl rfl))
        (pss_cons (ps_set (i := 3) sc_law.nd rfl (Or.inl rfl) (pe_call (ok_law_parts T) (hr.mono (by decide)) rfl T.m_law_parts T.F_law_parts.kp T.B_law_parts .nil pass0 (pa_cons (pv 1) (pa_cons pe_int (pa_cons pe_int pa_nil)))))
      (Evl.pss_cut (ps_if (pt_cmpR op_eq (pe_call (ok_law_draw T) (hr.mono (by decide)) rfl T.m_law_draw T.F_law_draw.kp T.B_law_draw .nil pass0 (pa_cons (pv 1) (pa_cons pe_int pa_nil))) pe_int (nomark _)) (pss_cons (ps_setLc (i := 8) (own := [("one", 4), ("two", 5), ("tries", 6), ("points", 7)]) rfl sc_law.nd rfl rfl (sw_true rfl rfl rfl (by decide +kernel)) (pi_tup (pe_ix (ix_tupK K rfl) (pv 3) pe_int (fun _ _ => rfl))) (blkOk_by (N := ["script", "pot", "turn", "parts", "one", "two", "tries", "points", "some", "machine", "run", "share", "wrong"]) (sc := defScope s_law) (by decide +kernel)) (fun _ _ _ _ _ => by exact (pg_tupK K rfl 4 rfl (pgs_cons (pg_name (i := 4) sc_law.nd rfl (Or.inl rfl)) (pgs_cons (pg_name (i := 5) sc_law.nd rfl (Or.inl rfl)) (pgs_cons (pg_name (i := 6) sc_law.nd rfl (Or.inl rfl)) (pgs_cons (pg_name (i := 7) sc_law.nd rfl (Or.inl rfl)) pgs_nil)))) rfl rfl)) (fun _ _ _ _ _ => by exact pts_nil) (fun _ _ _ _ _ => by exact (pe_tup (pa_cons (pv 4) (pa_cons (pv 5) (pa_cons (pv 6) (pa_cons (pe_op op_mul (pv 7) pe_int) pa_nil)))))))
      (pss_one (ps_set (i := 3) sc_law.nd rfl (Or.inl rfl) (pe_tup (pa_cons (pe_ix (ix_tupK K rfl) (pv 3) pe_int (fun _ _ => rfl)) (pa_cons (pe_callTy (call_tupleK K rfl) (by rfl) T.z_tuple (by decide +kernel) (pa_cons (pv 8) pa_nil)) pa_nil)))))) pss_nil)
      (pss_cons (ps_set (i := 9) sc_law.nd rfl (Or.inl rfl) (pe_make T.mk_Machine (ok_Machine___init__ T) (hr.mono (by decide)) rfl T.m_Machine T.B_Machine___init__ .nil pass0 (pa_cons (pe_ix (ix_tupK K rfl) (pv 3) pe_int (fun _ _ => rfl)) (pa_cons (pe_ix (ix_tupK K rfl) (pv 3) pe_int (fun _ _ => rfl)) pa_nil))))
      (pss_cons (ps_set (i := 10) sc_law.nd rfl (Or.inl rfl) (pe_call (ok_law_walk T) (hr.mono (by decide)) rfl T.m_law_walk T.F_law_walk.kp T.B_law_walk .nil pass0 (pa_cons (pv 1) (pa_cons (pv 3) (pa_cons (pe_ifExp (pt_cmpR op_eq (pe_call (ok_law_draw T) (hr.mono (by decide)) rfl T.m_law_draw T.F_law_draw.kp T.B_law_draw .nil pass0 (pa_cons (pv 1) (pa_cons pe_int pa_nil))) pe_int (nomark _)) pe_int pe_int) pa_nil)))))
      (pss_cons (ps_set (i := 11) sc_law.nd rfl (Or.inl rfl) (pe_call (ok_law_share T) (hr.mono (by decide)) rfl T.m_law_share T.F_law_share.kp T.B_law_share .nil pass0 (pa_cons (pv 1) (pa_cons pe_int pa_nil))))
      (Evl.pss_cut (ps_if (PW.pt (pw_and (pt_cmpR op_gt (pe_callB (call_lenK K rfl) (by rfl) T.z_len (by decide +kernel) (pa_cons (pv 10) pa_nil)) pe_int (nomark _)) (pw_and1 (pt_cmpR op_eq (pe_call (ok_law_draw T) (hr.mono (by decide)) rfl T.m_law_draw T.F_law_draw.kp T.B_law_draw .nil pass0 (pa_cons (pv 1) (pa_cons pe_int pa_nil))) pe_int (nomark _))))) (pss_one (ps_set (i := 11) sc_law.nd rfl (Or.inl rfl) (pe_ix (ix_listK K rfl) (pe_call (ok_shares T) (hr.mono (by decide)) rfl T.m_shares T.F_shares.kp T.B_shares .nil pass0 (pa_cons (pv 9) (pa_cons (pv 10) pa_nil))) (pe_call (ok_law_draw T) (hr.mono (by decide)) rfl T.m_law_draw T.F_law_draw.kp T.B_law_draw .nil pass0 (pa_cons (pv 1) (pa_cons (pe_callB (call_lenK K rfl) (by rfl) T.z_len (by decide +kernel) (pa_cons (pv 10) pa_nil)) pa_nil))) (fun _ _ => rfl)))) pss_nil)
      (pss_cons (ps_if (pt_not (pt_val (pe_call (ok_law_told T) (hr.mono (by decide)) rfl T.m_law_told T.F_law_told.kp T.B_law_told .nil pass0 (pa_cons (pv 9) (pa_cons (pv 3) (pa_cons (pv 11) (pa_cons (pv 10) pa_nil))))))) (pss_one (ps_ret pe_bl)) pss_nil)
      (pss_cons (ps_set (i := 12) sc_law.nd rfl (Or.inl rfl) (pe_call (ok_law_any T) (hr.mono (by decide)) rfl T.m_law_any T.F_law_any.kp T.B_law_any .nil pass0 (pa_cons (pv 1) (pa_cons (pe_lst (pa_cons pe_non (pa_cons (pe_callTy (call_listK K rfl) (by rfl) T.z_list (by decide +kernel) (pa_cons (pv 10) pa_nil)) (pa_cons (pe_op (op_catTK K rfl) (pv 10) (pe_tup (pa_cons (pe_callB (call_lenK K rfl) (by rfl) T.z_len (by decide +kernel) (pa_cons (pe_ix (ix_tupK K rfl) (pv 3) pe_int (fun _ _ => rfl)) pa_nil)) pa_nil))) (pa_cons (pe_op (op_catTK K rfl) (pv 10) (pe_tup (pa_cons (pe_un un_neg pe_int) pa_nil))) (pa_cons (pe_tup (pa_cons pe_bl pa_nil)) (pa_cons pe_str (pa_cons pe_int (pa_cons (pe_tup (pa_cons pe_non pa_nil)) pa_nil))))))))) pa_nil))))
      (pss_one (ps_if (PW.pt (pw_or (pt_cmpR op_notBl (pe_call (okO_is_leap T) (hr.mono (by decide)) rfl T.m_is_leap T.F_is_leap.kp T.B_is_leap .nil pass0 (pa_cons (pv 9) (pa_cons (pv 11) (pa_cons pe_str (pa_cons (pv 12) pa_nil))))) pe_bl (by with_unfolding_all rfl)) (pw_or1 (pt_cmpR op_notBl (pe_call (okO_is_leap T) (hr.mono (by decide)) rfl T.m_is_leap T.F_is_leap.kp T.B_is_leap .nil pass0 (pa_cons (pv 9) (pa_cons (pv 11) (pa_cons pe_str (pa_cons (pv 12) pa_nil))))) pe_bl (by with_unfolding_all rfl))))) (pss_one (ps_ret pe_bl)) pss_nil)))))))))))
      (pss_one (ps_ret pe_bl)))), ?_⟩
    repeat l_ints
    intro p H1 hp1 s1 _
    repeat l_ints
    refine for_range (lo := 0) (n := 3) (fun i σ H => p.At H ∧ ∃ u2 u3 u4 u5 u6 u7 u8 u9 u10 u11 u12, σ = [some (.ref a), some (.ref p.a), u2, u3, u4, u5, u6, u7, u8, u9, u10, u11, u12]) ⟨hp1, _, _, _, _, _, _, _, _, _, _, _, rfl⟩ ?_ ?_
    · rintro i σ H2 hi ⟨hp2, u2, u3, u4, u5, u6, u7, u8, u9, u10, u11, u12, rfl⟩
      repeat l_ints
      intro q H3 n evs hp3 b3 hP n0 n4 l0 l6 all
      repeat l_ints
      refine ⟨fun σ H => Wr (∃ q n evs u2 u4 u5 u6 u7 u8, σ = [some (.ref a), some (.ref p.a), u2, some (.ref q), u4, u5, u6, u7, u8, u9, u10, u11, u12] ∧ p.At H ∧ Parts K H (.ref q) n evs ∧ 1 ≤ n ∧ n ≤ 4 ∧ evs.length ≤ 6 ∧ ∀ e ∈ evs, okEv n e), ?_, ?_⟩
      · repeat l_ints
        intro r H4 r0 r1 hp4 b4
        have hP4 : Parts K H4 (.ref q) n evs := by kd_adr
        repeat l_ints
        refine iteI (fun c => ?_) (fun c => ?_)
        · obtain ⟨_, pw, xs, e, hpq, hpw, al⟩ := hP4.open
          cases e
          repeat l_ints
          rename_i D hD
          refine lcGT (K := K) (a := pw) (xs := xs) (bs := evs.map fun e => [evB e, evA e, evT e, evP e * 100]) (R := fun H v b => IT K H v b) (by kd_adr) hD ?_ ?_ (fun _ _ _ _ kp z => z.keep kp) ?_ ?_
          · rw [List.length_map]
            exact Nat.lt_of_le_of_lt (show evs.length ≤ 6 by omega) (by decide)
          · rw [List.length_map, al.len]
          · intro j y bb H5 Q1 Q2 hj hb s5 hq
            obtain ⟨e, he, hI⟩ := al.getL hj
            rw [List.getElem?_map, he] at hb
            have hb' : [evB e, evA e, evT e, evP e * 100] = bb := Option.some.inj hb
            subst hb'
            obtain ⟨b0, a0, t0, p0, rfl, _⟩ := (all e (List.mem_of_getElem? he)).ok
            have hI2 := hI.keep (Keep.of s5)
            obtain ⟨r, rfl, hr⟩ := id hI2
            repeat l_ints
            exact hq _ _ (by nest_cls) IT.new4
          · intro H5 acc s5 hA al5
            repeat l_ints
            rename_i pt hpt pq hpq2
            have st := (Same.new (o := .tup acc) hpt).trans (Same.new (o := .tup [V.int n, V.ref pt]) hpq2)
            have hp6 : p.At (upd (upd H5 pt (.tup acc)) pq (.tup [V.int n, V.ref pt])) := by kd_adr
            refine ⟨⟨pq, n, evs.map fun e => [evB e, evA e, evT e, evP e * 100], _, _, _, _, _, _, rfl, hp6, ⟨pq, .ref pt, rfl, SqT.lt upd_same, pt, acc, rfl, by kd_adr, al5.imp fun _ _ z => z.keep (Keep.of st)⟩, n0, n4, by rw [List.length_map]; omega, fun e he => ?_⟩⟩
            obtain ⟨e0, h0, rfl⟩ := List.mem_map.mp he
            obtain ⟨b0, a0, t0, p0, rfl, z1, z2, z3, z4, z5, z6, z7, z8⟩ := all e0 h0
            exact ⟨b0, a0, t0, p0 * 100, rfl, z1, z2, z3, z4, z5, by omega, by omega, by omega⟩
        · repeat l_ints
          exact ⟨⟨_, _, _, _, _, _, _, _, _, rfl, hp4, hP4, n0, n4, by omega, fun e he => (all e he).ok⟩⟩
      · rintro σ H4 ⟨q, n, evs, u2, u4, u5, u6, u7, u8, rfl, hp4, hP4, n0, n4, l6, ok⟩
        obtain ⟨_, pw, xs, e, hpq, hpw, al⟩ := hP4.open
        cases e
        have f4 : ∀ e ∈ evs, Four e := fun e he => (ok e he).four
        repeat l_ints
        intro x dx nx ndx nex
        refine made_ok nx ndx n0 (by omega) ⟨pw, xs, rfl, hpw, al⟩ (by omega) ok fun H5 s5 hM => ?_
        have hP5 : Parts K H5 (.ref q) n evs := by kd_adr
        have hp5 : p.At H5 := by kd_adr
        clear hpq hpw al hP4 hp4 s5 nx ndx nex
        repeat l_ints
        intro r H6 r0 r1 hp6 b6
        have hM6 : MachAt K A.C_Machine H6 (.ref x) n evs := by kd_adr
        have hP6 : Parts K H6 (.ref q) n evs := by kd_adr
        clear hM hP5 hp5 b6
        repeat l_ints
        refine iteTC fun m hm => ?_
        obtain ⟨m, rfl, m0, m1⟩ : ∃ m' : Int, m = .int m' ∧ 0 ≤ m' ∧ m' ≤ 100 := by
          rcases hm with rfl | rfl
          · exact ⟨100, rfl, by decide, by decide⟩
          · exact ⟨15, rfl, by decide, by decide⟩
        repeat l_ints
        intro rq H7 run hp7 b7 hrun hwk hin hl
        have hM7 : MachAt K A.C_Machine H7 (.ref x) n evs := by kd_adr
        have hP7 : Parts K H7 (.ref q) n evs := by kd_adr
        clear hM6 hP6 hp6 b7
        repeat l_ints
        intro sq H8 sa sb hp8 b8 hsh hb0 hb6 hg
        have hM8 : MachAt K A.C_Machine H8 (.ref x) n evs := by kd_adr
        have hP8 : Parts K H8 (.ref q) n evs := by kd_adr
        have hrun8 : RunIs K H8 (.ref rq) evs run := ⟨by kd_adr, hwk, hin, by omega⟩
        have hsh8 : ShIs K H8 (.ref sq) sa sb := ⟨hsh, hb0, hg⟩
        have hl8 : run.length ≤ 100 := by omega
        have eb : EvB evs := ⟨f4, fun e he => okEv.bT (ok e he), fun e he => by have := okEv.bP (ok e he); omega⟩
        clear hM7 hP7 hp7 b8 hrun hsh hm hl
        repeat l_ints
        refine ⟨fun σ H => Wr (∃ sq sa sb u2 u4 u5 u6 u7 u8, σ = [some (.ref a), some (.ref p.a), u2, some (.ref q), u4, u5, u6, u7, u8, some (.ref x), some (.ref rq), some (.ref sq), u12] ∧ p.At H ∧ MachAt K A.C_Machine H (.ref x) n evs ∧ Parts K H (.ref q) n evs ∧ RunIs K H (.ref rq) evs run ∧ ShIs K H (.ref sq) sa sb), ?_, ?_⟩
        · have eL : (run.map V.int).length = run.length := List.length_map _
          have hI8 := hrun8.at_
          obtain ⟨_, e, hrq⟩ := id hI8
          cases e
          repeat l_ints
          refine iteD (fun c => ?_) (fun c => ?_)
          · repeat l_ints
            intro r9 H9 r90 r91 hp9 b9
            have hM9 : MachAt K A.C_Machine H9 (.ref x) n evs := by kd_adr
            have hP9 : Parts K H9 (.ref q) n evs := by kd_adr
            have hrun9 : RunIs K H9 (.ref rq) evs run := by kd_adr
            have hsh9 : ShIs K H9 (.ref sq) sa sb := by kd_adr
            have hI9 := hrun9.at_
            have hwk9 := hwk
            have tb := eb.t
            clear hM8 hP8 hrun8 hsh8 hI8 hp8 b9
            repeat l_ints
            refine iteI (fun c2 => ?_) (fun c2 => ?_)
            · repeat l_ints
              rename_i Ds Hs ss hDs
              rintro ⟨sx, hsx, sal⟩
              obtain ⟨_, e, hrq9⟩ := id hI9
              cases e
              have eR : 0 < run.length := by have := hrun9.len; omega
              repeat l_ints
              intro r H10 r0 r1 hp10 b10
              have nD : Ds ∉ p.l := Pt.out (hp9.fresh hDs)
              have hsx10 : H10 Ds = some (.lst sx) := b10 _ _ nD hsx
              have hr : r.toNat < run.length := by rw [List.length_map] at r1; omega
              have sl := sal.len
              rw [List.length_map] at sl
              unfold boardsTo at sl
              rw [List.length_map, List.length_range] at sl
              obtain ⟨w1, hw1, hI1⟩ := sal.get (i := r.toNat) (b := shareOf [sumT evs (run.take (r.toNat + 1)), sumP evs (run.take (r.toNat + 1))]) (by unfold boardsTo; rw [List.getElem?_map, List.getElem?_map, range_at hr]; rfl)
              have a1 := at_ge r0 hw1
              have tp : 0 < sumT evs (run.take (r.toNat + 1)) := by
                have := (sumT_bd eb.t (hin.take (r.toNat + 1))).1
                rw [List.length_take] at this
                omega
              obtain ⟨l1, l2, l3⟩ := low_one (p := sumP evs (run.take (r.toNat + 1))) tp
              obtain ⟨w2, rfl, hw2⟩ := id hI1
              have hI10 : IT K H10 (.ref w2) (shareOf [sumT evs (run.take (r.toNat + 1)), sumP evs (run.take (r.toNat + 1))]) := by kd_adr
              have hM10 : MachAt K A.C_Machine H10 (.ref x) n evs := by kd_adr
              have hP10 : Parts K H10 (.ref q) n evs := by kd_adr
              have hrun10 : RunIs K H10 (.ref rq) evs run := by kd_adr
              clear sal hsx
              repeat l_ints
              exact ⟨⟨_, _, _, _, _, _, _, _, _, rfl, hp10, hM10, hP10, hrun10, ⟨hI10, l2, l1⟩⟩⟩
            · repeat l_ints
              exact ⟨⟨_, _, _, _, _, _, _, _, _, rfl, hp9, hM9, hP9, hrun9, hsh9⟩⟩
          · repeat l_ints
            exact ⟨⟨_, _, _, _, _, _, _, _, _, rfl, hp8, hM8, hP8, hrun8, hsh8⟩⟩
        · rintro σ H9 ⟨sq, sa, sb, u2, u4, u5, u6, u7, u8, rfl, hp9, hM9, hP9, hrun9, hsh9⟩
          have hI9 := hrun9.at_
          obtain ⟨_, e, hrq9⟩ := id hI9
          cases e
          obtain ⟨_, pw, xs, e, hpq, hpw, al⟩ := hP9.open
          cases e
          have hcl : (run.map V.int).length + 1 ≤ sizeLine := by rw [List.length_map]; exact Nat.le_trans (show run.length + 1 ≤ 2000 by have := hrun9.len; omega) (by decide)
          repeat l_ints
          rename_i L hL tA htA cA HA sA hcA tB htB cB HB sB hcB tT htT tN htN LL hLL
          refine ⟨Pt.out (Pt.At.fresh (p := p) (by kd_adr) hLL), List.cons_ne_nil _ _, (by show 8 ≤ 1000; decide), fun wv H11 hmem hp11 b11 => ?_⟩
          have hLx : H9 L = none := Free.flip hL (by nest_cls)
          have fL := Pt.out (hp9.fresh hLx)
          have hL11 : H11 L = some (.lst (run.map V.int)) := b11 _ _ fL (by kd_adr)
          have hcA11 : SqT K H11 cA (run.map V.int ++ [V.int xs.length]) := by kd_adr
          have hcB11 : SqT K H11 cB (run.map V.int ++ [V.int (-1)]) := by kd_adr
          have htT11 : SqT K H11 tT [V.bl true] := by kd_adr
          have htN11 : SqT K H11 tN [V.non] := by kd_adr
          have hM11 : MachAt K A.C_Machine H11 (.ref x) n evs := by kd_adr
          have hsh11 : ShIs K H11 (.ref sq) sa sb := by kd_adr
          have la := al.len
          obtain ⟨o, hT, hO⟩ : ∃ o, Thg K H11 wv o ∧ runO evs o = false := by
            have hmem : wv = .non ∨ wv = .ref L ∨ wv = .ref cA ∨ wv = .ref cB ∨ wv = .ref tT ∨ wv = .str "" ∨ wv = .int 0 ∨ wv = .ref tN := by simpa using hmem
            rcases hmem with rfl | rfl | rfl | rfl | rfl | rfl | rfl | rfl
            · exact ⟨none, .not (.base .non) (kit_ty (r := false) (by decide +kernel)), rfl⟩
            · exact ⟨none, .not (.base (.lst hL11)) (kit_ty (r := false) (by decide +kernel)), rfl⟩
            · exact ⟨some (run.map some ++ [some (xs.length : Int)]), .tup hcA11 ((All2.map _ _ run fun z _ => .int z).snoc (.int _)), walkO_bad run 0 (by omega)⟩
            · exact ⟨some (run.map some ++ [some (-1 : Int)]), .tup hcB11 ((All2.map _ _ run fun z _ => .int z).snoc (.int _)), walkO_bad run 0 (by omega)⟩
            · exact ⟨some [none], .tup htT11 (.cons (.bl true) .nil), rfl⟩
            · exact ⟨none, .not (.base (.str _)) (kit_ty (r := false) (by decide +kernel)), rfl⟩
            · exact ⟨none, .not (.base (.int _)) (kit_ty (r := false) (by decide +kernel)), rfl⟩
            · exact ⟨some [none], .tup htN11 (.cons (.oth (.base .non) (kit_ty (r := false) (by decide +kernel)) (kit_ty (r := false) (by decide +kernel))) .nil), rfl⟩
          have e1 : ("up" : Str) = wy true := rfl
          have e2 : ("down" : Str) = wy false := rfl
          clear hcA11 hcB11 htT11 htN11 hL11 b11 hmem al hpq hpw
          repeat l_ints
          exact ⟨_, _, _, _, _, _, _, _, _, _, _, rfl⟩
    · rintro σ H2 ⟨hp2, u2, u3, u4, u5, u6, u7, u8, u9, u10, u11, u12, rfl⟩
      repeat l_ints
      exact k _
end
end Myk56

namespace Myk56
open PySem L2 My EnT
theorem all_mk {l : PySem.W.OpenLaw} {w : World} {K : PySem.W.Frag} {h : Heap} {mg : Str → Option Value} {fa : Addr} (X : K.In h) (G : h.Ns mainGlobals mg) (hfa : mg "law" = some (.ref fa))
    {f1 f2 f3 f4 f5 f6 f7 f8 f9 f10 f11 f12 f13 f14 f15 f16 f17 f18 f19 f20 f21 f22 f23 f24 f25 f26 f27 f28 f29 f30 f31 f32 f33 f34 f35 C_Machine : Addr} {od1 an1 od2 an2 od3 an3 od4 an4 od5 an5 od6 an6 od7 an7 od8 an8 od9 an9 od10 an10 od11 an11 od12 an12 od13 an13 od14 an14 od15 an15 od16 an16 od17 an17 od18 an18 od19 an19 od20 an20 od21 an21 od22 an22 od23 an23 od24 an24 od25 an25 od26 an26 od27 an27 od28 an28 od29 an29 od30 an30 od31 an31 od32 an32 od33 an33 od34 an34 od35 an35 : Option Addr} {sl1 sl2 sl3 sl4 sl5 sl6 sl7 sl8 sl9 sl10 sl11 sl12 sl13 sl14 sl15 sl16 sl17 sl18 sl19 sl20 sl21 sl22 sl23 sl24 sl25 sl26 sl27 sl28 sl29 sl30 sl31 sl32 sl33 sl34 sl35 : Array (Option Value)}
    {oc1 kV1 dc1 pm1 cd1 ct1 oc2 kV2 dc2 pm2 cd2 ct2 oc3 kV3 dc3 pm3 cd3 ct3 oc4 kV4 dc4 pm4 cd4 ct4 oc5 kV5 dc5 pm5 cd5 ct5 oc6 kV6 dc6 pm6 cd6 ct6 oc7 kV7 dc7 pm7 cd7 ct7 oc8 kV8 dc8 pm8 cd8 ct8 oc9 kV9 dc9 pm9 cd9 ct9 oc10 kV10 dc10 pm10 cd10 ct10 oc11 kV11 dc11 pm11 cd11 ct11 oc12 kV12 dc12 pm12 cd12 ct12 oc13 kV13 dc13 pm13 cd13 ct13 oc14 kV14 dc14 pm14 cd14 ct14 oc15 kV15 dc15 pm15 cd15 ct15 oc16 kV16 dc16 pm16 cd16 ct16 oc17 kV17 dc17 pm17 cd17 ct17 oc18 kV18 dc18 pm18 cd18 ct18 oc19 kV19 dc19 pm19 cd19 ct19 oc20 kV20 dc20 pm20 cd20 ct20 oc21 kV21 dc21 pm21 cd21 ct21 oc22 kV22 dc22 pm22 cd22 ct22 oc23 kV23 dc23 pm23 cd23 ct23 oc24 kV24 dc24 pm24 cd24 ct24 oc25 kV25 dc25 pm25 cd25 ct25 oc26 kV26 dc26 pm26 cd26 ct26 oc27 kV27 dc27 pm27 cd27 ct27 oc28 kV28 dc28 pm28 cd28 ct28 oc29 kV29 dc29 pm29 cd29 ct29 oc30 kV30 dc30 pm30 cd30 ct30 oc31 kV31 dc31 pm31 cd31 ct31 oc32 kV32 dc32 pm32 cd32 ct32 oc33 kV33 dc33 pm33 cd33 ct33 oc34 kV34 dc34 pm34 cd34 ct34 oc35 kV35 dc35 pm35 cd35 ct35 : Value} {t_MOST_EVENTS t_MOST_POINTS t_MOST_STANDINGS t_MOST_TRIES : Tok}
    (aC_Machine : PySem.W.nsIn K mainGlobals "Machine" = some (some (.ref C_Machine)))
    (a1 : PySem.W.nsIn K mainGlobals "is_whole" = some (some (.ref f1)))
    (l1 : K.lookup f1 = some ⟨oc1, od1, .func (PySem.W.fnOf "is_whole" "is_whole" (defArgs s_is_whole) (defBody s_is_whole) (defScope s_is_whole) .none kV1 dc1 pm1 an1 cd1 ct1), sl1⟩)
    (c1 : PySem.W.codeIn K cd1 "is_whole" = true) (k1 : PySem.W.keepIn K (.ref f1) = true)
    (a2 : PySem.W.nsIn K mainGlobals "is_way" = some (some (.ref f2)))
    (l2 : K.lookup f2 = some ⟨oc2, od2, .func (PySem.W.fnOf "is_way" "is_way" (defArgs s_is_way) (defBody s_is_way) (defScope s_is_way) .none kV2 dc2 pm2 an2 cd2 ct2), sl2⟩)
    (c2 : PySem.W.codeIn K cd2 "is_way" = true) (k2 : PySem.W.keepIn K (.ref f2) = true)
    (a3 : PySem.W.nsIn K mainGlobals "share_of" = some (some (.ref f3)))
    (l3 : K.lookup f3 = some ⟨oc3, od3, .func (PySem.W.fnOf "share_of" "share_of" (defArgs s_share_of) (defBody s_share_of) (defScope s_share_of) .none kV3 dc3 pm3 an3 cd3 ct3), sl3⟩)
    (c3 : PySem.W.codeIn K cd3 "share_of" = true) (k3 : PySem.W.keepIn K (.ref f3) = true)
    (a4 : PySem.W.nsIn K mainGlobals "lift_of" = some (some (.ref f4)))
    (l4 : K.lookup f4 = some ⟨oc4, od4, .func (PySem.W.fnOf "lift_of" "lift_of" (defArgs s_lift_of) (defBody s_lift_of) (defScope s_lift_of) .none kV4 dc4 pm4 an4 cd4 ct4), sl4⟩)
    (c4 : PySem.W.codeIn K cd4 "lift_of" = true) (k4 : PySem.W.keepIn K (.ref f4) = true)
    (a5 : PySem.W.nsIn K mainGlobals "_law_is" = some (some (.ref f5)))
    (l5 : K.lookup f5 = some ⟨oc5, od5, .func (PySem.W.fnOf "_law_is" "_law_is" (defArgs s_law_is) (defBody s_law_is) (defScope s_law_is) .none kV5 dc5 pm5 an5 cd5 ct5), sl5⟩)
    (c5 : PySem.W.codeIn K cd5 "_law_is" = true) (k5 : PySem.W.keepIn K (.ref f5) = true)
    (a6 : PySem.W.nsIn K mainGlobals "_law_pot" = some (some (.ref f6)))
    (l6 : K.lookup f6 = some ⟨oc6, od6, .func (PySem.W.fnOf "_law_pot" "_law_pot" (defArgs s_law_pot) (defBody s_law_pot) (defScope s_law_pot) .none kV6 dc6 pm6 an6 cd6 ct6), sl6⟩)
    (c6 : PySem.W.codeIn K cd6 "_law_pot" = true) (k6 : PySem.W.keepIn K (.ref f6) = true)
    (a7 : PySem.W.nsIn K mainGlobals "_law_draw" = some (some (.ref f7)))
    (l7 : K.lookup f7 = some ⟨oc7, od7, .func (PySem.W.fnOf "_law_draw" "_law_draw" (defArgs s_law_draw) (defBody s_law_draw) (defScope s_law_draw) .none kV7 dc7 pm7 an7 cd7 ct7), sl7⟩)
    (c7 : PySem.W.codeIn K cd7 "_law_draw" = true) (k7 : PySem.W.keepIn K (.ref f7) = true)
    (a8 : PySem.W.nsIn K mainGlobals "_law_gcd" = some (some (.ref f8)))
    (l8 : K.lookup f8 = some ⟨oc8, od8, .func (PySem.W.fnOf "_law_gcd" "_law_gcd" (defArgs s_law_gcd) (defBody s_law_gcd) (defScope s_law_gcd) .none kV8 dc8 pm8 an8 cd8 ct8), sl8⟩)
    (c8 : PySem.W.codeIn K cd8 "_law_gcd" = true) (k8 : PySem.W.keepIn K (.ref f8) = true)
    (a9 : PySem.W.nsIn K mainGlobals "_law_out" = some (some (.ref f9)))
    (l9 : K.lookup f9 = some ⟨oc9, od9, .func (PySem.W.fnOf "_law_out" "_law_out" (defArgs s_law_out) (defBody s_law_out) (defScope s_law_out) .none kV9 dc9 pm9 an9 cd9 ct9), sl9⟩)
    (c9 : PySem.W.codeIn K cd9 "_law_out" = true) (k9 : PySem.W.keepIn K (.ref f9) = true)
    (a10 : PySem.W.nsIn K mainGlobals "_law_lift" = some (some (.ref f10)))
    (l10 : K.lookup f10 = some ⟨oc10, od10, .func (PySem.W.fnOf "_law_lift" "_law_lift" (defArgs s_law_lift) (defBody s_law_lift) (defScope s_law_lift) .none kV10 dc10 pm10 an10 cd10 ct10), sl10⟩)
    (c10 : PySem.W.codeIn K cd10 "_law_lift" = true) (k10 : PySem.W.keepIn K (.ref f10) = true)
    (a11 : PySem.W.nsIn K mainGlobals "_law_leapt" = some (some (.ref f11)))
    (l11 : K.lookup f11 = some ⟨oc11, od11, .func (PySem.W.fnOf "_law_leapt" "_law_leapt" (defArgs s_law_leapt) (defBody s_law_leapt) (defScope s_law_leapt) .none kV11 dc11 pm11 an11 cd11 ct11), sl11⟩)
    (c11 : PySem.W.codeIn K cd11 "_law_leapt" = true) (k11 : PySem.W.keepIn K (.ref f11) = true)
    (a12 : PySem.W.nsIn K mainGlobals "is_between" = some (some (.ref f12)))
    (l12 : K.lookup f12 = some ⟨oc12, od12, .func (PySem.W.fnOf "is_between" "is_between" (defArgs s_is_between) (defBody s_is_between) (defScope s_is_between) .none kV12 dc12 pm12 an12 cd12 ct12), sl12⟩)
    (c12 : PySem.W.codeIn K cd12 "is_between" = true) (k12 : PySem.W.keepIn K (.ref f12) = true)
    (a13 : PySem.W.nsIn K mainGlobals "is_pair" = some (some (.ref f13)))
    (l13 : K.lookup f13 = some ⟨oc13, od13, .func (PySem.W.fnOf "is_pair" "is_pair" (defArgs s_is_pair) (defBody s_is_pair) (defScope s_is_pair) .none kV13 dc13 pm13 an13 cd13 ct13), sl13⟩)
    (c13 : PySem.W.codeIn K cd13 "is_pair" = true) (k13 : PySem.W.keepIn K (.ref f13) = true)
    (a14 : PySem.W.nsIn K mainGlobals "check_way" = some (some (.ref f14)))
    (l14 : K.lookup f14 = some ⟨oc14, od14, .func (PySem.W.fnOf "check_way" "check_way" (defArgs s_check_way) (defBody s_check_way) (defScope s_check_way) .none kV14 dc14 pm14 an14 cd14 ct14), sl14⟩)
    (c14 : PySem.W.codeIn K cd14 "check_way" = true) (k14 : PySem.W.keepIn K (.ref f14) = true)
    (a15 : PySem.W.nsIn K mainGlobals "_law_any" = some (some (.ref f15)))
    (l15 : K.lookup f15 = some ⟨oc15, od15, .func (PySem.W.fnOf "_law_any" "_law_any" (defArgs s_law_any) (defBody s_law_any) (defScope s_law_any) .none kV15 dc15 pm15 an15 cd15 ct15), sl15⟩)
    (c15 : PySem.W.codeIn K cd15 "_law_any" = true) (k15 : PySem.W.keepIn K (.ref f15) = true)
    (a16 : PySem.W.nsIn K mainGlobals "_law_parts" = some (some (.ref f16)))
    (l16 : K.lookup f16 = some ⟨oc16, od16, .func (PySem.W.fnOf "_law_parts" "_law_parts" (defArgs s_law_parts) (defBody s_law_parts) (defScope s_law_parts) .none kV16 dc16 pm16 an16 cd16 ct16), sl16⟩)
    (c16 : PySem.W.codeIn K cd16 "_law_parts" = true) (k16 : PySem.W.keepIn K (.ref f16) = true)
    (a17 : PySem.W.nsIn K mainGlobals "_law_low" = some (some (.ref f17)))
    (l17 : K.lookup f17 = some ⟨oc17, od17, .func (PySem.W.fnOf "_law_low" "_law_low" (defArgs s_law_low) (defBody s_law_low) (defScope s_law_low) .none kV17 dc17 pm17 an17 cd17 ct17), sl17⟩)
    (c17 : PySem.W.codeIn K cd17 "_law_low" = true) (k17 : PySem.W.keepIn K (.ref f17) = true)
    (a18 : PySem.W.nsIn K mainGlobals "_law_walk" = some (some (.ref f18)))
    (l18 : K.lookup f18 = some ⟨oc18, od18, .func (PySem.W.fnOf "_law_walk" "_law_walk" (defArgs s_law_walk) (defBody s_law_walk) (defScope s_law_walk) .none kV18 dc18 pm18 an18 cd18 ct18), sl18⟩)
    (c18 : PySem.W.codeIn K cd18 "_law_walk" = true) (k18 : PySem.W.keepIn K (.ref f18) = true)
    (a19 : PySem.W.nsIn K mainGlobals "_law_numbers" = some (some (.ref f19)))
    (l19 : K.lookup f19 = some ⟨oc19, od19, .func (PySem.W.fnOf "_law_numbers" "_law_numbers" (defArgs s_law_numbers) (defBody s_law_numbers) (defScope s_law_numbers) .none kV19 dc19 pm19 an19 cd19 ct19), sl19⟩)
    (c19 : PySem.W.codeIn K cd19 "_law_numbers" = true) (k19 : PySem.W.keepIn K (.ref f19) = true)
    (a20 : PySem.W.nsIn K mainGlobals "is_share" = some (some (.ref f20)))
    (l20 : K.lookup f20 = some ⟨oc20, od20, .func (PySem.W.fnOf "is_share" "is_share" (defArgs s_is_share) (defBody s_is_share) (defScope s_is_share) .none kV20 dc20 pm20 an20 cd20 ct20), sl20⟩)
    (c20 : PySem.W.codeIn K cd20 "is_share" = true) (k20 : PySem.W.keepIn K (.ref f20) = true)
    (a21 : PySem.W.nsIn K mainGlobals "are_counts" = some (some (.ref f21)))
    (l21 : K.lookup f21 = some ⟨oc21, od21, .func (PySem.W.fnOf "are_counts" "are_counts" (defArgs s_are_counts) (defBody s_are_counts) (defScope s_are_counts) .none kV21 dc21 pm21 an21 cd21 ct21), sl21⟩)
    (c21 : PySem.W.codeIn K cd21 "are_counts" = true) (k21 : PySem.W.keepIn K (.ref f21) = true)
    (a22 : PySem.W.nsIn K mainGlobals "has_event" = some (some (.ref f22)))
    (l22 : K.lookup f22 = some ⟨oc22, od22, .func (PySem.W.fnOf "has_event" "has_event" (defArgs s_has_event) (defBody s_has_event) (defScope s_has_event) .none kV22 dc22 pm22 an22 cd22 ct22), sl22⟩)
    (c22 : PySem.W.codeIn K cd22 "has_event" = true) (k22 : PySem.W.keepIn K (.ref f22) = true)
    (a23 : PySem.W.nsIn K mainGlobals "_law_share" = some (some (.ref f23)))
    (l23 : K.lookup f23 = some ⟨oc23, od23, .func (PySem.W.fnOf "_law_share" "_law_share" (defArgs s_law_share) (defBody s_law_share) (defScope s_law_share) .none kV23 dc23 pm23 an23 cd23 ct23), sl23⟩)
    (c23 : PySem.W.codeIn K cd23 "_law_share" = true) (k23 : PySem.W.keepIn K (.ref f23) = true)
    (a24 : PySem.W.nsIn K mainGlobals "check_share" = some (some (.ref f24)))
    (l24 : K.lookup f24 = some ⟨oc24, od24, .func (PySem.W.fnOf "check_share" "check_share" (defArgs s_check_share) (defBody s_check_share) (defScope s_check_share) .none kV24 dc24 pm24 an24 cd24 ct24), sl24⟩)
    (c24 : PySem.W.codeIn K cd24 "check_share" = true) (k24 : PySem.W.keepIn K (.ref f24) = true)
    (a25 : PySem.W.nsIn K mainGlobals "_is_event" = some (some (.ref f25)))
    (l25 : K.lookup f25 = some ⟨oc25, od25, .func (PySem.W.fnOf "_is_event" "_is_event" (defArgs s_is_event) (defBody s_is_event) (defScope s_is_event) .none kV25 dc25 pm25 an25 cd25 ct25), sl25⟩)
    (c25 : PySem.W.codeIn K cd25 "_is_event" = true) (k25 : PySem.W.keepIn K (.ref f25) = true)
    (a26 : PySem.W.nsIn K mainGlobals "is_run" = some (some (.ref f26)))
    (l26 : K.lookup f26 = some ⟨oc26, od26, .func (PySem.W.fnOf "is_run" "is_run" (defArgs s_is_run) (defBody s_is_run) (defScope s_is_run) .none kV26 dc26 pm26 an26 cd26 ct26), sl26⟩)
    (c26 : PySem.W.codeIn K cd26 "is_run" = true) (k26 : PySem.W.keepIn K (.ref f26) = true)
    (a27 : PySem.W.findIn K (.ref C_Machine) "__init__" = some (some (.ref f27)))
    (i27 : PySem.W.isFn K (.ref f27) = true)
    (l27 : K.lookup f27 = some ⟨oc27, od27, .func (PySem.W.fnOf "__init__" "Machine.__init__" (defArgs s_Machine___init__) (defBody s_Machine___init__) (defScope s_Machine___init__) .none kV27 dc27 pm27 an27 cd27 ct27), sl27⟩)
    (c27 : PySem.W.codeIn K cd27 "Machine.__init__" = true) (k27 : PySem.W.keepIn K (.ref f27) = true)
    (a28 : PySem.W.nsIn K mainGlobals "boards" = some (some (.ref f28)))
    (l28 : K.lookup f28 = some ⟨oc28, od28, .func (PySem.W.fnOf "boards" "boards" (defArgs s_boards) (defBody s_boards) (defScope s_boards) .none kV28 dc28 pm28 an28 cd28 ct28), sl28⟩)
    (c28 : PySem.W.codeIn K cd28 "boards" = true) (k28 : PySem.W.keepIn K (.ref f28) = true)
    (a29 : PySem.W.nsIn K mainGlobals "shares" = some (some (.ref f29)))
    (l29 : K.lookup f29 = some ⟨oc29, od29, .func (PySem.W.fnOf "shares" "shares" (defArgs s_shares) (defBody s_shares) (defScope s_shares) .none kV29 dc29 pm29 an29 cd29 ct29), sl29⟩)
    (c29 : PySem.W.codeIn K cd29 "shares" = true) (k29 : PySem.W.keepIn K (.ref f29) = true)
    (a30 : PySem.W.nsIn K mainGlobals "_values_behind" = some (some (.ref f30)))
    (l30 : K.lookup f30 = some ⟨oc30, od30, .func (PySem.W.fnOf "_values_behind" "_values_behind" (defArgs s_values_behind) (defBody s_values_behind) (defScope s_values_behind) .none kV30 dc30 pm30 an30 cd30 ct30), sl30⟩)
    (c30 : PySem.W.codeIn K cd30 "_values_behind" = true) (k30 : PySem.W.keepIn K (.ref f30) = true)
    (a31 : PySem.W.nsIn K mainGlobals "leaps" = some (some (.ref f31)))
    (l31 : K.lookup f31 = some ⟨oc31, od31, .func (PySem.W.fnOf "leaps" "leaps" (defArgs s_leaps) (defBody s_leaps) (defScope s_leaps) .none kV31 dc31 pm31 an31 cd31 ct31), sl31⟩)
    (c31 : PySem.W.codeIn K cd31 "leaps" = true) (k31 : PySem.W.keepIn K (.ref f31) = true)
    (a32 : PySem.W.nsIn K mainGlobals "meets" = some (some (.ref f32)))
    (l32 : K.lookup f32 = some ⟨oc32, od32, .func (PySem.W.fnOf "meets" "meets" (defArgs s_meets) (defBody s_meets) (defScope s_meets) .none kV32 dc32 pm32 an32 cd32 ct32), sl32⟩)
    (c32 : PySem.W.codeIn K cd32 "meets" = true) (k32 : PySem.W.keepIn K (.ref f32) = true)
    (a33 : PySem.W.nsIn K mainGlobals "is_leap" = some (some (.ref f33)))
    (l33 : K.lookup f33 = some ⟨oc33, od33, .func (PySem.W.fnOf "is_leap" "is_leap" (defArgs s_is_leap) (defBody s_is_leap) (defScope s_is_leap) .none kV33 dc33 pm33 an33 cd33 ct33), sl33⟩)
    (c33 : PySem.W.codeIn K cd33 "is_leap" = true) (k33 : PySem.W.keepIn K (.ref f33) = true)
    (a34 : PySem.W.nsIn K mainGlobals "_law_told" = some (some (.ref f34)))
    (l34 : K.lookup f34 = some ⟨oc34, od34, .func (PySem.W.fnOf "_law_told" "_law_told" (defArgs s_law_told) (defBody s_law_told) (defScope s_law_told) .none kV34 dc34 pm34 an34 cd34 ct34), sl34⟩)
    (c34 : PySem.W.codeIn K cd34 "_law_told" = true) (k34 : PySem.W.keepIn K (.ref f34) = true)
    (a35 : PySem.W.nsIn K mainGlobals "law" = some (some (.ref f35)))
    (l35 : K.lookup f35 = some ⟨oc35, od35, .func (PySem.W.fnOf "law" "law" (defArgs s_law) (defBody s_law) (defScope s_law) .none kV35 dc35 pm35 an35 cd35 ct35), sl35⟩)
    (c35 : PySem.W.codeIn K cd35 "law" = true) (k35 : PySem.W.keepIn K (.ref f35) = true)
    (pg_Machine : PySem.W.plainGet K C_Machine Str.empty = true) (hd_Machine : PySem.W.hasDictIn K C_Machine = true) (po_Machine : PySem.W.plainOver K C_Machine = true) (sa_Machine : PySem.W.findIn K (.ref C_Machine) "__setattr__" = some (some (.builtin "object.__setattr__"))) (mk_Machine : PySem.W.makesIn K C_Machine = true) (kc_Machine : PySem.W.keepIn K (.ref C_Machine) = true)
    (n_events : PySem.W.findIn K (.ref C_Machine) "events" = some none)
    (n_standings : PySem.W.findIn K (.ref C_Machine) "standings" = some none)
    (z_abs : PySem.W.nsIn K mainGlobals "abs" = some none)
    (z_bool : PySem.W.nsIn K mainGlobals "bool" = some none)
    (z_enumerate : PySem.W.nsIn K mainGlobals "enumerate" = some none)
    (z_int : PySem.W.nsIn K mainGlobals "int" = some none)
    (z_isinstance : PySem.W.nsIn K mainGlobals "isinstance" = some none)
    (z_len : PySem.W.nsIn K mainGlobals "len" = some none)
    (z_list : PySem.W.nsIn K mainGlobals "list" = some none)
    (z_range : PySem.W.nsIn K mainGlobals "range" = some none)
    (z_str : PySem.W.nsIn K mainGlobals "str" = some none)
    (z_sum : PySem.W.nsIn K mainGlobals "sum" = some none)
    (z_tuple : PySem.W.nsIn K mainGlobals "tuple" = some none)
    (v_MOST_EVENTS : PySem.W.nsIn K mainGlobals "MOST_EVENTS" = some (some (.int 30 t_MOST_EVENTS)))
    (v_MOST_POINTS : PySem.W.nsIn K mainGlobals "MOST_POINTS" = some (some (.int 400 t_MOST_POINTS)))
    (v_MOST_STANDINGS : PySem.W.nsIn K mainGlobals "MOST_STANDINGS" = some (some (.int 12 t_MOST_STANDINGS)))
    (v_MOST_TRIES : PySem.W.nsIn K mainGlobals "MOST_TRIES" = some (some (.int 40 t_MOST_TRIES)))
    (v_gcd : PySem.W.nsIn K mainGlobals "gcd" = some (some (.builtin "math.gcd")))
    : ∃ fd : FuncData, (∀ (s : Shared) (v : Value), BindsTo s fd ⟨[v], []⟩ [("script", v)]) ∧ ∀ base : Heap, K.In base → base.Ns mainGlobals mg → FnOk l.prog w K mg base CX0 10 fa fd ["script"] (spLaw K) := by
  have e := hfa.symm.trans (PySem.W.mg_of X G a35)
  cases e
  have F1 := fun_mk (st := s_is_whole) l1 c1 k1
  have b1 := F1.binds (ps := ["thing"]) fun _ _ _ _ _ _ us hl => match us, hl with | [_], _ => rfl
  have F2 := fun_mk (st := s_is_way) l2 c2 k2
  have b2 := F2.binds (ps := ["thing"]) fun _ _ _ _ _ _ us hl => match us, hl with | [_], _ => rfl
  have F3 := fun_mk (st := s_share_of) l3 c3 k3
  have b3 := F3.binds (ps := ["points", "tries"]) fun _ _ _ _ _ _ us hl => match us, hl with | [_, _], _ => rfl
  have F4 := fun_mk (st := s_lift_of) l4 c4 k4
  have b4 := F4.binds (ps := ["share", "tries", "points"]) fun _ _ _ _ _ _ us hl => match us, hl with | [_, _, _], _ => rfl
  have F5 := fun_mk (st := s_law_is) l5 c5 k5
  have b5 := F5.binds (ps := ["told", "due"]) fun _ _ _ _ _ _ us hl => match us, hl with | [_, _], _ => rfl
  have F6 := fun_mk (st := s_law_pot) l6 c6 k6
  have b6 := F6.binds (ps := ["script"]) fun _ _ _ _ _ _ us hl => match us, hl with | [_], _ => rfl
  have F7 := fun_mk (st := s_law_draw) l7 c7 k7
  have b7 := F7.binds (ps := ["pot", "many"]) fun _ _ _ _ _ _ us hl => match us, hl with | [_, _], _ => rfl
  have F8 := fun_mk (st := s_law_gcd) l8 c8 k8
  have b8 := F8.binds (ps := ["one", "other"]) fun _ _ _ _ _ _ us hl => match us, hl with | [_, _], _ => rfl
  have F9 := fun_mk (st := s_law_out) l9 c9 k9
  have b9 := F9.binds (ps := ["parts", "standing"]) fun _ _ _ _ _ _ us hl => match us, hl with | [_, _], _ => rfl
  have F10 := fun_mk (st := s_law_lift) l10 c10 k10
  have b10 := F10.binds (ps := ["share", "event"]) fun _ _ _ _ _ _ us hl => match us, hl with | [_, _], _ => rfl
  have F11 := fun_mk (st := s_law_leapt) l11 c11 k11
  have b11 := F11.binds (ps := ["before", "after", "way"]) fun _ _ _ _ _ _ us hl => match us, hl with | [_, _, _], _ => rfl
  have F12 := fun_mk (st := s_is_between) l12 c12 k12
  have b12 := F12.binds (ps := ["thing", "low", "high"]) fun _ _ _ _ _ _ us hl => match us, hl with | [_, _, _], _ => rfl
  have F13 := fun_mk (st := s_is_pair) l13 c13 k13
  have b13 := F13.binds (ps := ["thing"]) fun _ _ _ _ _ _ us hl => match us, hl with | [_], _ => rfl
  have F14 := fun_mk (st := s_check_way) l14 c14 k14
  have b14 := F14.binds (ps := ["thing"]) fun _ _ _ _ _ _ us hl => match us, hl with | [_], _ => rfl
  have F15 := fun_mk (st := s_law_any) l15 c15 k15
  have b15 := F15.binds (ps := ["pot", "items"]) fun _ _ _ _ _ _ us hl => match us, hl with | [_, _], _ => rfl
  have F16 := fun_mk (st := s_law_parts) l16 c16 k16
  have b16 := F16.binds (ps := ["pot", "most_standings", "most_events"]) fun _ _ _ _ _ _ us hl => match us, hl with | [_, _, _], _ => rfl
  have F17 := fun_mk (st := s_law_low) l17 c17 k17
  have b17 := F17.binds (ps := ["top", "bottom"]) fun _ _ _ _ _ _ us hl => match us, hl with | [_, _], _ => rfl
  have F18 := fun_mk (st := s_law_walk) l18 c18 k18
  have b18 := F18.binds (ps := ["pot", "parts", "many"]) fun _ _ _ _ _ _ us hl => match us, hl with | [_, _, _], _ => rfl
  have F19 := fun_mk (st := s_law_numbers) l19 c19 k19
  have b19 := F19.binds (ps := ["parts", "share", "run"]) fun _ _ _ _ _ _ us hl => match us, hl with | [_, _, _], _ => rfl
  have F20 := fun_mk (st := s_is_share) l20 c20 k20
  have b20 := F20.binds (ps := ["thing"]) fun _ _ _ _ _ _ us hl => match us, hl with | [_], _ => rfl
  have F21 := fun_mk (st := s_are_counts) l21 c21 k21
  have b21 := F21.binds (ps := ["tries", "points"]) fun _ _ _ _ _ _ us hl => match us, hl with | [_, _], _ => rfl
  have F22 := fun_mk (st := s_has_event) l22 c22 k22
  have b22 := F22.binds (ps := ["machine", "thing"]) fun _ _ _ _ _ _ us hl => match us, hl with | [_, _], _ => rfl
  have F23 := fun_mk (st := s_law_share) l23 c23 k23
  have b23 := F23.binds (ps := ["pot", "most"]) fun _ _ _ _ _ _ us hl => match us, hl with | [_, _], _ => rfl
  have F24 := fun_mk (st := s_check_share) l24 c24 k24
  have b24 := F24.binds (ps := ["thing"]) fun _ _ _ _ _ _ us hl => match us, hl with | [_], _ => rfl
  have F25 := fun_mk (st := s_is_event) l25 c25 k25
  have b25 := F25.binds (ps := ["thing", "standings"]) fun _ _ _ _ _ _ us hl => match us, hl with | [_, _], _ => rfl
  have F26 := fun_mk (st := s_is_run) l26 c26 k26
  have b26 := F26.binds (ps := ["machine", "thing"]) fun _ _ _ _ _ _ us hl => match us, hl with | [_, _], _ => rfl
  have F27 := fun_mk (st := s_Machine___init__) l27 c27 k27
  have b27 := F27.binds (ps := ["self", "standings", "events"]) fun _ _ _ _ _ _ us hl => match us, hl with | [_, _, _], _ => rfl
  have F28 := fun_mk (st := s_boards) l28 c28 k28
  have b28 := F28.binds (ps := ["machine", "run"]) fun _ _ _ _ _ _ us hl => match us, hl with | [_, _], _ => rfl
  have F29 := fun_mk (st := s_shares) l29 c29 k29
  have b29 := F29.binds (ps := ["machine", "run"]) fun _ _ _ _ _ _ us hl => match us, hl with | [_, _], _ => rfl
  have F30 := fun_mk (st := s_values_behind) l30 c30 k30
  have b30 := F30.binds (ps := ["machine", "share", "run"]) fun _ _ _ _ _ _ us hl => match us, hl with | [_, _, _], _ => rfl
  have F31 := fun_mk (st := s_leaps) l31 c31 k31
  have b31 := F31.binds (ps := ["machine", "share", "way", "run"]) fun _ _ _ _ _ _ us hl => match us, hl with | [_, _, _, _], _ => rfl
  have F32 := fun_mk (st := s_meets) l32 c32 k32
  have b32 := F32.binds (ps := ["machine", "share", "run"]) fun _ _ _ _ _ _ us hl => match us, hl with | [_, _, _], _ => rfl
  have F33 := fun_mk (st := s_is_leap) l33 c33 k33
  have b33 := F33.binds (ps := ["machine", "share", "way", "thing"]) fun _ _ _ _ _ _ us hl => match us, hl with | [_, _, _, _], _ => rfl
  have F34 := fun_mk (st := s_law_told) l34 c34 k34
  have b34 := F34.binds (ps := ["machine", "parts", "share", "run"]) fun _ _ _ _ _ _ us hl => match us, hl with | [_, _, _, _], _ => rfl
  have F35 := fun_mk (st := s_law) l35 c35 k35
  have b35 := F35.binds (ps := ["script"]) fun _ _ _ _ _ _ us hl => match us, hl with | [_], _ => rfl
  have T : Txt K mg { f_is_whole := f1, d_is_whole := PySem.W.fnOf "is_whole" "is_whole" (defArgs s_is_whole) (defBody s_is_whole) (defScope s_is_whole) .none kV1 dc1 pm1 an1 cd1 ct1, f_is_way := f2, d_is_way := PySem.W.fnOf "is_way" "is_way" (defArgs s_is_way) (defBody s_is_way) (defScope s_is_way) .none kV2 dc2 pm2 an2 cd2 ct2, f_share_of := f3, d_share_of := PySem.W.fnOf "share_of" "share_of" (defArgs s_share_of) (defBody s_share_of) (defScope s_share_of) .none kV3 dc3 pm3 an3 cd3 ct3, f_lift_of := f4, d_lift_of := PySem.W.fnOf "lift_of" "lift_of" (defArgs s_lift_of) (defBody s_lift_of) (defScope s_lift_of) .none kV4 dc4 pm4 an4 cd4 ct4, f_law_is := f5, d_law_is := PySem.W.fnOf "_law_is" "_law_is" (defArgs s_law_is) (defBody s_law_is) (defScope s_law_is) .none kV5 dc5 pm5 an5 cd5 ct5, f_law_pot := f6, d_law_pot := PySem.W.fnOf "_law_pot" "_law_pot" (defArgs s_law_pot) (defBody s_law_pot) (defScope s_law_pot) .none kV6 dc6 pm6 an6 cd6 ct6, f_law_draw := f7, d_law_draw := PySem.W.fnOf "_law_draw" "_law_draw" (defArgs s_law_draw) (defBody s_law_draw) (defScope s_law_draw) .none kV7 dc7 pm7 an7 cd7 ct7, f_law_gcd := f8, d_law_gcd := PySem.W.fnOf "_law_gcd" "_law_gcd" (defArgs s_law_gcd) (defBody s_law_gcd) (defScope s_law_gcd) .none kV8 dc8 pm8 an8 cd8 ct8, f_law_out := f9, d_law_out := PySem.W.fnOf "_law_out" "_law_out" (defArgs s_law_out) (defBody s_law_out) (defScope s_law_out) .none kV9 dc9 pm9 an9 cd9 ct9, f_law_lift := f10, d_law_lift := PySem.W.fnOf "_law_lift" "_law_lift" (defArgs s_law_lift) (defBody s_law_lift) (defScope s_law_lift) .none kV10 dc10 pm10 an10 cd10 ct10, f_law_leapt := f11, d_law_leapt := PySem.W.fnOf "_law_leapt" "_law_leapt" (defArgs s_law_leapt) (defBody s_law_leapt) (defScope s_law_leapt) .none kV11 dc11 pm11 an11 cd11 ct11, f_is_between := f12, d_is_between := PySem.W.fnOf "is_between" "is_between" (defArgs s_is_between) (defBody s_is_between) (defScope s_is_between) .none kV12 dc12 pm12 an12 cd12 ct12, f_is_pair := f13, d_is_pair := PySem.W.fnOf "is_pair" "is_pair" (defArgs s_is_pair) (defBody s_is_pair) (defScope s_is_pair) .none kV13 dc13 pm13 an13 cd13 ct13, f_check_way := f14, d_check_way := PySem.W.fnOf "check_way" "check_way" (defArgs s_check_way) (defBody s_check_way) (defScope s_check_way) .none kV14 dc14 pm14 an14 cd14 ct14, f_law_any := f15, d_law_any := PySem.W.fnOf "_law_any" "_law_any" (defArgs s_law_any) (defBody s_law_any) (defScope s_law_any) .none kV15 dc15 pm15 an15 cd15 ct15, f_law_parts := f16, d_law_parts := PySem.W.fnOf "_law_parts" "_law_parts" (defArgs s_law_parts) (defBody s_law_parts) (defScope s_law_parts) .none kV16 dc16 pm16 an16 cd16 ct16, f_law_low := f17, d_law_low := PySem.W.fnOf "_law_low" "_law_low" (defArgs s_law_low) (defBody s_law_low) (defScope s_law_low) .none kV17 dc17 pm17 an17 cd17 ct17, f_law_walk := f18, d_law_walk := PySem.W.fnOf "_law_walk" "_law_walk" (defArgs s_law_walk) (defBody s_law_walk) (defScope s_law_walk) .none kV18 dc18 pm18 an18 cd18 ct18, f_law_numbers := f19, d_law_numbers := PySem.W.fnOf "_law_numbers" "_law_numbers" (defArgs s_law_numbers) (defBody s_law_numbers) (defScope s_law_numbers) .none kV19 dc19 pm19 an19 cd19 ct19, f_is_share := f20, d_is_share := PySem.W.fnOf "is_share" "is_share" (defArgs s_is_share) (defBody s_is_share) (defScope s_is_share) .none kV20 dc20 pm20 an20 cd20 ct20, f_are_counts := f21, d_are_counts := PySem.W.fnOf "are_counts" "are_counts" (defArgs s_are_counts) (defBody s_are_counts) (defScope s_are_counts) .none kV21 dc21 pm21 an21 cd21 ct21, f_has_event := f22, d_has_event := PySem.W.fnOf "has_event" "has_event" (defArgs s_has_event) (defBody s_has_event) (defScope s_has_event) .none kV22 dc22 pm22 an22 cd22 ct22, f_law_share := f23, d_law_share := PySem.W.fnOf "_law_share" "_law_share" (defArgs s_law_share) (defBody s_law_share) (defScope s_law_share) .none kV23 dc23 pm23 an23 cd23 ct23, f_check_share := f24, d_check_share := PySem.W.fnOf "check_share" "check_share" (defArgs s_check_share) (defBody s_check_share) (defScope s_check_share) .none kV24 dc24 pm24 an24 cd24 ct24, f_is_event := f25, d_is_event := PySem.W.fnOf "_is_event" "_is_event" (defArgs s_is_event) (defBody s_is_event) (defScope s_is_event) .none kV25 dc25 pm25 an25 cd25 ct25, f_is_run := f26, d_is_run := PySem.W.fnOf "is_run" "is_run" (defArgs s_is_run) (defBody s_is_run) (defScope s_is_run) .none kV26 dc26 pm26 an26 cd26 ct26, f_Machine___init__ := f27, d_Machine___init__ := PySem.W.fnOf "__init__" "Machine.__init__" (defArgs s_Machine___init__) (defBody s_Machine___init__) (defScope s_Machine___init__) .none kV27 dc27 pm27 an27 cd27 ct27, f_boards := f28, d_boards := PySem.W.fnOf "boards" "boards" (defArgs s_boards) (defBody s_boards) (defScope s_boards) .none kV28 dc28 pm28 an28 cd28 ct28, f_shares := f29, d_shares := PySem.W.fnOf "shares" "shares" (defArgs s_shares) (defBody s_shares) (defScope s_shares) .none kV29 dc29 pm29 an29 cd29 ct29, f_values_behind := f30, d_values_behind := PySem.W.fnOf "_values_behind" "_values_behind" (defArgs s_values_behind) (defBody s_values_behind) (defScope s_values_behind) .none kV30 dc30 pm30 an30 cd30 ct30, f_leaps := f31, d_leaps := PySem.W.fnOf "leaps" "leaps" (defArgs s_leaps) (defBody s_leaps) (defScope s_leaps) .none kV31 dc31 pm31 an31 cd31 ct31, f_meets := f32, d_meets := PySem.W.fnOf "meets" "meets" (defArgs s_meets) (defBody s_meets) (defScope s_meets) .none kV32 dc32 pm32 an32 cd32 ct32, f_is_leap := f33, d_is_leap := PySem.W.fnOf "is_leap" "is_leap" (defArgs s_is_leap) (defBody s_is_leap) (defScope s_is_leap) .none kV33 dc33 pm33 an33 cd33 ct33, f_law_told := f34, d_law_told := PySem.W.fnOf "_law_told" "_law_told" (defArgs s_law_told) (defBody s_law_told) (defScope s_law_told) .none kV34 dc34 pm34 an34 cd34 ct34, f_law := fa, d_law := PySem.W.fnOf "law" "law" (defArgs s_law) (defBody s_law) (defScope s_law) .none kV35 dc35 pm35 an35 cd35 ct35, C_Machine := C_Machine, t_MOST_EVENTS := t_MOST_EVENTS, t_MOST_POINTS := t_MOST_POINTS, t_MOST_STANDINGS := t_MOST_STANDINGS, t_MOST_TRIES := t_MOST_TRIES } := {
    F_is_whole := F1, B_is_whole := b1,
    m_is_whole := PySem.W.mg_of X G a1,
    F_is_way := F2, B_is_way := b2,
    m_is_way := PySem.W.mg_of X G a2,
    F_share_of := F3, B_share_of := b3,
    m_share_of := PySem.W.mg_of X G a3,
    F_lift_of := F4, B_lift_of := b4,
    m_lift_of := PySem.W.mg_of X G a4,
    F_law_is := F5, B_law_is := b5,
    m_law_is := PySem.W.mg_of X G a5,
    F_law_pot := F6, B_law_pot := b6,
    m_law_pot := PySem.W.mg_of X G a6,
    F_law_draw := F7, B_law_draw := b7,
    m_law_draw := PySem.W.mg_of X G a7,
    F_law_gcd := F8, B_law_gcd := b8,
    m_law_gcd := PySem.W.mg_of X G a8,
    F_law_out := F9, B_law_out := b9,
    m_law_out := PySem.W.mg_of X G a9,
    F_law_lift := F10, B_law_lift := b10,
    m_law_lift := PySem.W.mg_of X G a10,
    F_law_leapt := F11, B_law_leapt := b11,
    m_law_leapt := PySem.W.mg_of X G a11,
    F_is_between := F12, B_is_between := b12,
    m_is_between := PySem.W.mg_of X G a12,
    F_is_pair := F13, B_is_pair := b13,
    m_is_pair := PySem.W.mg_of X G a13,
    F_check_way := F14, B_check_way := b14,
    m_check_way := PySem.W.mg_of X G a14,
    F_law_any := F15, B_law_any := b15,
    m_law_any := PySem.W.mg_of X G a15,
    F_law_parts := F16, B_law_parts := b16,
    m_law_parts := PySem.W.mg_of X G a16,
    F_law_low := F17, B_law_low := b17,
    m_law_low := PySem.W.mg_of X G a17,
    F_law_walk := F18, B_law_walk := b18,
    m_law_walk := PySem.W.mg_of X G a18,
    F_law_numbers := F19, B_law_numbers := b19,
    m_law_numbers := PySem.W.mg_of X G a19,
    F_is_share := F20, B_is_share := b20,
    m_is_share := PySem.W.mg_of X G a20,
    F_are_counts := F21, B_are_counts := b21,
    m_are_counts := PySem.W.mg_of X G a21,
    F_has_event := F22, B_has_event := b22,
    m_has_event := PySem.W.mg_of X G a22,
    F_law_share := F23, B_law_share := b23,
    m_law_share := PySem.W.mg_of X G a23,
    F_check_share := F24, B_check_share := b24,
    m_check_share := PySem.W.mg_of X G a24,
    F_is_event := F25, B_is_event := b25,
    m_is_event := PySem.W.mg_of X G a25,
    F_is_run := F26, B_is_run := b26,
    m_is_run := PySem.W.mg_of X G a26,
    F_Machine___init__ := F27, B_Machine___init__ := b27,
    F_boards := F28, B_boards := b28,
    m_boards := PySem.W.mg_of X G a28,
    F_shares := F29, B_shares := b29,
    m_shares := PySem.W.mg_of X G a29,
    F_values_behind := F30, B_values_behind := b30,
    m_values_behind := PySem.W.mg_of X G a30,
    F_leaps := F31, B_leaps := b31,
    m_leaps := PySem.W.mg_of X G a31,
    F_meets := F32, B_meets := b32,
    m_meets := PySem.W.mg_of X G a32,
    F_is_leap := F33, B_is_leap := b33,
    m_is_leap := PySem.W.mg_of X G a33,
    F_law_told := F34, B_law_told := b34,
    m_law_told := PySem.W.mg_of X G a34,
    F_law := F35, B_law := b35,
    m_law := PySem.W.mg_of X G a35,
    m_Machine := PySem.W.mg_of X G aC_Machine,
    cl_Machine := ⟨pg_Machine, hd_Machine, po_Machine, sa_Machine⟩, mk_Machine := ⟨mk_Machine, a27, i27, kc_Machine⟩,
    n_events := n_events,
    n_standings := n_standings,
    z_abs := PySem.W.mg_none_of X G z_abs,
    z_bool := PySem.W.mg_none_of X G z_bool,
    z_enumerate := PySem.W.mg_none_of X G z_enumerate,
    z_int := PySem.W.mg_none_of X G z_int,
    z_isinstance := PySem.W.mg_none_of X G z_isinstance,
    z_len := PySem.W.mg_none_of X G z_len,
    z_list := PySem.W.mg_none_of X G z_list,
    z_range := PySem.W.mg_none_of X G z_range,
    z_str := PySem.W.mg_none_of X G z_str,
    z_sum := PySem.W.mg_none_of X G z_sum,
    z_tuple := PySem.W.mg_none_of X G z_tuple,
    c_MOST_EVENTS := PySem.W.mg_of X G v_MOST_EVENTS,
    c_MOST_POINTS := PySem.W.mg_of X G v_MOST_POINTS,
    c_MOST_STANDINGS := PySem.W.mg_of X G v_MOST_STANDINGS,
    c_MOST_TRIES := PySem.W.mg_of X G v_MOST_TRIES,
    m_gcd := PySem.W.mg_of X G v_gcd }
  exact ⟨_, fun s v => .of_eq rfl, fun base _ _ => ok_law T⟩
theorem walk {l : PySem.W.OpenLaw} {q : Program} {loose : List Str} {XP : (Str → Option Value) → Heap → Prop} {YP : World → Heap → Prop} {d : DefRec} {K : Params → PySem.W.Frag} (hn : l.most = some 63) (hdf : d.params.defaults = [])
    (hY : ∀ (w : World) (h : Heap), YP w h → (K w.params).In h)
    (F : ∀ (w : World) (mg : Str → Option Value) (fa : Addr) (h : Heap), (K w.params).In h → h.Ns mainGlobals mg → mg d.name = some (.ref fa) →
      ∃ fd : FuncData, (∀ (s : Shared) (u : Value), BindsTo s fd ⟨[u], []⟩ [("script", u)]) ∧ ∀ base : Heap, (K w.params).In base → base.Ns mainGlobals mg → FnOk l.prog w (K w.params) mg base CX0 10 fa fd ["script"] (spLaw (K w.params))) :
    PySem.W.WalkO q loose XP YP l.row.toRowW d [] (fun f vs => PySem.call f vs) :=
  L2.walk_of (n := 63) (k := 10) (x := "script") (CX := fun _ => CX0) (sp := fun w => spLaw (K w.params)) hn (by decide) hdf ⟨rfl, by decide, by decide⟩ hY F (fun _ _ a ns hl _ hS => ⟨a, ns, rfl, hS, hl, fun _ => rfl⟩) fun _ _ _ _ _ z => z
end Myk56

open PySem PySem.W PyProof.Rows
set_option maxRecDepth 100000 in
set_option maxHeartbeats 0 in
theorem PySem.Challenge.cw_neverleapt_k56_whole_leaps_and_shows_of_holds : PySem.Challenge.rw_neverleapt_k56_whole_leaps_and_shows_of.Holds := by
  w_on; o_law; k_head; (case hw => w_witness2)
  k_fill
  refine Myk56.walk (l := PySem.Challenge.rw_neverleapt_k56_whole_leaps_and_shows_of) rfl rfl (fun w h Y => PySem.W.kIn_of Y) ?F
  case F =>
    intro w mg fa h KX G hmg
    refine' Myk56.all_mk KX G hmg ?aC_Machine ?a1 ?l1 ?c1 ?k1 ?a2 ?l2 ?c2 ?k2 ?a3 ?l3 ?c3 ?k3 ?a4 ?l4 ?c4 ?k4 ?a5 ?l5 ?c5 ?k5 ?a6 ?l6 ?c6 ?k6 ?a7 ?l7 ?c7 ?k7 ?a8 ?l8 ?c8 ?k8 ?a9 ?l9 ?c9 ?k9 ?a10 ?l10 ?c10 ?k10 ?a11 ?l11 ?c11 ?k11 ?a12 ?l12 ?c12 ?k12 ?a13 ?l13 ?c13 ?k13 ?a14 ?l14 ?c14 ?k14 ?a15 ?l15 ?c15 ?k15 ?a16 ?l16 ?c16 ?k16 ?a17 ?l17 ?c17 ?k17 ?a18 ?l18 ?c18 ?k18 ?a19 ?l19 ?c19 ?k19 ?a20 ?l20 ?c20 ?k20 ?a21 ?l21 ?c21 ?k21 ?a22 ?l22 ?c22 ?k22 ?a23 ?l23 ?c23 ?k23 ?a24 ?l24 ?c24 ?k24 ?a25 ?l25 ?c25 ?k25 ?a26 ?l26 ?c26 ?k26 ?a27 ?i27 ?l27 ?c27 ?k27 ?a28 ?l28 ?c28 ?k28 ?a29 ?l29 ?c29 ?k29 ?a30 ?l30 ?c30 ?k30 ?a31 ?l31 ?c31 ?k31 ?a32 ?l32 ?c32 ?k32 ?a33 ?l33 ?c33 ?k33 ?a34 ?l34 ?c34 ?k34 ?a35 ?l35 ?c35 ?k35 ?pg_Machine ?hd_Machine ?po_Machine ?sa_Machine ?mk_Machine ?kc_Machine ?n_events ?n_standings ?z_abs ?z_bool ?z_enumerate ?z_int ?z_isinstance ?z_len ?z_list ?z_range ?z_str ?z_sum ?z_tuple ?v_MOST_EVENTS ?v_MOST_POINTS ?v_MOST_STANDINGS ?v_MOST_TRIES ?v_gcd
    (case aC_Machine => k_is)
    (case a1 => k_is)
    (case l1 => k_is)
    (case c1 => k_is)
    (case k1 => k_is)
    (case a2 => k_is)
    (case l2 => k_is)
    (case c2 => k_is)
    (case k2 => k_is)
    (case a3 => k_is)
    (case l3 => k_is)
    (case c3 => k_is)
    (case k3 => k_is)
    (case a4 => k_is)
    (case l4 => k_is)
    (case c4 => k_is)
    (case k4 => k_is)
    (case a5 => k_is)
    (case l5 => k_is)
    (case c5 => k_is)
    (case k5 => k_is)
    (case a6 => k_is)
    (case l6 => k_is)
    (case c6 => k_is)
    (case k6 => k_is)
    (case a7 => k_is)
    (case l7 => k_is)
    (case c7 => k_is)
    (case k7 => k_is)
    (case a8 => k_is)
    (case l8 => k_is)
    (case c8 => k_is)
    (case k8 => k_is)
    (case a9 => k_is)
    (case l9 => k_is)
    (case c9 => k_is)
    (case k9 => k_is)
    (case a10 => k_is)
    (case l10 => k_is)
    (case c10 => k_is)
    (case k10 => k_is)
    (case a11 => k_is)
    (case l11 => k_is)
    (case c11 => k_is)
    (case k11 => k_is)
    (case a12 => k_is)
    (case l12 => k_is)
    (case c12 => k_is)
    (case k12 => k_is)
    (case a13 => k_is)
    (case l13 => k_is)
    (case c13 => k_is)
    (case k13 => k_is)
    (case a14 => k_is)
    (case l14 => k_is)
    (case c14 => k_is)
    (case k14 => k_is)
    (case a15 => k_is)
    (case l15 => k_is)
    (case c15 => k_is)
    (case k15 => k_is)
    (case a16 => k_is)
    (case l16 => k_is)
    (case c16 => k_is)
    (case k16 => k_is)
    (case a17 => k_is)
    (case l17 => k_is)
    (case c17 => k_is)
    (case k17 => k_is)
    (case a18 => k_is)
    (case l18 => k_is)
    (case c18 => k_is)
    (case k18 => k_is)
    (case a19 => k_is)
    (case l19 => k_is)
    (case c19 => k_is)
    (case k19 => k_is)
    (case a20 => k_is)
    (case l20 => k_is)
    (case c20 => k_is)
    (case k20 => k_is)
    (case a21 => k_is)
    (case l21 => k_is)
    (case c21 => k_is)
    (case k21 => k_is)
    (case a22 => k_is)
    (case l22 => k_is)
    (case c22 => k_is)
    (case k22 => k_is)
    (case a23 => k_is)
    (case l23 => k_is)
    (case c23 => k_is)
    (case k23 => k_is)
    (case a24 => k_is)
    (case l24 => k_is)
    (case c24 => k_is)
    (case k24 => k_is)
    (case a25 => k_is)
    (case l25 => k_is)
    (case c25 => k_is)
    (case k25 => k_is)
    (case a26 => k_is)
    (case l26 => k_is)
    (case c26 => k_is)
    (case k26 => k_is)
    (case a27 => k_is)
    (case i27 => k_is)
    (case l27 => k_is)
    (case c27 => k_is)
    (case k27 => k_is)
    (case a28 => k_is)
    (case l28 => k_is)
    (case c28 => k_is)
    (case k28 => k_is)
    (case a29 => k_is)
    (case l29 => k_is)
    (case c29 => k_is)
    (case k29 => k_is)
    (case a30 => k_is)
    (case l30 => k_is)
    (case c30 => k_is)
    (case k30 => k_is)
    (case a31 => k_is)
    (case l31 => k_is)
    (case c31 => k_is)
    (case k31 => k_is)
    (case a32 => k_is)
    (case l32 => k_is)
    (case c32 => k_is)
    (case k32 => k_is)
    (case a33 => k_is)
    (case l33 => k_is)
    (case c33 => k_is)
    (case k33 => k_is)
    (case a34 => k_is)
    (case l34 => k_is)
    (case c34 => k_is)
    (case k34 => k_is)
    (case a35 => k_is)
    (case l35 => k_is)
    (case c35 => k_is)
    (case k35 => k_is)
    (case pg_Machine => k_is)
    (case hd_Machine => k_is)
    (case po_Machine => k_is)
    (case sa_Machine => k_is)
    (case mk_Machine => k_is)
    (case kc_Machine => k_is)
    (case n_events => k_is)
    (case n_standings => k_is)
    (case z_abs => k_is)
    (case z_bool => k_is)
    (case z_enumerate => k_is)
    (case z_int => k_is)
    (case z_isinstance => k_is)
    (case z_len => k_is)
    (case z_list => k_is)
    (case z_range => k_is)
    (case z_str => k_is)
    (case z_sum => k_is)
    (case z_tuple => k_is)
    (case v_MOST_EVENTS => k_is)
    (case v_MOST_POINTS => k_is)
    (case v_MOST_STANDINGS => k_is)
    (case v_MOST_TRIES => k_is)
    (case v_gcd => k_is)
