import PyProof.Rows.All
import Wide.All
import OpenK.AllK
import Wide.FinOn
import HandS.ForMost
import HandS.Iter
import HandS.Wide
import HandS.Gcd
import HandS.Evl
import HandS.TupAny
import HandS.TupMul
import HandS.IsInst
import KE.GoesEnum
import HandS.WideBits
import HandS.Style
import PySem.Challenge.RW_neverleapt_k09_whole_events_parted
set_option Elab.async false
set_option linter.all false
set_option maxRecDepth 100000
set_option maxHeartbeats 4000000
/-! enumerate over a tuple (of mine) -/
namespace EnT
open PySem L2 PyProof.Rows
open AutoSeq1 (wpAny_loadPart')

theorem made_tup (t : Addr) (its : Array Value) (n : Nat) (dd : Option Addr) (sl : Array (Option Value)) :
    Meets (Builtin.«enumerate.__new__» ⟨[.type "enumerate", .ref t], []⟩) (fun _ R s =>
      s.heap.get? t = some { cls := .type "tuple", dict := dd, data := .seq its n, slots := sl } ∧
      R (.ok (.ret (.ref (s.heap.push { cls := .type "tuple_iterator", data := .fields #[.ref t, .int 0 0] }).objs.size)))
        { s with heap := ((s.heap.push { cls := .type "tuple_iterator", data := .fields #[.ref t, .int 0 0] }).push ({ cls := .type "enumerate", data := .fields #[.none, .bool false, .ref s.heap.objs.size, rawInt 0, .none, .none] })) }) :=
  .of_wp fun P w A R s h => by
    obtain ⟨h0, g0, d0, t0, o0⟩ := s
    obtain ⟨ht, h⟩ := h
    have sub := sub_enumerate
    have isT : Heap.IsTuple (Shared.heap ⟨h0, g0, d0, t0, o0⟩) t its := ⟨_, ht, rfl, n, rfl⟩
    wp_walk using wpAny_loadPart' ht
    refine wpAny_stack_any fun z => wpAny_pure ?_
    split
    · rename_i c _ _ _ _ _
      cases (c == Value.type "enumerate") <;>
      · wp_walk using wpAny_loadPart' ht, wpAny_pyIter_tuple isT
        exact ⟨_, rfl, h⟩
    · wp_walk using wpAny_loadPart' ht, wpAny_pyIter_tuple isT
      exact ⟨_, rfl, h⟩

section
variable {prog : Program} {w : World} {A : Around} {E : Value → Shared → Prop} {s : Shared}
theorem call_tup {t : Addr} {its : Array Value} {Q : Value → Shared → Prop} (hT : s.heap.IsTuple t its)
    (h : ∀ h', IsEnum h' (s.heap.objs.size + 1) s.heap.objs.size 0 .none → h'.IsTupleIter s.heap.objs.size t 0 →
      (∀ b o, s.heap.get? b = some o → h'.get? b = some o) → Q (.ref (s.heap.objs.size + 1)) { s with heap := h' }) :
    wpAny (model prog w) A (call (.type "enumerate") [.ref t]) Q E s := by
  obtain ⟨⟨c, dd, dt, sl⟩, ht, hc, n, hd⟩ := hT
  have hc' : c = .type "tuple" := hc
  have hd' : dt = .seq its n := hd
  subst hc' hd'
  refine callType_new F.called_enumerate (by decide) (F.typeCall_enumerate_1 _) (F.newCall_enumerate_1 _) (fun o => F.args_object_init_2 o _) F.entry_enumerate_new
    (made_tup t its n dd sl) ⟨ht, ?_⟩
  have z : (s.heap.push { cls := .type "tuple_iterator", data := .fields #[.ref t, .int 0 0] }).objs.size = s.heap.objs.size + 1 := Heap.size_push ..
  show _ ∧ _
  rw [z]
  have e : IsEnum ((s.heap.push { cls := .type "tuple_iterator", data := .fields #[.ref t, .int 0 0] }).push
      { cls := .type "enumerate", data := .fields #[.none, .bool false, .ref s.heap.objs.size, rawInt 0, .none, .none] }) (s.heap.objs.size + 1) s.heap.objs.size 0 .none := by
    have q := Heap.get?_push_size (s.heap.push { cls := .type "tuple_iterator", data := .fields #[.ref t, .int 0 0] })
      (o := { cls := .type "enumerate", data := .fields #[.none, .bool false, .ref s.heap.objs.size, rawInt 0, .none, .none] }) rfl
    rw [z] at q
    exact q
  exact ⟨⟨_, e, rfl⟩, h _ e ⟨_, Heap.get?_push_of_some _ (Heap.get?_push_size _ rfl), rfl, rfl⟩ fun b o x => Heap.get?_push_of_some _ (Heap.get?_push_of_some _ x)⟩
end

/-- the items of the tuple at a, each in a new pair with its place -/
def Ett (K : PySem.W.Frag) (a : Addr) : It where
  go i H := ∃ (xs : List V) (x : V), SqT K H a xs ∧ xs[i]? = some x
  yld i H v H' := ∃ T x, v = .ref T ∧ H T = none ∧ H' = upd H T (.tup [.int (i : Nat), x]) ∧ ∀ xs, SqT K H a xs → xs[i]? = some x
  stop i H := ∃ xs : List V, SqT K H a xs ∧ xs.length = i

def St (a e it : Addr) (i : Nat) (h : Heap) : Prop := (∃ old, IsEnum h e it ((i : Nat) : Int) old) ∧ h.IsTupleIter it a i ∧ e ≠ it

theorem apart {h : Heap} {it a : Addr} {i : Nat} {its : Array Value} (h1 : h.IsTupleIter it a i) (h2 : h.IsTuple a its) : a ≠ it := by
  obtain ⟨o, e, c, _⟩ := h1
  obtain ⟨o', e', c', _⟩ := h2
  intro z
  rw [z, e] at e'
  cases e'
  rw [c] at c'
  exact absurd c' (by decide)

theorem turn {P : Program} {w : World} {K : PySem.W.Frag} {elts : List Expr} {kk : Nat} {tpos : Pos} (a e it : Addr) :
    Turn P w K (.Tuple elts kk tpos) (Ett K a) [e, it] e (St a e it) where
  mem := by simp
  obj := fun i h st b hb => by
    obtain ⟨⟨old, he⟩, ⟨o, ho, hc, hd⟩, _⟩ := st
    rcases (by simpa using hb : b = e ∨ b = it) with z | z
    · subst z; exact ⟨_, he, fun v q => nomatch q⟩
    · subst z; exact ⟨o, ho, fun v q => by rw [hd] at q; cases q⟩
  keep := fun i h h' st k => by
    obtain ⟨⟨old, he⟩, hi, hne⟩ := st
    exact ⟨⟨old, k e (by simp) _ he⟩, hi.at fun o q => k it (by simp) o q, hne⟩
  item := by
    intro X hP hw hK hc i pins s σ H E I hf st hg
    subst hP hw hK
    obtain ⟨⟨old, he⟩, hit, hne⟩ := st
    obtain ⟨xs, x, hq, hx⟩ := hg
    obtain ⟨its, rv, p, hz⟩ := I.tuple hq
    have isT : s.heap.IsTuple a its.toArray := p
    obtain ⟨u, hu, ru⟩ := rv.get hx
    have hu' : its.toArray[i]? = some u := by simpa using hu
    have hlt : i < its.toArray.size := by
      obtain ⟨q, _⟩ := Array.getElem?_eq_some_iff.mp hu'
      exact q
    have hai := apart hit isT
    have hae : a ≠ e := by
      intro z
      obtain ⟨o', e', c', _⟩ := isT
      have he' : s.heap.get? e = some _ := he
      rw [z, he'] at e'
      cases e'
      exact absurd (show Value.type "enumerate" = Value.type "tuple" from c') (by decide)
    have hel : e < s.heap.objs.size := Heap.lt_size he
    have hil : it < s.heap.objs.size := by obtain ⟨_, q, _⟩ := hit; exact Heap.lt_size q
    refine wpAny_pyNext_enum_itemD (Draws.tuple (prog := X.prog) (w := X.w) (A := X.A.in1) (I.ok.hd hc) it a hai its.toArray) he ⟨hit, isT⟩ hlt hne
      (by simp only [List.mem_cons, List.not_mem_nil, or_false, not_or]; exact ⟨hne, fun z => hae z.symm⟩) fun v h' tk hv ho st' hT hsz hk => ?_
    have ev : v = u := by
      have q : its.toArray[i]? = some v := hv
      rw [hu'] at q
      exact (Option.some.inj q).symm
    subst ev
    refine ⟨_, rfl, wpAny_letOwnedTupleGo_enum (s := { s with heap := h', toks := tk + 1 }) ho fun h'' he' sb => ?_⟩
    have hT2 : h''.get? s.heap.objs.size = some { cls := .type "tuple", data := .seq #[.int i tk, v] } := (sb.2 _ (Nat.ne_of_gt hel)).trans hT
    have new : ObjOk X.prog X.w (upd H s.heap.objs.size (.tup [.int (i : Nat), x])) h'' s.heap.objs.size (.tup [.int (i : Nat), x]) :=
      ⟨(by show 2 ≤ sizeLine; decide), [.int i tk, v], .cons ⟨_, rfl⟩ (.cons ru .nil), ⟨_, hT2, rfl, _, rfl⟩⟩
    have J : Inv X pins σ (upd H s.heap.objs.size (.tup [.int (i : Nat), x])) { s with heap := h'', toks := tk + 1 } :=
      I.turnedNew (ch := [e, it]) (fun b ob hb q => (sb.2 b (fun z => hb (by simp [z]))).trans (hk b ob (fun z => hb (by simp [z])) (fun z => hb (by simp [z])) q)) hf (Nat.le_refl _) new
    refine ⟨.ref s.heap.objs.size, _, J, rfl, ⟨_, x, rfl, I.hok.fresh (Nat.le_refl _), rfl, fun ys hy => by rw [I.tuple_inj hy hq]; exact hx⟩, ⟨⟨v, ?_⟩, st'.1.at fun o q => (sb.2 it (Ne.symm hne)).trans q, hne⟩, fun b hb => ?_⟩
    · have e1 : ((i + 1 : Nat) : Int) = (i : Int) + 1 := by omega
      rw [e1]
      exact he'
    · have hb' : b < s.heap.objs.size := by
        rcases (by simpa using hb : b = e ∨ b = it) with z | z
        · rw [z]; exact hel
        · rw [z]; exact hil
      rw [upd_ne (Nat.ne_of_lt hb')]
      exact (hf b hb).1
  done := by
    intro X hP hw hK hc i pins s σ H E I hf st hg
    subst hP hw hK
    obtain ⟨⟨old, he⟩, hit, hne⟩ := st
    obtain ⟨xs, hq, hx⟩ := hg
    obtain ⟨its, rv, p, hz⟩ := I.tuple hq
    have isT : s.heap.IsTuple a its.toArray := p
    obtain ⟨f0, f1, f2, f3, f4, f5⟩ := hf it (by simp)
    have hl := rv.length
    have hai := apart hit isT
    have hn : i = its.toArray.size := by simp; omega
    subst hn
    exact wpAny_pyNext_enum_endD (Draws.tuple (prog := X.prog) (w := X.w) (A := X.A.in1) (I.ok.hd hc) it a hai its.toArray) he ⟨hit, isT⟩ fun h' eb =>
      ⟨rfl, I.turned (t' := s.toks) (fun b o hb q => eb b o hb q) f0 f1 f3 f4 f5⟩
  self := fun A i s Q E st h => by
    obtain ⟨⟨_, he⟩, _⟩ := st
    exact wpAny_pyIter_enum he h
def iEnT (K : PySem.W.Frag) (ta : TA) : TI := fun σ H R => ta σ H fun vs H1 => ∃ a xs, vs = [.ref a] ∧ SqT K H1 a xs ∧ R (Ett K a) H1
theorem pi_enumT {X : Cx} {e : Expr} {ta : TA} {p pos tpos : Pos} {elts : List Expr} {kk : Nat} (hg : Gl X "enumerate") (hm : X.mg "enumerate" = none) (ha : PA X [e] ta)
    (hs : starEach [e] X.env = [(false, eval e X.env)] := by rfl) : PI X (.Tuple elts kk tpos) (.Call (.Name "enumerate" p) [e] [] pos) (iEnT X.K ta) := by
  refine ⟨fun pins s σ H R I h => ?_⟩
  refine Call_ (ld_blt I hg hm boot_enumerate (PyProof.Rows.callWith_type1 (thn (ha.run pos pins s σ H _ I h) fun us s1 z => ?_) hs rfl))
  obtain ⟨vs, H1, I1, r1, a, xs, ex, hq, q⟩ := z
  subst ex
  cases r1 with
  | cons r rr =>
    cases rr
    cases r
    obtain ⟨its, rv, p', hz⟩ := I1.tuple hq
    refine call_tup (show s1.heap.IsTuple a its.toArray from p') fun h' he hit hk => wpAny_pyIter_enum he ?_
    have J : Inv X pins σ H1 { s1 with heap := h' } := I1.kept (t' := s1.toks) hk
    refine ⟨s1.heap.objs.size + 1, [s1.heap.objs.size + 1, s1.heap.objs.size], _, _, H1, rfl, J, turn a (s1.heap.objs.size + 1) s1.heap.objs.size, ⟨⟨.none, he⟩, hit, Nat.succ_ne_self _⟩, fun b hb => ?_, q⟩
    have le : s1.heap.objs.size ≤ b := by
      rcases (by simpa using hb : b = s1.heap.objs.size + 1 ∨ b = s1.heap.objs.size) with z | z
      · rw [z]; exact Nat.le_succ _
      · rw [z]; exact Nat.le_refl _
    exact I1.fpOk le (I1.hok.fresh le)
/-- for i, x in enumerate(t): an invariant by the turn -/
theorem for_enT {K : PySem.W.Frag} {a : Addr} {xs : List V} {g : TG} {tb : TS} {D : Ends} {σ : L2.St} {H : Hp} (Pv : Nat → L2.St → Hp → Prop) (h0 : Pv 0 σ H) (hl : ∀ i σ H, i ≤ xs.length → Pv i σ H → SqT K H a xs)
    (hs : ∀ i x σ H T, xs[i]? = some x → Pv i σ H → H T = none → g (.ref T) σ (upd H T (.tup [.int (i : Nat), x])) fun σ2 H2 => tb { D with nx := Pv (i + 1), ct := Pv (i + 1), bk := D.nx } σ2 H2) (hd : ∀ σ H, Pv xs.length σ H → D.nx σ H) :
    ∃ W : Nat → Nat → L2.St → Hp → Prop, (∃ m, W 0 m σ H) ∧ ∀ i m σ H, W i m σ H →
      ((Ett K a).stop i H ∧ D.nx σ H) ∨ ((Ett K a).go i H ∧ ∃ N : L2.St → Hp → Prop, (∀ σ' H', N σ' H' → ∃ m', m' < m ∧ W (i + 1) m' σ' H') ∧ ∀ x H', (Ett K a).yld i H x H' → g x σ H' fun σ2 H2 => tb { D with nx := N, ct := N, bk := D.nx } σ2 H2) := by
  refine ⟨fun i m σ H => m = xs.length - i ∧ i ≤ xs.length ∧ Pv i σ H, ⟨xs.length, by simp, Nat.zero_le _, h0⟩, ?_⟩
  rintro i m σ H ⟨rfl, hi, p⟩
  have q := hl i σ H hi p
  by_cases hlt : i < xs.length
  · refine .inr ⟨⟨xs, xs[i], q, by simp [hlt]⟩, Pv (i + 1), fun σ' H' p' => ⟨xs.length - (i + 1), by omega, rfl, hlt, p'⟩, ?_⟩
    rintro v H' ⟨T, x, rfl, hT, rfl, hx⟩
    exact hs i x σ H T (hx xs q) p hT
  · have e : i = xs.length := by omega
    subst e
    exact .inl ⟨⟨xs, q, rfl⟩, hd σ H p⟩
end EnT

/-! what all my proofs use: frames, tuples of ints, the pot -/
namespace My
open PySem L2

theorem hu64 {k : Nat} {A : Around} (hr : Room k A) : A.units + 64 < cLine := by have := hr.un; omega

/-! ### frames -/
/-- an object that never changes in these programs -/
def Im : HO → Bool
  | .tup _ => true
  | .ins _ _ _ => true
  | .frz _ _ => true
  | _ => false
def Keep (H H' : Hp) : Prop := ∀ b o, Im o = true → H b = some o → H' b = some o
/-- all but these addresses is kept -/
def But (l : List Addr) (H H' : Hp) : Prop := ∀ b o, b ∉ l → H b = some o → H' b = some o
theorem Keep.refl (H : Hp) : Keep H H := fun _ _ _ h => h
theorem Keep.trans {H H1 H2 : Hp} (a : Keep H H1) (b : Keep H1 H2) : Keep H H2 := fun c o i h => b c o i (a c o i h)
theorem But.refl (l : List Addr) (H : Hp) : But l H H := fun _ _ _ h => h
theorem But.trans {l : List Addr} {H H1 H2 : Hp} (a : But l H H1) (b : But l H1 H2) : But l H H2 := fun c o i h => b c o i (a c o i h)
theorem But.of {l : List Addr} {H H' : Hp} (a : Same H H') : But l H H' := fun c o _ h => a c o h
theorem Keep.of {H H' : Hp} (a : Same H H') : Keep H H' := fun c o _ h => a c o h
theorem Same.new {H : Hp} {p : Addr} {o : HO} (h : H p = none) : Same H (upd H p o) := fun b u e => by
  rw [upd_ne (ne_of_none e h)]
  exact e
/-- a list may change -/
theorem Keep.lst {H : Hp} {p : Addr} {xs : List V} {o : HO} (h : H p = some (.lst xs)) : Keep H (upd H p o) := fun b u i e => by
  have n : b ≠ p := fun z => by
    rw [z, h] at e
    cases e
    cases i
  rw [upd_ne n]
  exact e
theorem Keep.new {H : Hp} {p : Addr} {o : HO} (h : H p = none) : Keep H (upd H p o) := Keep.of (Same.new h)
theorem But.at {l : List Addr} {H : Hp} {p : Addr} {o : HO} (h : p ∈ l) : But l H (upd H p o) := fun b u i e => by
  rw [upd_ne (fun z => i (by rw [z]; exact h))]
  exact e
theorem But.new {l : List Addr} {H : Hp} {p : Addr} {o : HO} (h : H p = none) : But l H (upd H p o) := But.of (Same.new h)

theorem But.chg {l : List Addr} {H H' : Hp} {p : Addr} {o : HO} (e : But l H H') (h : H p = none) : But l H (upd H' p o) := fun b u i z => by
  rw [upd_ne (ne_of_none z h)]
  exact e b u i z
theorem Same.chg {H H' : Hp} {p : Addr} {o : HO} (e : Same H H') (h : H p = none) : Same H (upd H' p o) := fun b u z => by
  rw [upd_ne (ne_of_none z h)]
  exact e b u z

variable {K : PySem.W.Frag}
theorem SqT.keep {H H' : Hp} {a : Addr} {xs : List V} (e : Keep H H') (h : SqT K H a xs) : SqT K H' a xs := by
  rcases h with (h | ⟨o, h⟩) | h
  · exact .inl (.inl (e _ _ rfl h))
  · exact .inl (.inr ⟨o, e _ _ rfl h⟩)
  · exact .inr h
theorem SqT.lt {H : Hp} {a : Addr} {xs : List V} (h : H a = some (.tup xs)) : SqT K H a xs := .inl (.inl h)
theorem SqL.lt {H : Hp} {a : Addr} {xs : List V} (h : H a = some (.lst xs)) : SqL K H a xs := .inl (.inl h)

/-! ### two lists place by place -/
inductive All2 {α β : Type} (R : α → β → Prop) : List α → List β → Prop
  | nil : All2 R [] []
  | cons {a b as bs} : R a b → All2 R as bs → All2 R (a :: as) (b :: bs)
theorem All2.len {α β : Type} {R : α → β → Prop} {as : List α} {bs : List β} (h : All2 R as bs) : as.length = bs.length := by
  induction h with
  | nil => rfl
  | cons _ _ ih => simp [ih]
theorem All2.get {α β : Type} {R : α → β → Prop} {as : List α} {bs : List β} (h : All2 R as bs) : ∀ {i : Nat} {b : β}, bs[i]? = some b → ∃ a, as[i]? = some a ∧ R a b := by
  induction h with
  | nil => intro i b e; simp at e
  | @cons a b as bs r t ih =>
    intro i y e
    cases i with
    | zero =>
      have e' : b = y := by simpa using e
      subst e'
      exact ⟨a, by simp, r⟩
    | succ i =>
      obtain ⟨x, h1, h2⟩ := ih (i := i) (b := y) (by simpa using e)
      exact ⟨x, by simpa using h1, h2⟩
theorem All2.getL {α β : Type} {R : α → β → Prop} {as : List α} {bs : List β} (h : All2 R as bs) : ∀ {i : Nat} {a : α}, as[i]? = some a → ∃ b, bs[i]? = some b ∧ R a b := by
  induction h with
  | nil => intro i b e; simp at e
  | @cons a b as bs r t ih =>
    intro i y e
    cases i with
    | zero =>
      have e' : a = y := by simpa using e
      subst e'
      exact ⟨b, by simp, r⟩
    | succ i =>
      obtain ⟨x, h1, h2⟩ := ih (i := i) (a := y) (by simpa using e)
      exact ⟨x, by simpa using h1, h2⟩
theorem All2.imp {α β : Type} {R S : α → β → Prop} {as : List α} {bs : List β} (h : All2 R as bs) (f : ∀ a b, R a b → S a b) : All2 S as bs := by
  induction h with
  | nil => exact .nil
  | cons r _ ih => exact .cons (f _ _ r) ih
theorem All2.app {α β : Type} {R : α → β → Prop} {as cs : List α} {bs ds : List β} (h : All2 R as bs) (g : All2 R cs ds) : All2 R (as ++ cs) (bs ++ ds) := by
  induction h with
  | nil => exact g
  | cons r _ ih => exact .cons r ih
theorem All2.snoc {α β : Type} {R : α → β → Prop} {as : List α} {bs : List β} {a : α} {b : β} (h : All2 R as bs) (r : R a b) : All2 R (as ++ [a]) (bs ++ [b]) := h.app (.cons r .nil)
theorem All2.take {α β : Type} {R : α → β → Prop} {as : List α} {bs : List β} (h : All2 R as bs) : ∀ n : Nat, All2 R (as.take n) (bs.take n) := by
  induction h with
  | nil => intro n; simp; exact .nil
  | cons r _ ih =>
    intro n
    cases n with
    | zero => simp; exact .nil
    | succ n => simpa using .cons r (ih n)
theorem All2.map {α β γ : Type} {R : α → β → Prop} (f : γ → α) (g : γ → β) : ∀ (l : List γ), (∀ x ∈ l, R (f x) (g x)) → All2 R (l.map f) (l.map g)
  | [], _ => .nil
  | x :: l, h => .cons (h x (by simp)) (All2.map f g l fun y hy => h y (by simp [hy]))
theorem take_succ {α : Type} {l : List α} {i : Nat} {x : α} (h : l[i]? = some x) : l.take (i + 1) = l.take i ++ [x] := by
  rw [List.take_add_one, h]
  rfl

/-! ### tuples of ints, tuples of such -/
def IT (K : PySem.W.Frag) (H : Hp) (v : V) (ns : List Int) : Prop := ∃ q, v = .ref q ∧ SqT K H q (ns.map V.int)
theorem IT.keep {H H' : Hp} {v : V} {ns : List Int} (e : Keep H H') (h : IT K H v ns) : IT K H' v ns := by
  obtain ⟨q, h1, h2⟩ := h
  exact ⟨q, h1, SqT.keep e h2⟩
theorem IT.new {H : Hp} {p : Addr} {ns : List Int} {xs : List V} (e : xs = ns.map V.int) : IT K (upd H p (.tup xs)) (.ref p) ns := ⟨p, rfl, by
  rw [← e]
  exact SqT.lt upd_same⟩
def ITs (K : PySem.W.Frag) (H : Hp) (v : V) (nss : List (List Int)) : Prop := ∃ q xs, v = .ref q ∧ SqT K H q xs ∧ All2 (IT K H) xs nss
theorem ITs.keep {H H' : Hp} {v : V} {ns : List (List Int)} (e : Keep H H') (h : ITs K H v ns) : ITs K H' v ns := by
  obtain ⟨q, xs, h1, h2, h3⟩ := h
  exact ⟨q, xs, h1, SqT.keep e h2, h3.imp fun _ _ z => z.keep e⟩

/-! ### readings of an item -/
theorem at_ge {α : Type} {xs : List α} {i : Int} {v : α} (h0 : 0 ≤ i) (h : xs[i.toNat]? = some v) : atI xs i = some v := by
  have e := atI_nat h
  rw [Int.toNat_of_nonneg h0] at e
  exact e
/-- an int of a tuple of ints -/
theorem ixI {H : Hp} {x : V} {ns : List Int} {i n : Int} {Q : V → Prop} (h : IT K H x ns) (h0 : 0 ≤ i) (hn : ns[i.toNat]? = some n) (q : Q (.int n)) :
    ∃ p xs j v, x = .ref p ∧ (V.int i) = .int j ∧ SqT K H p xs ∧ atI xs j = some v ∧ Q v := by
  obtain ⟨a, e, s⟩ := h
  exact ⟨a, _, i, .int n, e, rfl, s, at_ge h0 (by rw [List.getElem?_map, hn]; rfl), q⟩
/-- a tuple of a tuple of such -/
theorem ixT {H : Hp} {x : V} {nss : List (List Int)} {i : Int} {ns : List Int} {Q : V → Prop} (h : ITs K H x nss) (h0 : 0 ≤ i) (hn : nss[i.toNat]? = some ns) (q : ∀ v, IT K H v ns → Q v) :
    ∃ p xs j v, x = .ref p ∧ (V.int i) = .int j ∧ SqT K H p xs ∧ atI xs j = some v ∧ Q v := by
  obtain ⟨a, xs, e, s, al⟩ := h
  obtain ⟨v, hv, r⟩ := al.get hn
  exact ⟨a, _, i, v, e, rfl, s, at_ge h0 hv, q v r⟩
/-- len -/
theorem lenT {H : Hp} {x : V} {nss : List (List Int)} {Q : List V → Prop} (h : ITs K H x nss) (q : ∀ ys : List V, ys.length = nss.length → Q ys) : ∃ p ys, [x] = [V.ref p] ∧ (SqL K H p ys ∨ SqT K H p ys) ∧ Q ys := by
  obtain ⟨a, xs, e, s, al⟩ := h
  exact ⟨a, xs, by rw [e], .inr s, q _ al.len⟩
theorem lenI {H : Hp} {x : V} {ns : List Int} {Q : List V → Prop} (h : IT K H x ns) (q : ∀ ys : List V, ys.length = ns.length → Q ys) : ∃ p ys, [x] = [V.ref p] ∧ (SqL K H p ys ∨ SqT K H p ys) ∧ Q ys := by
  obtain ⟨a, e, s⟩ := h
  exact ⟨a, _, by rw [e], .inr s, q _ (List.length_map _)⟩

/-! ### the pot -/
structure Pt where
  a : Addr
  g : Addr
  s : Addr
def Pt.At (p : Pt) (H : Hp) : Prop := p.g ≠ p.s ∧ ∃ (gs ss : List Int) (t n : Int), H p.a = some (.lst [.ref p.g, .ref p.s, .int t, .int n]) ∧ H p.g = some (.lst (gs.map V.int)) ∧ H p.s = some (.lst (ss.map V.int)) ∧ ss ≠ []
def Pt.l (p : Pt) : List Addr := [p.a, p.g]
theorem Pt.At.same {p : Pt} {H H' : Hp} (h : p.At H) (e : Same H H') : p.At H' := by
  obtain ⟨h1, gs, ss, t, n, h2, h3, h4, h5⟩ := h
  exact ⟨h1, gs, ss, t, n, e _ _ h2, e _ _ h3, e _ _ h4, h5⟩
/-- what the pot isn't may change too -/
theorem Pt.At.but {p : Pt} {H H' : Hp} {l : List Addr} (h : p.At H) (e : But l H H') (ha : p.a ∉ l) (hg : p.g ∉ l) (hs : p.s ∉ l) : p.At H' := by
  obtain ⟨h1, gs, ss, t, n, h2, h3, h4, h5⟩ := h
  exact ⟨h1, gs, ss, t, n, e _ _ ha h2, e _ _ hg h3, e _ _ hs h4, h5⟩
theorem Pt.At.keep {p : Pt} {H H' : Hp} (h : p.At H) (e : But p.l H H') : Keep H H' := fun b o i hb => by
  obtain ⟨h1, gs, ss, t, n, h2, h3, h4, h5⟩ := h
  refine e b o (fun z => ?_) hb
  have z' : b = p.a ∨ b = p.g := by simpa [Pt.l] using z
  rcases z' with z | z
  · rw [z, h2] at hb
    cases hb
    cases i
  · rw [z, h3] at hb
    cases hb
    cases i
/-- a new object isn't of the pot -/
theorem Pt.At.fresh {p : Pt} {H : Hp} (h : p.At H) {D : Addr} (n : H D = none) : D ≠ p.a ∧ D ≠ p.g ∧ D ≠ p.s := by
  obtain ⟨h1, gs, ss, t, n', h2, h3, h4, h5⟩ := h
  refine ⟨fun z => ?_, fun z => ?_, fun z => ?_⟩
  · rw [z, h2] at n; cases n
  · rw [z, h3] at n; cases n
  · rw [z, h4] at n; cases n
theorem Pt.out {p : Pt} {D : Addr} (h : D ≠ p.a ∧ D ≠ p.g ∧ D ≠ p.s) : D ∉ p.l := by
  simp [Pt.l]
  exact ⟨h.1, h.2.1⟩
def small (n : Int) : Prop := n.natAbs < 2 ^ 200
/-- a draw: some number below many, whatever the script -/
def spDraw : Sp := fun vs H Q _ => ∃ (p : Pt) (many : Int), vs = [.ref p.a, .int many] ∧ p.At H ∧ 0 < many ∧ small many ∧
  ∀ (r : Int) (H' : Hp), 0 ≤ r → r < many → p.At H' → But p.l H H' → Q (.int r) H'
/-- the pot of a script -/
def spPot (K : PySem.W.Frag) : Sp := fun vs H Q _ => ∃ (a : Addr) (ns : List Int), vs = [.ref a] ∧ SqL K H a (ns.map V.int) ∧ ns.length ≤ 63 ∧
  ∀ (p : Pt) (H' : Hp), p.At H' → Same H H' → H p.a = none → Q (.ref p.a) H'
/-! ### comprehensions from ints to ints -/
theorem lcI {K : PySem.W.Frag} {a D : Addr} {ns : List Int} {g : TG} {tt : L2.TT} {te : TE} {vs : List Nat} {σ : L2.St} {H1 : Hp} {Qd : Hp → Prop} (f : Int → Bool) (e : Int → Int)
    (hS : SqL K H1 a (ns.map V.int)) (hD : H1 D = none) (hl : ns.length < sizeLine)
    (hs : ∀ (n : Int) (H : Hp) (Q1 : Hp → Prop) (Q2 : V → Hp → Prop), n ∈ ns → (f n = true → Q2 (.int (e n)) H) → (f n = false → Q1 H) → g (.int n) (wipe σ vs) H fun σ2 H2 => wipe σ2 vs = wipe σ vs ∧ tt σ2 H2 fun b H3 => if b = true then te σ2 H3 Q2 else Q1 H3)
    (hd : Qd (upd H1 D (.lst (((ns.filter f).map e).map V.int)))) :
    ∃ W : Nat → Nat → Hp → Prop, (∃ m, W 0 m (upd H1 D (.lst []))) ∧ ∀ i m H, W i m H →
      ((Itl K a).stop i H ∧ Qd H) ∨ ((Itl K a).go i H ∧ ∃ Nx : Hp → Prop, (∀ H', Nx H' → ∃ m', m' < m ∧ W (i + 1) m' H') ∧ ∀ x H', (Itl K a).yld i H x H' → g x (wipe σ vs) H' fun σ2 H2 => wipe σ2 vs = wipe σ vs ∧ tt σ2 H2 fun b H3 =>
        if b = true then te σ2 H3 fun y H4 => ∃ acc, H4 D = some (.lst acc) ∧ acc.length < sizeLine ∧ Nx (upd H4 D (.lst (acc ++ [y]))) else Nx H3) := by
  have sub : ∀ (H : Hp) (l : List V), H = upd H1 D (.lst l) → SqL K H a (ns.map V.int) := fun H l q => by
    rw [q]
    exact Same.seq (Same.new hD) hS
  refine lc_list (K := K) (a := a) (xs := ns.map V.int) (fun i H => H = upd H1 D (.lst ((((ns.take i).filter f).map e).map V.int))) rfl (fun i H _ q => sub H _ q) ?_ (fun H q => ?_)
  · intro i x H hi q
    obtain ⟨n, hn, rfl⟩ : ∃ n, ns[i]? = some n ∧ x = V.int n := by
      rw [List.getElem?_map] at hi
      cases z : ns[i]? with
      | none => rw [z] at hi; cases hi
      | some n => rw [z] at hi; exact ⟨n, rfl, (Option.some.inj hi).symm⟩
    have tk := take_succ hn
    have len : (((ns.take i).filter f).map e).length < sizeLine := by
      rw [List.length_map]
      have q1 := List.length_filter_le f (ns.take i)
      have q2 := List.length_take_le i ns
      rw [List.length_take] at q1
      omega
    refine hs n H _ _ (List.mem_of_getElem? hn) (fun c => ⟨_, by rw [q]; exact upd_same, by rw [List.length_map]; exact len, ?_⟩) (fun c => ?_)
    · show upd H D _ = _
      rw [tk, q, upd_upd, List.filter_append, List.map_append, List.map_append]
      simp [c]
    · show H = _
      rw [tk, q, List.filter_append]
      simp [c]
  · rw [List.length_map, List.take_length] at q
    rw [q]
    exact hd
/-! ### events, machines, runs -/
def Four (e : List Int) : Prop := ∃ b a t p, e = [b, a, t, p]
def okEv (n : Int) (e : List Int) : Prop := ∃ b a t p, e = [b, a, t, p] ∧ 0 ≤ b ∧ b < n ∧ 0 ≤ a ∧ a < n ∧ 1 ≤ t ∧ t ≤ 40 ∧ -400 ≤ p ∧ p ≤ 400
theorem okEv.four {n : Int} {e : List Int} (h : okEv n e) : Four e := by
  obtain ⟨b, a, t, p, h, _⟩ := h
  exact ⟨b, a, t, p, h⟩
def evB (e : List Int) : Int := e.getD 0 0
def evA (e : List Int) : Int := e.getD 1 0
def evT (e : List Int) : Int := e.getD 2 0
def evP (e : List Int) : Int := e.getD 3 0
def mf (n : Int) (w : V) : List (Str × V) := putF "events" w (putF "standings" (.int n) [])
theorem es_ : ¬ (("events" : Str) = "standings") := by decide +kernel
theorem se_ : ¬ (("standings" : Str) = "events") := by decide +kernel
theorem mf_st (n : Int) (w : V) : (mf n w).lookup ("standings" : Str) = some (.int n) := by
  unfold mf
  rw [lookup_putF, if_neg se_, lookup_putF, if_pos rfl]
theorem mf_ev (n : Int) (w : V) : (mf n w).lookup ("events" : Str) = some w := by
  unfold mf
  rw [lookup_putF, if_pos rfl]
def MachAt (K : PySem.W.Frag) (C : Addr) (H : Hp) (v : V) (n : Int) (evs : List (List Int)) : Prop :=
  ∃ m dx w, v = .ref m ∧ H m = some (.ins C dx (mf n w)) ∧ ITs K H w evs
theorem MachAt.keep {C : Addr} {H H' : Hp} {v : V} {n : Int} {evs : List (List Int)} (e : Keep H H') (h : MachAt K C H v n evs) : MachAt K C H' v n evs := by
  obtain ⟨m, dx, w, h1, h2, h3⟩ := h
  exact ⟨m, dx, w, h1, e _ _ rfl h2, h3.keep e⟩
/-- machine.events, machine.standings -/
theorem fldE {C : Addr} {H : Hp} {x : V} {n : Int} {evs : List (List Int)} {Q : V → Prop} (h : MachAt K C H x n evs) (c : Cls K C) (na : NoAttr K C "events") (q : ∀ w, ITs K H w evs → Q w) :
    ∃ a C' dx fs v, x = .ref a ∧ H a = some (.ins C' dx fs) ∧ Cls K C' ∧ NoAttr K C' "events" ∧ fs.lookup ("events" : Str) = some v ∧ Q v := by
  obtain ⟨m, dx, w, h1, h2, h3⟩ := h
  exact ⟨m, C, dx, _, w, h1, h2, c, na, mf_ev n w, q w h3⟩
theorem fldS {C : Addr} {H : Hp} {x : V} {n : Int} {evs : List (List Int)} {Q : V → Prop} (h : MachAt K C H x n evs) (c : Cls K C) (na : NoAttr K C "standings") (q : Q (.int n)) :
    ∃ a C' dx fs v, x = .ref a ∧ H a = some (.ins C' dx fs) ∧ Cls K C' ∧ NoAttr K C' "standings" ∧ fs.lookup ("standings" : Str) = some v ∧ Q v := by
  obtain ⟨m, dx, w, h1, h2, h3⟩ := h
  exact ⟨m, C, dx, _, _, h1, h2, c, na, mf_st n w, q⟩
/-- where a row of events leads from a standing, if it is one -/
def walkTo (evs : List (List Int)) : Int → List Int → Option Int
  | s, [] => some s
  | s, k :: r => if 0 ≤ k ∧ k < (evs.length : Int) ∧ evB (evs.getD k.toNat []) = s then walkTo evs (evA (evs.getD k.toNat [])) r else none
theorem walkTo_app (evs : List (List Int)) : ∀ (r q : List Int) (s : Int), walkTo evs s (r ++ q) = (walkTo evs s r).bind fun t => walkTo evs t q
  | [], q, s => rfl
  | k :: r, q, s => by
    show (if _ then walkTo evs _ (r ++ q) else none) = (if _ then walkTo evs _ r else none).bind _
    split
    · exact walkTo_app evs r q _
    · rfl
/-! ### types -/
theorem tyT {H : Hp} {a : Addr} {xs : List V} (h : SqT K H a xs) : TyX K H (.ref a) (.type "tuple") := by
  rcases h with (h | ⟨o, h⟩) | ⟨o, its, n, h, c, _⟩
  · exact .base (.tup h)
  · exact .fTuple h
  · exact .kTuple h c
theorem isT {H : Hp} {x : V} {a : Addr} {xs : List V} {Q : Bool → Prop} (e : x = .ref a) (h : SqT K H a xs) (q : Q true) :
    ∃ (y c : V) (s u : Value) (b : Bool), [x, V.ty "tuple"] = [y, c] ∧ ClsV c u ∧ TyX K H y s ∧ PySem.W.kitOne K s u = some b ∧ Q b := ⟨x, .ty "tuple", .type "tuple", .type "tuple", true, rfl, .ty _, (by rw [e]; exact tyT h), kit_ty (by decide +kernel), q⟩
theorem isI {H : Hp} {n : Int} {Q : Bool → Prop} (q : Q true) : ∃ (y c : V) (s u : Value) (b : Bool), [V.int n, V.ty "int"] = [y, c] ∧ ClsV c u ∧ TyX K H y s ∧ PySem.W.kitOne K s u = some b ∧ Q b := ⟨_, _, _, _, true, rfl, .ty _, .base (.int _), kit_ty (by decide +kernel), q⟩
theorem niB {H : Hp} {n : Int} {Q : Bool → Prop} (q : Q false) : ∃ (y c : V) (s u : Value) (b : Bool), [V.int n, V.ty "bool"] = [y, c] ∧ ClsV c u ∧ TyX K H y s ∧ PySem.W.kitOne K s u = some b ∧ Q b := ⟨_, _, _, _, false, rfl, .ty _, .base (.int _), kit_ty (by decide +kernel), q⟩
theorem isLs {H : Hp} {x : V} {a : Addr} {xs : List V} {Q : Bool → Prop} (e : x = .ref a) (h : H a = some (.lst xs)) (q : Q true) :
    ∃ (y c : V) (s u : Value) (b : Bool), [x, V.ty "list"] = [y, c] ∧ ClsV c u ∧ TyX K H y s ∧ PySem.W.kitOne K s u = some b ∧ Q b := ⟨x, .ty "list", .type "list", .type "list", true, rfl, .ty _, (by rw [e]; exact .base (.lst h)), kit_ty (by decide +kernel), q⟩
/-- a comprehension over a tuple, without a test, each item's value told by a list -/
theorem lcGT {β : Type} {K : PySem.W.Frag} {a D : Addr} {xs : List V} {bs : List β} {R : Hp → V → β → Prop} {g : TG} {tt : L2.TT} {te : TE} {vs : List Nat} {σ : L2.St} {H1 : Hp} {Qd : Hp → Prop}
    (hS : SqT K H1 a xs) (hD : H1 D = none) (hl : bs.length < sizeLine) (el : xs.length = bs.length) (mono : ∀ H H' v b, Keep H H' → R H v b → R H' v b)
    (hs : ∀ (i : Nat) (x : V) (b : β) (H : Hp) (Q1 : Hp → Prop) (Q2 : V → Hp → Prop), xs[i]? = some x → bs[i]? = some b → Same H1 H → (∀ y H', Same H H' → R H' y b → Q2 y H') →
      g x (wipe σ vs) H fun σ2 H2 => wipe σ2 vs = wipe σ vs ∧ tt σ2 H2 fun b H3 => if b = true then te σ2 H3 Q2 else Q1 H3)
    (hd : ∀ H acc, Same H1 H → H D = some (.lst acc) → All2 (R H) acc bs → Qd H) :
    ∃ W : Nat → Nat → Hp → Prop, (∃ m, W 0 m (upd H1 D (.lst []))) ∧ ∀ i m H, W i m H →
      ((Itt K a).stop i H ∧ Qd H) ∨ ((Itt K a).go i H ∧ ∃ Nx : Hp → Prop, (∀ H', Nx H' → ∃ m', m' < m ∧ W (i + 1) m' H') ∧ ∀ x H', (Itt K a).yld i H x H' → g x (wipe σ vs) H' fun σ2 H2 => wipe σ2 vs = wipe σ vs ∧ tt σ2 H2 fun b H3 =>
        if b = true then te σ2 H3 fun y H4 => ∃ acc, H4 D = some (.lst acc) ∧ acc.length < sizeLine ∧ Nx (upd H4 D (.lst (acc ++ [y]))) else Nx H3) := by
  have chg : ∀ {H : Hp} {o : HO}, Same H1 H → Same H1 (upd H D o) := fun {H o} s b u e => by
    rw [upd_ne (ne_of_none e hD)]
    exact s _ _ e
  refine lc_tup (K := K) (a := a) (xs := xs) (fun i H => Same H1 H ∧ ∃ acc, H D = some (.lst acc) ∧ All2 (R H) acc (bs.take i)) ⟨chg (Same.refl _), [], upd_same, .nil⟩ (fun i H _ q => SqT.keep (Keep.of q.1) hS) ?_ (fun H q => ?_)
  · rintro i x H hi ⟨s1, acc, hA, al⟩
    have hb : i < bs.length := by rw [← el]; exact (List.getElem?_eq_some_iff.mp hi).1
    have tk := take_succ (List.getElem?_eq_getElem hb)
    have la := al.len
    rw [List.length_take] at la
    refine hs i x (bs[i]) H _ _ hi (List.getElem?_eq_getElem hb) s1 fun y H' s2 r => ⟨acc, s2 _ _ hA, by omega, chg (s1.trans s2), acc ++ [y], upd_same, ?_⟩
    rw [tk]
    have kp : Keep H' (upd H' D (.lst (acc ++ [y]))) := Keep.lst (s2 _ _ hA)
    exact (al.imp fun v b z => mono _ _ _ _ kp (mono _ _ _ _ (Keep.of s2) z)).snoc (mono _ _ _ _ kp r)
  · obtain ⟨s1, acc, hA, al⟩ := q
    rw [el, List.take_length] at al
    exact hd H acc s1 hA al
/-- a comprehension over a list, without a test, each item's value told by a list -/
theorem lcGL {β : Type} {K : PySem.W.Frag} {a D : Addr} {xs : List V} {bs : List β} {R : Hp → V → β → Prop} {g : TG} {tt : L2.TT} {te : TE} {vs : List Nat} {σ : L2.St} {H1 : Hp} {Qd : Hp → Prop}
    (hS : SqL K H1 a xs) (hD : H1 D = none) (hl : bs.length < sizeLine) (el : xs.length = bs.length) (mono : ∀ H H' v b, Keep H H' → R H v b → R H' v b)
    (hs : ∀ (i : Nat) (x : V) (b : β) (H : Hp) (Q1 : Hp → Prop) (Q2 : V → Hp → Prop), xs[i]? = some x → bs[i]? = some b → Same H1 H → (∀ y H', Same H H' → R H' y b → Q2 y H') →
      g x (wipe σ vs) H fun σ2 H2 => wipe σ2 vs = wipe σ vs ∧ tt σ2 H2 fun b H3 => if b = true then te σ2 H3 Q2 else Q1 H3)
    (hd : ∀ H acc, Same H1 H → H D = some (.lst acc) → All2 (R H) acc bs → Qd H) :
    ∃ W : Nat → Nat → Hp → Prop, (∃ m, W 0 m (upd H1 D (.lst []))) ∧ ∀ i m H, W i m H →
      ((Itl K a).stop i H ∧ Qd H) ∨ ((Itl K a).go i H ∧ ∃ Nx : Hp → Prop, (∀ H', Nx H' → ∃ m', m' < m ∧ W (i + 1) m' H') ∧ ∀ x H', (Itl K a).yld i H x H' → g x (wipe σ vs) H' fun σ2 H2 => wipe σ2 vs = wipe σ vs ∧ tt σ2 H2 fun b H3 =>
        if b = true then te σ2 H3 fun y H4 => ∃ acc, H4 D = some (.lst acc) ∧ acc.length < sizeLine ∧ Nx (upd H4 D (.lst (acc ++ [y]))) else Nx H3) := by
  have chg : ∀ {H : Hp} {o : HO}, Same H1 H → Same H1 (upd H D o) := fun {H o} s b u e => by
    rw [upd_ne (ne_of_none e hD)]
    exact s _ _ e
  refine lc_list (K := K) (a := a) (xs := xs) (fun i H => Same H1 H ∧ ∃ acc, H D = some (.lst acc) ∧ All2 (R H) acc (bs.take i)) ⟨chg (Same.refl _), [], upd_same, .nil⟩ (fun i H _ q => Same.seq q.1 hS) ?_ (fun H q => ?_)
  · rintro i x H hi ⟨s1, acc, hA, al⟩
    have hb : i < bs.length := by rw [← el]; exact (List.getElem?_eq_some_iff.mp hi).1
    have tk := take_succ (List.getElem?_eq_getElem hb)
    have la := al.len
    rw [List.length_take] at la
    refine hs i x (bs[i]) H _ _ hi (List.getElem?_eq_getElem hb) s1 fun y H' s2 r => ⟨acc, s2 _ _ hA, by omega, chg (s1.trans s2), acc ++ [y], upd_same, ?_⟩
    rw [tk]
    have kp : Keep H' (upd H' D (.lst (acc ++ [y]))) := Keep.lst (s2 _ _ hA)
    exact (al.imp fun v b z => mono _ _ _ _ kp (mono _ _ _ _ (Keep.of s2) z)).snoc (mono _ _ _ _ kp r)
  · obtain ⟨s1, acc, hA, al⟩ := q
    rw [el, List.take_length] at al
    exact hd H acc s1 hA al
/-- a comprehension over a range, without a test, each item's value told by a list -/
theorem lcGR {β : Type} {K : PySem.W.Frag} {D : Addr} {lo : Int} {bs : List β} {R : Hp → V → β → Prop} {g : TG} {tt : L2.TT} {te : TE} {vs : List Nat} {σ : L2.St} {H1 : Hp} {Qd : Hp → Prop}
    (hD : H1 D = none) (hl : bs.length < sizeLine) (mono : ∀ H H' v b, Keep H H' → R H v b → R H' v b)
    (hs : ∀ (i : Nat)  (b : β) (H : Hp) (Q1 : Hp → Prop) (Q2 : V → Hp → Prop), bs[i]? = some b → Same H1 H → (∀ y H', Same H H' → R H' y b → Q2 y H') →
      g (.int (lo + i)) (wipe σ vs) H fun σ2 H2 => wipe σ2 vs = wipe σ vs ∧ tt σ2 H2 fun b H3 => if b = true then te σ2 H3 Q2 else Q1 H3)
    (hd : ∀ H acc, Same H1 H → H D = some (.lst acc) → All2 (R H) acc bs → Qd H) :
    ∃ W : Nat → Nat → Hp → Prop, (∃ m, W 0 m (upd H1 D (.lst []))) ∧ ∀ i m H, W i m H →
      ((Itr lo bs.length).stop i H ∧ Qd H) ∨ ((Itr lo bs.length).go i H ∧ ∃ Nx : Hp → Prop, (∀ H', Nx H' → ∃ m', m' < m ∧ W (i + 1) m' H') ∧ ∀ x H', (Itr lo bs.length).yld i H x H' → g x (wipe σ vs) H' fun σ2 H2 => wipe σ2 vs = wipe σ vs ∧ tt σ2 H2 fun b H3 =>
        if b = true then te σ2 H3 fun y H4 => ∃ acc, H4 D = some (.lst acc) ∧ acc.length < sizeLine ∧ Nx (upd H4 D (.lst (acc ++ [y]))) else Nx H3) := by
  have chg : ∀ {H : Hp} {o : HO}, Same H1 H → Same H1 (upd H D o) := fun {H o} s b u e => by
    rw [upd_ne (ne_of_none e hD)]
    exact s _ _ e
  refine lc_range (fun i H => Same H1 H ∧ ∃ acc, H D = some (.lst acc) ∧ All2 (R H) acc (bs.take i)) ⟨chg (Same.refl _), [], upd_same, .nil⟩ ?_ (fun H q => ?_)
  · rintro i H hi ⟨s1, acc, hA, al⟩
    have hb : i < bs.length := by exact hi
    have tk := take_succ (List.getElem?_eq_getElem hb)
    have la := al.len
    rw [List.length_take] at la
    refine hs i  (bs[i]) H _ _ (List.getElem?_eq_getElem hb) s1 fun y H' s2 r => ⟨acc, s2 _ _ hA, by omega, chg (s1.trans s2), acc ++ [y], upd_same, ?_⟩
    rw [tk]
    have kp : Keep H' (upd H' D (.lst (acc ++ [y]))) := Keep.lst (s2 _ _ hA)
    exact (al.imp fun v b z => mono _ _ _ _ kp (mono _ _ _ _ (Keep.of s2) z)).snoc (mono _ _ _ _ kp r)
  · obtain ⟨s1, acc, hA, al⟩ := q
    rw [List.take_length] at al
    exact hd H acc s1 hA al
theorem all2_int {as : List V} {ns : List Int} (h : All2 (fun v n => v = .int n) as ns) : as = ns.map V.int := by
  induction h with
  | nil => rfl
  | cons e _ ih => rw [e, ih]; rfl
/-- a comprehension over a range, from places to ints, with a test -/
theorem lcFR {D : Addr} {lo : Int} {n : Nat} {g : TG} {tt : L2.TT} {te : TE} {vs : List Nat} {σ : L2.St} {H1 : Hp} {Qd : Hp → Prop} (f : Nat → Bool) (e : Nat → Int) (hD : H1 D = none) (hl : n < sizeLine)
    (hs : ∀ (i : Nat) (H : Hp) (Q1 : Hp → Prop) (Q2 : V → Hp → Prop), i < n → Same H1 H → (f i = true → Q2 (.int (e i)) H) → (f i = false → Q1 H) →
      g (.int (lo + i)) (wipe σ vs) H fun σ2 H2 => wipe σ2 vs = wipe σ vs ∧ tt σ2 H2 fun b H3 => if b = true then te σ2 H3 Q2 else Q1 H3)
    (hd : Qd (upd H1 D (.lst ((((List.range n).filter f).map e).map V.int)))) :
    ∃ W : Nat → Nat → Hp → Prop, (∃ m, W 0 m (upd H1 D (.lst []))) ∧ ∀ i m H, W i m H →
      ((Itr lo n).stop i H ∧ Qd H) ∨ ((Itr lo n).go i H ∧ ∃ Nx : Hp → Prop, (∀ H', Nx H' → ∃ m', m' < m ∧ W (i + 1) m' H') ∧ ∀ x H', (Itr lo n).yld i H x H' → g x (wipe σ vs) H' fun σ2 H2 => wipe σ2 vs = wipe σ vs ∧ tt σ2 H2 fun b H3 =>
        if b = true then te σ2 H3 fun y H4 => ∃ acc, H4 D = some (.lst acc) ∧ acc.length < sizeLine ∧ Nx (upd H4 D (.lst (acc ++ [y]))) else Nx H3) := by
  refine lc_range (fun i H => H = upd H1 D (.lst ((((List.range i).filter f).map e).map V.int))) rfl ?_ (fun H q => by rw [q]; exact hd)
  intro i H hi q
  have len : (((List.range i).filter f).map e).length < sizeLine := by
    rw [List.length_map]
    have q1 := List.length_filter_le f (List.range i)
    rw [List.length_range] at q1
    omega
  refine hs i H _ _ hi (by rw [q]; exact Same.new hD) (fun c => ⟨_, by rw [q]; exact upd_same, by rw [List.length_map]; exact len, ?_⟩) (fun c => ?_)
  · show upd H D _ = _
    rw [List.range_succ, q, upd_upd, List.filter_append, List.map_append, List.map_append]
    simp [c]
  · show H = _
    rw [List.range_succ, q, List.filter_append]
    simp [c]
/-! ### rules whose readings name K itself (in a comprehension X is the block's) -/
section
variable {X : Cx} (K' : PySem.W.Frag) (hK : X.K = K')
include hK
theorem ix_tupK : IxR X (rIxT K') := by subst hK; exact ix_tup
theorem ix_listK : IxR X (rIxL K') := by subst hK; exact ix_list
theorem ix_seqK : IxR X (rIx K') := by subst hK; exact ix_seq
theorem sl_listK : SlR X (rSlL K') := by subst hK; exact sl_list
theorem sl_tupK : SlR X (rSlA K') := by subst hK; exact sl_tupA
theorem op_inK : OpR X (compareOp .In) (rIn K' false) := by subst hK; exact op_in_seq
theorem op_notInK : OpR X (compareOp .NotIn) (rIn K' true) := by subst hK; exact op_notIn_seq
theorem op_catTK : OpR X (binaryOp .Add) (rCatA K') := by subst hK; exact op_catA
theorem op_repTK : OpR X (binaryOp .Mult) (rRepT K') := by subst hK; exact op_repT
theorem op_eqDK (hu : X.A.units + 64 < cLine) : OpR X (compareOp .Eq) (rEqD K') := by subst hK; exact op_eqD hu
theorem op_neDK (hu : X.A.units + 64 < cLine) : OpR X (compareOp .NotEq) (rNeD K') := by subst hK; exact op_neD hu
def rLn (K' : PySem.W.Frag) : List V → Hp → VK → Prop := fun xs H Q => ∃ p ys, xs = [.ref p] ∧ (SqL K' H p ys ∨ SqT K' H p ys) ∧ Q (.int ys.length) H
theorem call_lenK : CallR X (.builtin "len") (rLn K') := by subst hK; exact call_len_seq
def rLi (K' : PySem.W.Frag) : List V → Hp → VK → Prop := fun xs H Q => ∃ p ys, xs = [.ref p] ∧ (SqL K' H p ys ∨ SqT K' H p ys) ∧ ∀ l, H l = none → Q (.ref l) (upd H l (.lst ys))
theorem call_listK : CallR X (.type "list") (rLi K') := by subst hK; exact call_list_of
def rTu (K' : PySem.W.Frag) : List V → Hp → VK → Prop := fun xs H Q => ∃ p ys, xs = [.ref p] ∧ ((SqL K' H p ys ∧ ∀ l, H l = none → Q (.ref l) (upd H l (.tup ys))) ∨ (SqT K' H p ys ∧ Q (.ref p) H))
theorem call_tupleK : CallR X (.type "tuple") (rTu K') := by subst hK; exact call_tuple_of
theorem call_isK : CallR X (.builtin "isinstance") (rIsi K') := by subst hK; exact call_isi
theorem cr_sumK (hc : X.calm = true) : CallR X (.builtin "sum") (rSum K') := by subst hK; exact cr_sum hc
theorem cr_anyK (hc : X.calm = true) : CallR X (.builtin "any") (rAny K') := by subst hK; exact cr_any hc
theorem cr_allK (hc : X.calm = true) : CallR X (.builtin "all") (rAll K') := by subst hK; exact cr_all hc
theorem cr_sortedK : CallR X (.builtin "sorted") (rSorted K') := by subst hK; exact cr_sorted
theorem pe_fldK {e : Expr} {f : Str} {pos : Pos} {ta : TE} (he : PE X e ta) (hb : attributeBase e f X.env (eval e X.env) = eval e X.env) : PE X (.Attribute e f pos) (tFld K' ta f) := by subst hK; exact pe_fld he hb
theorem pg_tupK {es : List Expr} {k : Nat} {pos : Pos} {t : TGs} (n : Nat) (hc : X.calm = true) (h : PGs X es t) (hn : (assignEach es X.env).length = n) (hst : (assignEach es X.env).findIdx? (·.1) = none) : PG X (.Tuple es k pos) (gTup K' n t) := by subst hK; exact pg_tup hc h hn hst
end
end My

/-! what steps by themselves want: frames from behind, tests, draws -/
namespace My
open PySem L2
theorem Keep.back {H0 H1 H2 : Hp} (b : Keep H1 H2) (a : Keep H0 H1) : Keep H0 H2 := a.trans b
theorem Same.back {H0 H1 H2 : Hp} (b : Same H1 H2) (a : Same H0 H1) : Same H0 H2 := a.trans b
theorem But.back {l : List Addr} {H0 H1 H2 : Hp} (b : But l H1 H2) (a : But l H0 H1) : But l H0 H2 := a.trans b
theorem Pt.At.back {p : Pt} {H H' : Hp} (e : Same H H') (h : p.At H) : p.At H' := h.same e
theorem iteD {c A B : Prop} [Decidable c] (h1 : c → A) (h2 : ¬ c → B) : if decide c = true then A else B := by
  by_cases h : c
  · rw [decide_eq_true h, if_pos rfl]; exact h1 h
  · rw [decide_eq_false h, if_neg (by decide)]; exact h2 h
theorem iteI {x y : Int} {A B : Prop} (h1 : x = y → A) (h2 : x ≠ y → B) : if decide (V.int x = V.int y) = true then A else B :=
  iteD (fun h => h1 (V.int.inj h)) fun h => h2 fun z => h (congrArg V.int z)
/-- != -/
theorem iteNI {x y : Int} {A B : Prop} (h1 : x ≠ y → A) (h2 : x = y → B) : if (!decide (V.int x = V.int y)) = true then A else B := by
  by_cases h : x = y
  · rw [h, decide_eq_true rfl]; exact iteF (h2 h)
  · rw [decide_eq_false (fun z => h (V.int.inj z))]; exact iteT (h1 h)
theorem IT.new1 {K : PySem.W.Frag} {H : Hp} {p : Addr} {a : Int} : IT K (upd H p (.tup [.int a])) (.ref p) [a] := IT.new rfl
theorem IT.new2 {K : PySem.W.Frag} {H : Hp} {p : Addr} {a b : Int} : IT K (upd H p (.tup [.int a, .int b])) (.ref p) [a, b] := IT.new rfl
theorem IT.new3 {K : PySem.W.Frag} {H : Hp} {p : Addr} {a b c : Int} : IT K (upd H p (.tup [.int a, .int b, .int c])) (.ref p) [a, b, c] := IT.new rfl
theorem IT.new4 {K : PySem.W.Frag} {H : Hp} {p : Addr} {a b c d : Int} : IT K (upd H p (.tup [.int a, .int b, .int c, .int d])) (.ref p) [a, b, c, d] := IT.new rfl
theorem IT.sq {K : PySem.W.Frag} {H : Hp} {p : Addr} {ns : List Int} (h : IT K H (.ref p) ns) : SqT K H p (ns.map V.int) := by
  obtain ⟨q, e, s⟩ := h
  cases e
  exact s
theorem use_draw {p : Pt} {many : Int} {H : Hp} {Q : VK} {E : XK} (hp : p.At H) (hm : 0 < many) (hs : small many)
    (k : ∀ (r : Int) (H' : Hp), 0 ≤ r → r < many → p.At H' → But p.l H H' → Keep H H' → Q (.int r) H') : spDraw [.ref p.a, .int many] H Q E :=
  ⟨p, many, rfl, hp, hm, hs, fun r H' r0 r1 hp' b => k r H' r0 r1 hp' b (hp.keep b)⟩
theorem iteST {a b : Str} {A B : Prop} (h : a = b) (k : A) : if decide (V.str a = V.str b) = true then A else B := by
  rw [decide_eq_true (congrArg V.str h), if_pos rfl]; exact k
theorem iteSF {a b : Str} {A B : Prop} (h : ¬ (a = b)) (k : B) : if decide (V.str a = V.str b) = true then A else B := by
  rw [decide_eq_false (fun z => h (V.str.inj z)), if_neg (by decide)]; exact k
theorem divp_small {i j : Int} (hj : 0 < j) (h : i.natAbs < 2 ^ 1000) : CDivP i j := by
  refine divp_ok hj ?_
  have b : Builtin.Int.intBits i ≤ i.natAbs.log2 + 1 := by
    unfold Builtin.Int.intBits
    split <;> omega
  have := PySem.Flt.log2_lt_of (by decide : 0 < 1000) h
  omega
theorem CMul.l {i j : Int} (h0 : -(2 ^ 64) < i) (h1 : i < 2 ^ 64) : CMul i j := .inl ⟨h0, h1⟩
theorem CMul.r {i j : Int} (h0 : -(2 ^ 64) < j) (h1 : j < 2 ^ 64) : CMul i j := .inr ⟨h0, h1⟩
theorem CMulW.of {i j : Int} (hi : i.natAbs < 2 ^ 400) (hj : j.natAbs < 2 ^ 400) : CMulW i j := wide_mul hi hj (by decide) (by decide) (by decide)
theorem bl_true {Q : VK} {H : Hp} {c : Prop} [Decidable c] (q : Q (.bl true) H) (h : c) : Q (.bl (decide c)) H := by
  rw [decide_eq_true h]; exact q
theorem bl_false {Q : VK} {H : Hp} {c : Prop} [Decidable c] (q : Q (.bl false) H) (h : ¬ c) : Q (.bl (decide c)) H := by
  rw [decide_eq_false h]; exact q
theorem tC_i {v : V} {σ : L2.St} {H : Hp} {Q : VK} (q : Q v H) : tC v σ H Q := q
theorem tNil_i {σ : L2.St} {H : Hp} {Q : List V → Hp → Prop} (q : Q [] H) : tNil σ H Q := q
theorem tCons_i {ta : TE} {t : TA} {σ : L2.St} {H : Hp} {Q : List V → Hp → Prop} (q : ta σ H fun x H1 => t σ H1 fun xs H2 => Q (x :: xs) H2) : tCons ta t σ H Q := q
theorem tCall_i {sp : Sp} {dvs : List V} {E : XK} {t : TA} {σ : L2.St} {H : Hp} {Q : VK} (q : t σ H fun vs H1 => sp (vs ++ dvs) H1 Q E) : tCall sp dvs E t σ H Q := q
theorem tOp_i {r : R2} {ta tb : TE} {σ : L2.St} {H : Hp} {Q : VK} (q : ta σ H fun x H1 => tb σ H1 fun y H2 => r x y H2 Q) : tOp r ta tb σ H Q := q
theorem tVar_i {i : Nat} {v : V} {σ : L2.St} {H : Hp} {Q : VK} (e : σ[i]? = some (some v)) (q : Q v H) : tVar i σ H Q := ⟨v, e, q⟩
theorem iteNEq {x y : Int} {A B : Prop} (h : x = y) (k : B) : if (!decide (V.int x = V.int y)) = true then A else B := iteNI (fun c => absurd h c) fun _ => k
theorem iteFb {c : Bool} {A B : Prop} (h : c = false) (k : B) : if c = true then A else B := by rw [h]; exact iteF k
theorem iteTb {c : Bool} {A B : Prop} (h : c = true) (k : A) : if c = true then A else B := by rw [h]; exact iteT k
theorem IT.flip {K : PySem.W.Frag} {H H' : Hp} {v : V} {ns : List Int} (h : IT K H v ns) (e : Keep H H') : IT K H' v ns := h.keep e
theorem ITs.flip {K : PySem.W.Frag} {H H' : Hp} {v : V} {ns : List (List Int)} (h : ITs K H v ns) (e : Keep H H') : ITs K H' v ns := h.keep e
theorem SqT.flip {K : PySem.W.Frag} {H H' : Hp} {a : Addr} {xs : List V} (h : SqT K H a xs) (e : Keep H H') : SqT K H' a xs := SqT.keep e h
theorem SqL.flip {K : PySem.W.Frag} {H H' : Hp} {a : Addr} {xs : List V} (h : SqL K H a xs) (e : Same H H') : SqL K H' a xs := Same.seq e h
theorem At.flip {H H' : Hp} {a : Addr} {o : HO} (h : H a = some o) (e : Same H H') : H' a = some o := e _ _ h
theorem CDivW.of {i j : Int} (h : 0 < j) (hj : j.natAbs < 2 ^ 400) : CDivW i j := wide_div h hj (by decide) (by decide)
section
variable {K : PySem.W.Frag}
def Parts (K : PySem.W.Frag) (H : Hp) (v : V) (n : Int) (evs : List (List Int)) : Prop := ∃ q w, v = .ref q ∧ SqT K H q [.int n, w] ∧ ITs K H w evs
theorem Parts.keep {H H' : Hp} {v : V} {n : Int} {evs : List (List Int)} (e : Keep H H') (h : Parts K H v n evs) : Parts K H' v n evs := by
  obtain ⟨q, w, h1, h2, h3⟩ := h
  exact ⟨q, w, h1, SqT.keep e h2, h3.keep e⟩
theorem ixP1 {H : Hp} {x : V} {n : Int} {evs : List (List Int)} {Q : V → Prop} (h : Parts K H x n evs) (q : ∀ w, ITs K H w evs → Q w) :
    ∃ p xs j v, x = .ref p ∧ (V.int 1) = .int j ∧ SqT K H p xs ∧ atI xs j = some v ∧ Q v := by
  obtain ⟨a, w, e, s, t⟩ := h
  exact ⟨a, _, 1, w, e, rfl, s, rfl, q w t⟩
theorem ixP0 {H : Hp} {x : V} {n : Int} {evs : List (List Int)} {Q : V → Prop} (h : Parts K H x n evs) (q : Q (.int n)) :
    ∃ p xs j v, x = .ref p ∧ (V.int 0) = .int j ∧ SqT K H p xs ∧ atI xs j = some v ∧ Q v := by
  obtain ⟨a, w, e, s, t⟩ := h
  exact ⟨a, _, 0, _, e, rfl, s, rfl, q⟩
def LTs (K : PySem.W.Frag) (H : Hp) (D : Addr) (nss : List (List Int)) : Prop := ∃ xs, H D = some (.lst xs) ∧ All2 (IT K H) xs nss
theorem LTs.but {H H' : Hp} {l : List Addr} {D : Addr} {nss : List (List Int)} (h : LTs K H D nss) (b : But l H H') (k : Keep H H') (n : D ∉ l) : LTs K H' D nss := by
  obtain ⟨xs, h1, h2⟩ := h
  exact ⟨xs, b _ _ n h1, h2.imp fun _ _ z => z.keep k⟩
end
theorem Keep.ofBut {p : Pt} {H H' : Hp} (b : But p.l H H') (h : p.At H) : Keep H H' := h.keep b
theorem Parts.flip {K : PySem.W.Frag} {H H' : Hp} {v : V} {n : Int} {evs : List (List Int)} (h : Parts K H v n evs) (e : Keep H H') : Parts K H' v n evs := h.keep e
theorem MachAt.flip {K : PySem.W.Frag} {C : Addr} {H H' : Hp} {v : V} {n : Int} {evs : List (List Int)} (h : MachAt K C H v n evs) (e : Keep H H') : MachAt K C H' v n evs := h.keep e
theorem LTs.flip {K : PySem.W.Frag} {H H' : Hp} {D : Addr} {nss : List (List Int)} (h : LTs K H D nss) (s : Same H H') : LTs K H' D nss := h.but (But.of (l := []) s) (Keep.of s) (by simp)
theorem mapI {ns : List Int} {i : Nat} {y : V} (h : (ns.map V.int)[i]? = some y) : ∃ n, ns[i]? = some n ∧ y = .int n := by
  rw [List.getElem?_map] at h
  cases z : ns[i]? with
  | none => rw [z] at h; cases h
  | some n => rw [z] at h; exact ⟨n, rfl, (Option.some.inj h).symm⟩
theorem Parts.open {K : PySem.W.Frag} {H : Hp} {v : V} {n : Int} {evs : List (List Int)} (h : Parts K H v n evs) : ∃ q w xs, v = .ref q ∧ SqT K H q [.int n, .ref w] ∧ SqT K H w xs ∧ All2 (IT K H) xs evs := by
  obtain ⟨q, w, rfl, h1, a, xs, rfl, h2, al⟩ := h
  exact ⟨q, a, xs, rfl, h1, h2, al⟩
theorem MachAt.open {K : PySem.W.Frag} {C : Addr} {H : Hp} {v : V} {n : Int} {evs : List (List Int)} (h : MachAt K C H v n evs) : ∃ m dx w xs, v = .ref m ∧ H m = some (.ins C dx (mf n (.ref w))) ∧ SqT K H w xs ∧ All2 (IT K H) xs evs := by
  obtain ⟨m, dx, w, rfl, h1, a, xs, rfl, h2, al⟩ := h
  exact ⟨m, dx, a, xs, rfl, h1, h2, al⟩
theorem evAt {K : PySem.W.Frag} {H : Hp} {xs : List V} {evs : List (List Int)} {k : Int} {e : List Int} (al : All2 (IT K H) xs evs) (h0 : 0 ≤ k) (h : evs[k.toNat]? = some e) : ∃ z, atI xs k = some (.ref z) ∧ IT K H (.ref z) e := by
  obtain ⟨v, hv, hI⟩ := al.get h
  obtain ⟨z, rfl, _⟩ := id hI
  exact ⟨z, at_ge h0 hv, hI⟩
theorem iteNb {c : Bool} {A B : Prop} (h : c = true) (k : B) : if (!c) = true then A else B := by rw [h]; exact iteF k
theorem cut1 (xs : List V) : cutV xs (some 1) none = xs.drop 1 := by
  unfold cutV
  have e : HT.sIx xs.length 0 (some 1) = min 1 xs.length := by
    show (if (1 : Int) < 0 then ((1 : Int) + (xs.length : Int)).toNat else min (1 : Int).toNat xs.length) = _
    exact if_neg (by decide)
  rw [e, HT.sIx_none, List.take_of_length_le (by rw [List.length_drop]; exact Nat.le_refl _)]
  cases xs with
  | nil => rfl
  | cons x l => rw [Nat.min_eq_left (by simp)]
theorem All2.drop {α β : Type} {R : α → β → Prop} {as : List α} {bs : List β} (h : All2 R as bs) (n : Nat) : All2 R (as.drop n) (bs.drop n) := by
  induction h generalizing n with
  | nil => simp; exact .nil
  | cons r t ih =>
    cases n with
    | zero => exact .cons r t
    | succ n => simpa using ih n
def gcdI (a b : Int) : Int := ((Nat.gcd a.natAbs b.natAbs : Nat) : Int)
def sumT (evs : List (List Int)) (run : List Int) : Int := (run.map fun k => evT (evs.getD k.toNat [])).sum
def sumP (evs : List (List Int)) (run : List Int) : Int := (run.map fun k => evP (evs.getD k.toNat [])).sum
def InEv (evs : List (List Int)) (run : List Int) : Prop := ∀ k ∈ run, 0 ≤ k ∧ k < (evs.length : Int)
structure RunIs (K : PySem.W.Frag) (H : Hp) (v : V) (evs : List (List Int)) (run : List Int) : Prop where
  at_ : IT K H v run
  wk : (walkTo evs 0 run).isSome = true
  inn : InEv evs run
  len : run.length ≤ 1000
theorem RunIs.keep {K : PySem.W.Frag} {H H' : Hp} {v : V} {evs : List (List Int)} {run : List Int} (h : RunIs K H v evs run) (e : Keep H H') : RunIs K H' v evs run := ⟨h.at_.keep e, h.wk, h.inn, h.len⟩
structure ShIs (K : PySem.W.Frag) (H : Hp) (v : V) (a b : Int) : Prop where
  at_ : IT K H v [a, b]
  pos : 1 ≤ b
  low : gcdI a b = 1
theorem ShIs.keep {K : PySem.W.Frag} {H H' : Hp} {v : V} {a b : Int} (h : ShIs K H v a b) (e : Keep H H') : ShIs K H' v a b := ⟨h.at_.keep e, h.pos, h.low⟩
theorem RunIs.flip {K : PySem.W.Frag} {H H' : Hp} {v : V} {evs : List (List Int)} {run : List Int} (h : RunIs K H v evs run) (e : Keep H H') : RunIs K H' v evs run := h.keep e
theorem ShIs.flip {K : PySem.W.Frag} {H H' : Hp} {v : V} {a b : Int} (h : ShIs K H v a b) (e : Keep H H') : ShIs K H' v a b := h.keep e
theorem InEv.take {evs : List (List Int)} {run : List Int} (h : InEv evs run) (n : Nat) : InEv evs (run.take n) := fun k hk => h k (List.mem_of_mem_take hk)
theorem inV_ints (x : Int) : ∀ ns : List Int, inV (.int x) (ns.map V.int) = decide (x ∈ ns)
  | [] => by simp [inV]
  | n :: ns => by
    have ih := inV_ints x ns
    unfold inV at ih ⊢
    rw [List.map_cons, List.any_cons, ih]
    show ((n == x) || decide (x ∈ ns)) = decide (x ∈ n :: ns)
    by_cases c : x = n
    · subst c; simp
    · have c' : ¬ n = x := fun z => c z.symm
      simp [c, c']
theorem flat_ints : ∀ ns : List Int, (ns.map V.int).all flatV = true
  | [] => rfl
  | n :: ns => by rw [List.map_cons, List.all_cons, flat_ints ns]; rfl
theorem Free.flip {H H' : Hp} {p : Addr} (h : H' p = none) (s : Same H H') : H p = none := Same.free s h
theorem Pt.At.flip {p : Pt} {H H' : Hp} (h : p.At H) (e : Same H H') : p.At H' := h.same e
theorem iteCB {c : Bool} {A B : Prop} (h1 : c = true → A) (h2 : c = false → B) : if c = true then A else B := by
  cases h : c
  · exact iteF (h2 h)
  · exact iteT (h1 h)
theorem slTo {K : PySem.W.Frag} {q : Addr} {run : List Int} {i : Nat} {z : Int} {H : Hp} {P : Addr → Hp → Prop} (ez : z = (i : Int)) (h : SqT K H q (run.map V.int)) (k : ∀ v H', Same H H' → IT K H' (.ref v) (run.take i) → P v H') :
    ∃ a xs, V.ref q = .ref a ∧ SqT K H a xs ∧ (HT.sIx xs.length 0 none = 0 ∧ HT.sIx xs.length xs.length (some z) = xs.length → P a H) ∧
      (¬ (HT.sIx xs.length 0 none = 0 ∧ HT.sIx xs.length xs.length (some z) = xs.length) → ∀ p, H p = none → P p (upd H p (.tup (cutV xs none (some z))))) := by
  subst ez
  have cut : cutV (run.map V.int) none (some (i : Int)) = (run.take i).map V.int := by
    unfold cutV
    rw [HT.sIx_none, HT.sIx_nat, List.drop_zero, Nat.sub_zero, List.map_take, List.length_map]
    by_cases c : i ≤ run.length
    · rw [Nat.min_eq_left c]
    · rw [Nat.min_eq_right (by omega), List.take_of_length_le (by rw [List.length_map]; exact Nat.le_refl _), List.take_of_length_le (by rw [List.length_map]; omega)]
  refine ⟨q, _, rfl, h, fun e => ?_, fun _ p hp => ?_⟩
  · rw [HT.sIx_nat, List.length_map] at e
    have le : run.length ≤ i := by omega
    refine k q H (Same.refl H) ⟨q, rfl, ?_⟩
    rw [List.take_of_length_le le]
    exact h
  · rw [cut]
    exact k p _ (Same.new hp) (IT.new rfl)
theorem slQ {K : PySem.W.Frag} {q : Addr} {run : List Int} {i : Nat} {z : Int} {H : Hp} {Q : VK} (ez : z = (i : Int)) (h : SqT K H q (run.map V.int)) (k : ∀ v H', Same H H' → IT K H' (.ref v) (run.take i) → Q (.ref v) H') :
    rSlA K (.ref q) none (some z) H Q := slTo (P := fun v H' => Q (.ref v) H') ez h k
theorem slTake {K : PySem.W.Frag} {q : Addr} {run : List Int} {z : Int} {H : Hp} {Q : VK} (h : IT K H (.ref q) run) (h0 : 0 ≤ z) (k : ∀ v H', Same H H' → IT K H' (.ref v) (run.take z.toNat) → Q (.ref v) H') : rSlA K (.ref q) none (some z) H Q :=
  slQ (i := z.toNat) (by omega) (IT.sq h) k
theorem RunIs.take {K : PySem.W.Frag} {H H' : Hp} {v w : V} {evs : List (List Int)} {run : List Int} (h : RunIs K H v evs run) (n : Nat) (g : IT K H' w (run.take n)) : RunIs K H' w evs (run.take n) := by
  refine ⟨g, ?_, h.inn.take n, by rw [List.length_take]; have := h.len; omega⟩
  have z : walkTo evs 0 run = walkTo evs 0 (run.take n ++ run.drop n) := by rw [List.take_append_drop]
  have w := h.wk
  rw [z, walkTo_app] at w
  cases e : walkTo evs 0 (run.take n) with
  | none => rw [e] at w; cases w
  | some t => rfl
theorem iteTC {c : Bool} {v1 v2 : V} {σ : L2.St} {H : Hp} {Q : VK} (k : ∀ v, (v = v1 ∨ v = v2) → Q v H) : if c = true then tC v1 σ H Q else tC v2 σ H Q := by
  cases c
  · exact iteF (k _ (.inr rfl))
  · exact iteT (k _ (.inl rfl))
/-- what steps don't open -/
structure Wr (P : Prop) : Prop where
  out : P
theorem catJ {K : PySem.W.Frag} {a b : Addr} {xs ys : List V} {H : Hp} {Q : VK} (ha : SqT K H a xs) (hb : SqT K H b ys) (hl : xs.length + ys.length ≤ sizeLine) (k : ∀ (c : Addr) (H' : Hp), Same H H' → SqT K H' c (xs ++ ys) → Q (.ref c) H') : rCatA K (.ref a) (.ref b) H Q :=
  ⟨a, b, xs, ys, rfl, rfl, ha, hb, hl, fun e => k b H (Same.refl H) (by rw [e]; exact hb), fun _ e => k a H (Same.refl H) (by rw [e, List.append_nil]; exact ha), fun _ _ p hp => k p _ (Same.new hp) (SqT.lt upd_same)⟩
theorem LTs.same {K : PySem.W.Frag} {H H' : Hp} {D : Addr} {nss : List (List Int)} (h : LTs K H D nss) (s : Same H H') : LTs K H' D nss := h.flip s
theorem LTs.dp0 {K : PySem.W.Frag} {H : Hp} {D : Addr} {nss : List (List Int)} (h : LTs K H D nss) : ∃ xs, H D = some (.lst xs) ∧ All2 (IT K H) xs nss := h
end My

namespace Myk09
open PySem L2 My EnT
structure IsOwn (K : PySem.W.Frag) (C : Addr) : Prop where
  cl : Cls K C
  ha : PySem.W.findIn K (.ref C) "__class__" = some (some (.builtin "object.__class__"))
  hn : PySem.W.specialIn K (.builtin "object.__class__") "__get__" = some (some (.builtin "getset_descriptor.__get__"))
  ht : PySem.W.takesIn K (.builtin "object.__class__") = some true
  hm : PySem.W.mroIn K C (.type "object") = some true
theorem kitSelf {K : PySem.W.Frag} {C : Addr} : PySem.W.kitOne K (.ref C) (.ref C) = some true := by
  unfold PySem.W.kitOne
  rw [if_pos (by simp)]
theorem IsOwn.is {K : PySem.W.Frag} {C : Addr} (c : IsOwn K C) {H : Hp} {x : V} {n : Int} {evs : List (List Int)} {Q : Bool → Prop} (h : MachAt K C H x n evs) (q : Q true) :
    ∃ (y c : V) (s u : Value) (b : Bool), [x, V.ref C] = [y, c] ∧ ClsV c u ∧ TyX K H y s ∧ PySem.W.kitOne K s u = some b ∧ Q b := by
  obtain ⟨m, dx, w, rfl, h2, _⟩ := h
  exact ⟨_, _, _, _, true, rfl, .own _, .base (.ins h2 c.cl c.ha c.hn c.ht c.hm), kitSelf, q⟩
def top (i : Nat) : Stmt := PySem.Challenge.pw_neverleapt_k09_whole_events_parted.main.body.getD i (.Pass ⟨0, 0, 0, 0⟩)
abbrev s_is_whole : Stmt := top 7
abbrev s_law_pot : Stmt := top 24
abbrev s_law_draw : Stmt := top 25
abbrev s_law_out : Stmt := top 28
abbrev s_law_twice : Stmt := top 30
abbrev s_is_between : Stmt := top 8
abbrev s_law_any : Stmt := top 26
abbrev s_law_parts : Stmt := top 27
abbrev s_law_walk : Stmt := top 29
abbrev s_are_counts : Stmt := top 17
abbrev s_has_event : Stmt := top 18
abbrev s_is_event : Stmt := top 16
abbrev s_is_run : Stmt := top 19
abbrev s_Machine___init__ : Stmt := inClass (top 14) 0
abbrev s_boards : Stmt := top 20
abbrev s_made : Stmt := top 15
abbrev s_parted : Stmt := top 22
abbrev s_law : Stmt := top 31
structure Ad where
  f_is_whole : Addr
  d_is_whole : FuncData
  f_law_pot : Addr
  d_law_pot : FuncData
  f_law_draw : Addr
  d_law_draw : FuncData
  f_law_out : Addr
  d_law_out : FuncData
  f_law_twice : Addr
  d_law_twice : FuncData
  f_is_between : Addr
  d_is_between : FuncData
  f_law_any : Addr
  d_law_any : FuncData
  f_law_parts : Addr
  d_law_parts : FuncData
  f_law_walk : Addr
  d_law_walk : FuncData
  f_are_counts : Addr
  d_are_counts : FuncData
  f_has_event : Addr
  d_has_event : FuncData
  f_is_event : Addr
  d_is_event : FuncData
  f_is_run : Addr
  d_is_run : FuncData
  f_Machine___init__ : Addr
  d_Machine___init__ : FuncData
  f_boards : Addr
  d_boards : FuncData
  f_made : Addr
  d_made : FuncData
  f_parted : Addr
  d_parted : FuncData
  f_law : Addr
  d_law : FuncData
  C_Machine : Addr
  t_MOST_EVENTS : Tok
  t_MOST_POINTS : Tok
  t_MOST_STANDINGS : Tok
  t_MOST_TRIES : Tok
structure Txt (K : PySem.W.Frag) (mg : Str → Option Value) (A : Ad) : Prop where
  F_is_whole : Fun K "is_whole" "is_whole" s_is_whole A.f_is_whole A.d_is_whole
  B_is_whole : Binds K A.d_is_whole ["thing"] []
  m_is_whole : mg "is_whole" = some (.ref A.f_is_whole)
  F_law_pot : Fun K "_law_pot" "_law_pot" s_law_pot A.f_law_pot A.d_law_pot
  B_law_pot : Binds K A.d_law_pot ["script"] []
  m_law_pot : mg "_law_pot" = some (.ref A.f_law_pot)
  F_law_draw : Fun K "_law_draw" "_law_draw" s_law_draw A.f_law_draw A.d_law_draw
  B_law_draw : Binds K A.d_law_draw ["pot", "many"] []
  m_law_draw : mg "_law_draw" = some (.ref A.f_law_draw)
  F_law_out : Fun K "_law_out" "_law_out" s_law_out A.f_law_out A.d_law_out
  B_law_out : Binds K A.d_law_out ["parts", "standing"] []
  m_law_out : mg "_law_out" = some (.ref A.f_law_out)
  F_law_twice : Fun K "_law_twice" "_law_twice" s_law_twice A.f_law_twice A.d_law_twice
  B_law_twice : Binds K A.d_law_twice ["run", "event", "last"] []
  m_law_twice : mg "_law_twice" = some (.ref A.f_law_twice)
  F_is_between : Fun K "is_between" "is_between" s_is_between A.f_is_between A.d_is_between
  B_is_between : Binds K A.d_is_between ["thing", "low", "high"] []
  m_is_between : mg "is_between" = some (.ref A.f_is_between)
  F_law_any : Fun K "_law_any" "_law_any" s_law_any A.f_law_any A.d_law_any
  B_law_any : Binds K A.d_law_any ["pot", "items"] []
  m_law_any : mg "_law_any" = some (.ref A.f_law_any)
  F_law_parts : Fun K "_law_parts" "_law_parts" s_law_parts A.f_law_parts A.d_law_parts
  B_law_parts : Binds K A.d_law_parts ["pot", "most_standings", "most_events"] []
  m_law_parts : mg "_law_parts" = some (.ref A.f_law_parts)
  F_law_walk : Fun K "_law_walk" "_law_walk" s_law_walk A.f_law_walk A.d_law_walk
  B_law_walk : Binds K A.d_law_walk ["pot", "parts", "many"] []
  m_law_walk : mg "_law_walk" = some (.ref A.f_law_walk)
  F_are_counts : Fun K "are_counts" "are_counts" s_are_counts A.f_are_counts A.d_are_counts
  B_are_counts : Binds K A.d_are_counts ["tries", "points"] []
  m_are_counts : mg "are_counts" = some (.ref A.f_are_counts)
  F_has_event : Fun K "has_event" "has_event" s_has_event A.f_has_event A.d_has_event
  B_has_event : Binds K A.d_has_event ["machine", "thing"] []
  m_has_event : mg "has_event" = some (.ref A.f_has_event)
  F_is_event : Fun K "_is_event" "_is_event" s_is_event A.f_is_event A.d_is_event
  B_is_event : Binds K A.d_is_event ["thing", "standings"] []
  m_is_event : mg "_is_event" = some (.ref A.f_is_event)
  F_is_run : Fun K "is_run" "is_run" s_is_run A.f_is_run A.d_is_run
  B_is_run : Binds K A.d_is_run ["machine", "thing"] []
  m_is_run : mg "is_run" = some (.ref A.f_is_run)
  F_Machine___init__ : Fun K "__init__" "Machine.__init__" s_Machine___init__ A.f_Machine___init__ A.d_Machine___init__
  B_Machine___init__ : Binds K A.d_Machine___init__ ["self", "standings", "events"] []
  F_boards : Fun K "boards" "boards" s_boards A.f_boards A.d_boards
  B_boards : Binds K A.d_boards ["machine", "run"] []
  m_boards : mg "boards" = some (.ref A.f_boards)
  F_made : Fun K "made" "made" s_made A.f_made A.d_made
  B_made : Binds K A.d_made ["standings", "events"] []
  m_made : mg "made" = some (.ref A.f_made)
  F_parted : Fun K "parted" "parted" s_parted A.f_parted A.d_parted
  B_parted : Binds K A.d_parted ["machine", "event", "tries", "points"] []
  m_parted : mg "parted" = some (.ref A.f_parted)
  F_law : Fun K "law" "law" s_law A.f_law A.d_law
  B_law : Binds K A.d_law ["script"] []
  m_law : mg "law" = some (.ref A.f_law)
  m_Machine : mg "Machine" = some (.ref A.C_Machine)
  cl_Machine : Cls K A.C_Machine
  mk_Machine : Mk K A.C_Machine A.f_Machine___init__
  n_events : NoAttr K A.C_Machine "events"
  n_standings : NoAttr K A.C_Machine "standings"
  is_Machine : IsOwn K A.C_Machine
  z_abs : mg "abs" = none
  z_bool : mg "bool" = none
  z_enumerate : mg "enumerate" = none
  z_int : mg "int" = none
  z_isinstance : mg "isinstance" = none
  z_len : mg "len" = none
  z_list : mg "list" = none
  z_range : mg "range" = none
  z_sum : mg "sum" = none
  z_tuple : mg "tuple" = none
  c_MOST_EVENTS : mg "MOST_EVENTS" = some (.int 30 A.t_MOST_EVENTS)
  c_MOST_POINTS : mg "MOST_POINTS" = some (.int 400 A.t_MOST_POINTS)
  c_MOST_STANDINGS : mg "MOST_STANDINGS" = some (.int 12 A.t_MOST_STANDINGS)
  c_MOST_TRIES : mg "MOST_TRIES" = some (.int 40 A.t_MOST_TRIES)
def spLaw (K : PySem.W.Frag) : Sp := fun vs H Q _ => ∃ (a : Addr) (ns : List Int), vs = [.ref a] ∧ SqL K H a (ns.map V.int) ∧ ns.length ≤ 63 ∧ ∀ H', Q (.bl true) H'
section
variable {P : Program} {w : World} {K : PySem.W.Frag} {mg : Str → Option Value} {base : Heap} {A : Ad}
end
end Myk09

namespace Myk09
open PySem L2 My EnT
-- Same from behind
local macro_rules | `(tactic| nest_cls) => `(tactic| first
  | exact Same.refl _
  | assumption
  | (refine Same.back (Same.new (by assumption)) ?_; nest_cls)
  | (refine Same.back (by assumption) ?_; nest_cls)
  | (refine Same.chg ?_ (by first | assumption | exact Free.flip (by assumption) (by nest_cls)); nest_cls))
-- Keep from behind
local macro_rules | `(tactic| mem_news) => `(tactic| first
  | exact Keep.refl _
  | assumption
  | (refine Keep.back (Keep.new (by assumption)) ?_; mem_news)
  | (refine Keep.back (Keep.lst (by assumption)) ?_; mem_news)
  | (refine Keep.back (Keep.lst (by kd_adr)) ?_; mem_news)
  | (refine Keep.back (Keep.of (by assumption)) ?_; mem_news)
  | (refine Keep.back (Keep.ofBut (by assumption) (by kba_ints)) ?_; mem_news)
  | (refine Keep.back (by assumption) ?_; mem_news))
-- the pot
local macro_rules | `(tactic| kba_ints) => `(tactic| first
  | assumption
  | (refine Pt.At.back (Same.new (by assumption)) ?_; kba_ints)
  | (refine Pt.At.back (by assumption) ?_; kba_ints)
  | exact Pt.At.flip (by assumption) (by nest_cls))
-- a fact of a heap, from behind
local macro_rules | `(tactic| kd_adr) => `(tactic| first
  | ((with_reducible show IT _ _ _ _); first
    | assumption
    | exact IT.new2
    | exact IT.new1
    | exact IT.new3
    | exact IT.new4
    | exact IT.flip (by assumption) (by mem_news)
    | exact IT.flip IT.new2 (by mem_news)
    | exact IT.flip IT.new3 (by mem_news)
    | exact IT.flip IT.new1 (by mem_news)
    | exact IT.flip IT.new4 (by mem_news))
  | ((with_reducible show ITs _ _ _ _); first
    | assumption
    | exact ITs.flip (by assumption) (by mem_news))
  | ((with_reducible show SqT _ _ _ _); first
    | assumption
    | exact SqT.lt upd_same
    | exact SqT.lt (by assumption)
    | exact IT.sq (by assumption)
    | exact SqT.flip (by assumption) (by mem_news)
    | exact SqT.flip (SqT.lt (by assumption)) (by mem_news)
    | exact SqT.flip (IT.sq (by assumption)) (by mem_news)
    | exact SqT.flip (SqT.lt upd_same) (by mem_news))
  | ((with_reducible show SqL _ _ _ _); first
    | assumption
    | exact SqL.lt upd_same
    | exact SqL.lt (by assumption)
    | exact SqL.flip (by assumption) (by nest_cls)
    | exact SqL.flip (SqL.lt (by assumption)) (by nest_cls)
    | exact SqL.flip (SqL.lt upd_same) (by nest_cls))
  | ((with_reducible show Parts _ _ _ _ _); first | assumption | exact Parts.flip (by assumption) (by mem_news))
  | ((with_reducible show MachAt _ _ _ _ _ _); first | assumption | exact MachAt.flip (by assumption) (by mem_news))
  | ((with_reducible show ShIs _ _ _ _ _); first | assumption | exact ShIs.flip (by assumption) (by mem_news))
  | ((with_reducible show RunIs _ _ _ _ _); first | assumption | exact RunIs.flip (by assumption) (by mem_news))
  | ((with_reducible show LTs _ _ _ _); first | assumption | exact LTs.flip (by assumption) (by nest_cls))
  | ((with_reducible show Pt.At _ _); kba_ints)
  | ((with_reducible show Same _ _); nest_cls)
  | ((with_reducible show Keep _ _); mem_news)
  | ((with_reducible show (_ : Hp) _ = some _); first
    | assumption
    | exact upd_same
    | exact At.flip (by assumption) (by nest_cls)
    | exact At.flip upd_same (by nest_cls)))
-- a side condition
local macro_rules | `(tactic| leaf_len) => `(tactic| first
  | (with_reducible rfl)
  | (with_reducible assumption)
  | kd_adr
  | omega
  | ((with_reducible show (_ : Nat) ≤ sizeLine); first | (show 1 ≤ sizeLine; decide) | (show 2 ≤ sizeLine; decide) | (show 3 ≤ sizeLine; decide) | (show 4 ≤ sizeLine; decide) | (show 5 ≤ sizeLine; decide) | (show 6 ≤ sizeLine; decide) | (show 7 ≤ sizeLine; decide) | (show 8 ≤ sizeLine; decide) | (show 0 ≤ sizeLine; decide))
  | exact rfl
  | ((with_reducible show _ ∨ _); first | exact Or.inl (by leaf_len) | exact Or.inr (by leaf_len))
  | exact List.cons_ne_nil _ _
  | exact mf_ev _ _
  | exact mf_st _ _
  | exact flat_ints _
  | ((with_reducible show tyV _ _ _ _); exact Or.inl ⟨rfl, _, by kd_adr⟩)
  | ((with_reducible show ClsV _ _); exact ClsV.ty _)
  | ((with_reducible show CDivW _ _); exact CDivW.of (by omega) (by omega))
  | (apply Exists.intro (α := List V); kd_adr)
  | assumption
  | ((with_reducible show small _); unfold small; omega)
  | ((with_reducible show CPow _ _); exact ⟨by decide, by decide, by decide⟩)
  | ((with_reducible show CMul _ _); first | exact CMul.l (by omega) (by omega) | exact CMul.r (by omega) (by omega))
  | ((with_reducible show CMulW _ _); exact CMulW.of (by omega) (by omega))
  | ((with_reducible show TyX _ _ _ _); first | exact TyX.base (.int _) | exact TyX.base (.str _) | exact TyX.base (.bl _) | exact tyT (by kd_adr) | exact TyX.base (.lst (by kd_adr)))
  | ((with_reducible show PySem.W.kitOne _ _ _ = some _); first | exact kit_ty (r := true) (by decide +kernel) | exact kit_ty (r := false) (by decide +kernel))
  | decide)
-- a step
local macro_rules | `(tactic| l_ints) => `(tactic| first
  | (intro (p : Addr) (hp : (_ : Hp) p = none))
  | (intro (H' : Hp) (s : Same _ H'))
  | (intro (p : Addr) (H' : Hp) (s : Same _ H'))
  | (intro (h : IT _ _ _ _))
  | (intro (h : SqT _ _ _ _))
  | (intro (h : (_ : Hp) _ = none))
  | (intro (h : (_ : Hp) _ = some _))
  | ((with_reducible show rCatA _ _ _ _ _); refine catJ (by kd_adr) (by kd_adr) (by leaf_len) ?_)
  | ((with_reducible show rSlA _ _ none (some _) _ _); refine slTake (by kd_adr) (by omega) ?_)
  | with_reducible refine tC_i ?_
  | with_reducible refine tNil_i ?_
  | with_reducible refine tCons_i ?_
  | with_reducible refine tCall_i ?_
  | with_reducible refine tOp_i ?_
  | ((with_reducible refine tVar_i ?_ ?_); · exact rfl)
  | with_reducible refine iteT ?_
  | with_reducible refine iteF ?_
  | (with_reducible refine iteNEq ?_ ?_; · assumption)
  | (with_reducible refine iteNb ?_ ?_; · assumption)
  | (with_reducible refine iteTb ?_ ?_; · assumption)
  | (with_reducible refine iteFb ?_ ?_; · assumption)
  | ((with_reducible refine iteFb ?_ ?_); · exact rfl)
  | ((with_reducible refine iteTb ?_ ?_); · exact rfl)
  | with_reducible refine iteST rfl ?_
  | with_reducible refine iteSF (by decide +kernel) ?_
  | (refine And.intro ?_ ?_; · leaf_len)
  | apply Exists.intro (α := V)
  | apply Exists.intro (α := Int)
  | apply Exists.intro (α := Addr)
  | apply Exists.intro (α := List V)
  | apply Exists.intro (α := Str)
  | apply Exists.intro (α := Nat)
  | apply Exists.intro (α := Bool)
  | apply Exists.intro (α := Value)
  | apply Exists.intro (α := List Int)
  | apply Exists.intro (α := List (List Int))
  | apply Exists.intro (α := List Bool)
  | apply Exists.intro (α := List (Str × V))
  | apply Exists.intro (α := Option (List (Option Int)))
  | apply Exists.intro (α := Option Int)
  | apply Exists.intro (α := Pt)
  | refine Or.inr ⟨_, rfl, ?_⟩
  | apply Or.inl)

section
variable {P : Program} {w : World} {K : PySem.W.Frag} {mg : Str → Option Value} {base : Heap} {A : Ad}
/-- is_whole of an int -/
def spWholeI : Sp := fun vs H Q _ => ∃ n : Int, vs = [.int n] ∧ Q (.bl true) H
def spBetweenI : Sp := fun vs H Q _ => ∃ n l h : Int, vs = [.int n, .int l, .int h] ∧ Q (.bl (decide (l ≤ n ∧ n ≤ h))) H

theorem sc_is_whole : FnScope ["thing"] ["thing"] (defScope s_is_whole) := ⟨rfl, rfl, rfl, by decide +kernel, rfl, by decide +kernel, by decide +kernel⟩
theorem ok_is_whole (T : Txt K mg A) : FnOk P w K mg base CX0 1 A.f_is_whole A.d_is_whole ["thing"] (spWholeI) := by
  refine T.F_is_whole.ok sc_is_whole (fun vs H Q E h => ?_) (fun cdv A1 outer s H vs Q E hr h => ?_)
  · obtain ⟨n, rfl, _⟩ := h
    rfl
  · obtain ⟨n, rfl, q⟩ := h
    refine ⟨_, (pss_one (ps_ret (pe_and (pe_callB (call_isK K rfl) (by rfl) T.z_isinstance (by decide +kernel) (pa_cons (pv 0) (pa_cons (pe_bltn (v := .ty "int") (u := .type "int") rfl T.z_int (by decide +kernel) rfl) pa_nil))) (pe_one (pe_not (pe_callB (call_isK K rfl) (by rfl) T.z_isinstance (by decide +kernel) (pa_cons (pv 0) (pa_cons (pe_bltn (v := .ty "bool") (u := .type "bool") rfl T.z_bool (by decide +kernel) rfl) pa_nil)))))))), ?_⟩
    refine ⟨_, rfl, _, _, _, _, _, rfl, .ty _, .base (.int _), kit_ty (by decide +kernel), true, rfl, ?_⟩
    refine iteT ⟨_, rfl, _, _, _, _, _, rfl, .ty _, .base (.int _), kit_ty (r := false) (by decide +kernel), false, rfl, q⟩
theorem sc_is_between : FnScope ["thing", "low", "high"] ["thing", "low", "high"] (defScope s_is_between) := ⟨rfl, rfl, rfl, by decide +kernel, rfl, by decide +kernel, by decide +kernel⟩
theorem ok_is_between (T : Txt K mg A) : FnOk P w K mg base CX0 2 A.f_is_between A.d_is_between ["thing", "low", "high"] (spBetweenI) := by
  refine T.F_is_between.ok sc_is_between (fun vs H Q E h => ?_) (fun cdv A1 outer s H vs Q E hr h => ?_)
  · obtain ⟨n, l, h, rfl, _⟩ := h
    rfl
  · obtain ⟨n, l, hh, rfl, q⟩ := h
    refine ⟨_, (pss_one (ps_ret (pe_and (pe_call (ok_is_whole T) (hr.mono (by decide)) rfl T.m_is_whole T.F_is_whole.kp T.B_is_whole .nil pass0 (pa_cons (pv 0) pa_nil)) (pe_one (pe_chain op_le op_le (pv 1) (pv 0) (pv 2)))))), ?_⟩
    refine ⟨_, rfl, n, rfl, true, rfl, iteT ?_⟩
    refine ⟨_, rfl, _, rfl, _, _, rfl, rfl, _, rfl, ?_⟩
    by_cases h1 : l ≤ n
    · rw [decide_eq_true h1]
      refine iteT ⟨_, rfl, _, _, rfl, rfl, ?_⟩
      have e : decide (l ≤ n ∧ n ≤ hh) = decide (n ≤ hh) := by simp [h1]
      show Q (.bl (decide (n ≤ hh))) H
      rw [← e]
      exact q
    · rw [decide_eq_false h1]
      refine iteF ?_
      have e : decide (l ≤ n ∧ n ≤ hh) = false := by simp [h1]
      show Q (.bl false) H
      rw [← e]
      exact q
theorem cut63 {ns : List Int} (h : ns.length ≤ 63) : cutV (ns.map V.int) none (some 63) = ns.map V.int := by
  unfold cutV
  have e : HT.sIx (ns.map V.int).length (ns.map V.int).length (some 63) = (ns.map V.int).length := by
    show (if (63 : Int) < 0 then ((63 : Int) + ((ns.map V.int).length : Int)).toNat else min (63 : Int).toNat (ns.map V.int).length) = _
    rw [if_neg (by decide), List.length_map]
    omega
  rw [e, HT.sIx_none, List.drop_zero, Nat.sub_zero, List.take_length]

theorem sc_law_pot : FnScope ["script", "item", "cells", "greats", "smalls"] ["script"] (defScope s_law_pot) := ⟨rfl, rfl, rfl, by decide +kernel, rfl, by decide +kernel, by decide +kernel⟩
theorem ok_law_pot (T : Txt K mg A) : FnOk P w K mg base CX0 1 A.f_law_pot A.d_law_pot ["script"] (spPot K) := by
  refine T.F_law_pot.ok sc_law_pot (fun vs H Q E h => ?_) (fun cdv A1 outer s H vs Q E hr h => ?_)
  · obtain ⟨a, ns, rfl, _⟩ := h
    rfl
  · obtain ⟨a, ns, rfl, hS, hlen, k⟩ := h
    have lim : ns.length < sizeLine := Nat.lt_of_le_of_lt hlen (by decide)
    have e18 : CPow 10 18 := by refine ⟨by decide, by decide, by decide⟩
    refine ⟨_, (pss_cons (ps_setLc (i := 2) (own := [("item", 1)]) rfl sc_law_pot.nd rfl rfl (sw_true rfl rfl rfl (by decide +kernel)) (pi_list (pe_slice (sl_listK K rfl) (pv 0) po_none (po_some pe_int))) (blkOk_by (N := ["script", "item", "cells", "greats", "smalls"]) (sc := defScope s_law_pot) (by decide +kernel)) (fun _ _ _ _ _ => by exact (pg_name (i := 1) sc_law_pot.nd rfl (Or.inl rfl))) (fun _ _ _ _ _ => by exact pts_nil) (fun _ _ _ _ _ => by exact (pe_callTy call_int1 (by rfl) T.z_int (by decide +kernel) (pa_cons (pv 1) pa_nil))))
      (pss_cons (ps_setLc (i := 3) (own := [("item", 1)]) rfl sc_law_pot.nd rfl rfl (sw_true rfl rfl rfl (by decide +kernel)) (pi_list (pv 2)) (blkOk_by (N := ["script", "item", "cells", "greats", "smalls"]) (sc := defScope s_law_pot) (by decide +kernel)) (fun _ _ _ _ _ => by exact (pg_name (i := 1) sc_law_pot.nd rfl (Or.inl rfl))) (fun _ _ _ _ _ => by exact (pts_one (pt_cmpR op_ge (pe_callB call_abs (by rfl) T.z_abs (by decide +kernel) (pa_cons (pv 1) pa_nil)) (pe_op op_pow pe_int pe_int) (nomark _)))) (fun _ _ _ _ _ => by exact (pe_callB call_abs (by rfl) T.z_abs (by decide +kernel) (pa_cons (pv 1) pa_nil))))
      (pss_cons (ps_set (i := 4) sc_law_pot.nd rfl (Or.inl rfl) (pe_op op_cat (pe_lc (own := [("item", 1)]) rfl sc_law_pot.nd (pi_list (pv 2)) (blkOk_by (N := ["script", "item", "cells", "greats", "smalls"]) (sc := defScope s_law_pot) (by decide +kernel)) (fun _ _ _ _ _ => by exact (pg_name (i := 1) sc_law_pot.nd rfl (Or.inl rfl))) (fun _ _ _ _ _ => by exact (pts_one (pt_cmpR op_lt (pe_callB call_abs (by rfl) T.z_abs (by decide +kernel) (pa_cons (pv 1) pa_nil)) (pe_op op_pow pe_int pe_int) (nomark _)))) (fun _ _ _ _ _ => by exact (pe_op op_mod (pe_callTy call_int1 (by rfl) T.z_int (by decide +kernel) (pa_cons (pv 1) pa_nil)) pe_int))) (pe_lst (pa_cons (pe_op op_add (pe_callB (call_lenK K rfl) (by rfl) T.z_len (by decide +kernel) (pa_cons (pv 2) pa_nil)) pe_int) pa_nil))))
      (pss_one (ps_ret (pe_lst (pa_cons (pv 3) (pa_cons (pv 4) (pa_cons pe_int (pa_cons (pe_op op_mod (pe_callTy call_int1 (by rfl) T.z_int (by decide +kernel) (pa_cons (pe_callB (cr_sumK K rfl rfl) (by rfl) T.z_sum (by decide +kernel) (pa_cons (pv 4) pa_nil)) pa_nil)) pe_int) pa_nil)))))))))), ?_⟩
    refine ⟨_, rfl, _, rfl, a, _, rfl, hS, fun p hp => ?_⟩
    rw [cut63 hlen]
    refine ⟨p, rfl, ⟨_, SqL.lt upd_same⟩, fun D hD => ?_⟩
    refine lcI (K := K) (ns := ns) (fun _ => true) (fun n => n) (SqL.lt upd_same) hD lim (fun n H2 Q1 Q2 _ h1 _ => ⟨rfl, _, rfl, .inl ⟨n, rfl, h1 rfl⟩⟩) ?_
    have el : List.map (fun n => n) (List.filter (fun _ => true) ns) = ns := by simp
    rw [el]
    have s1 : Same H (upd (upd H p (.lst (ns.map V.int))) D (.lst (ns.map V.int))) := (Same.new hp).trans (Same.new hD)
    have hD1 := upd_same (H := upd H p (.lst (ns.map V.int))) (a := D) (o := .lst (ns.map V.int))
    generalize upd (upd H p (.lst (ns.map V.int))) D (.lst (ns.map V.int)) = H1 at s1 hD1 ⊢
    -- greats
    refine ⟨_, rfl, D, rfl, ⟨_, SqL.lt hD1⟩, fun G hG => ?_⟩
    refine lcI (K := K) (ns := ns) (fun n => decide ((10 : Int) ^ 18 ≤ (if n < 0 then -n else n))) (fun n => if n < 0 then -n else n) (SqL.lt hD1) hG lim (fun n H2 Q1 Q2 _ h1 h2 => ⟨rfl, ?_⟩) ?_
    · refine ⟨_, rfl, n, rfl, _, _, rfl, rfl, e18, _, _, rfl, rfl, _, rfl, ?_⟩
      by_cases c : (10 : Int) ^ 18 ≤ (if n < 0 then -n else n)
      · rw [show (10 : Int) ^ (18 : Int).toNat = 10 ^ 18 from rfl, decide_eq_true c]
        exact iteT ⟨_, rfl, n, rfl, h1 (decide_eq_true c)⟩
      · rw [show (10 : Int) ^ (18 : Int).toNat = 10 ^ 18 from rfl, decide_eq_false c]
        exact iteF (h2 (decide_eq_false c))
    generalize List.map (fun n => if n < 0 then -n else n) (List.filter (fun n => decide ((10 : Int) ^ 18 ≤ (if n < 0 then -n else n))) ns) = gs
    have s2 : Same H (upd H1 G (.lst (gs.map V.int))) := s1.trans (Same.new hG)
    have hD2 : upd H1 G (.lst (gs.map V.int)) D = some (.lst (ns.map V.int)) := Same.new hG _ _ hD1
    have hG2 := upd_same (H := H1) (a := G) (o := .lst (gs.map V.int))
    generalize upd H1 G (.lst (gs.map V.int)) = H2 at s2 hD2 hG2 ⊢
    -- smalls
    refine ⟨_, rfl, D, rfl, ⟨_, SqL.lt hD2⟩, fun S hS2 => ?_⟩
    refine lcI (K := K) (ns := ns) (fun n => decide ((if n < 0 then -n else n) < (10 : Int) ^ 18)) (fun n => n % 1000000007) (SqL.lt hD2) hS2 lim (fun n H3 Q1 Q2 _ h1 h2 => ⟨rfl, ?_⟩) ?_
    · refine ⟨_, rfl, n, rfl, _, _, rfl, rfl, e18, _, _, rfl, rfl, _, rfl, ?_⟩
      by_cases c : (if n < 0 then -n else n) < (10 : Int) ^ 18
      · rw [show (10 : Int) ^ (18 : Int).toNat = 10 ^ 18 from rfl, decide_eq_true c]
        exact iteT ⟨_, rfl, .inl ⟨n, rfl, _, _, rfl, rfl, (by show (0 : Int) < 1000000007; decide), h1 (decide_eq_true c)⟩⟩
      · rw [show (10 : Int) ^ (18 : Int).toNat = 10 ^ 18 from rfl, decide_eq_false c]
        exact iteF (h2 (decide_eq_false c))
    have lss : (List.map (fun n => n % 1000000007) (List.filter (fun n => decide ((if n < 0 then -n else n) < (10 : Int) ^ 18)) ns)).length ≤ 63 := by
      rw [List.length_map]
      exact Nat.le_trans (List.length_filter_le _ _) hlen
    generalize List.map (fun n => n % 1000000007) (List.filter (fun n => decide ((if n < 0 then -n else n) < (10 : Int) ^ 18)) ns) = ss at lss ⊢
    refine ⟨_, rfl, D, _, rfl, .inl (SqL.lt (Same.new hS2 _ _ hD2)), _, _, rfl, rfl, by show 1 ≤ sizeLine; decide, fun L hL => ?_⟩
    dsimp only
    have em : ss.map V.int ++ [V.int ((List.map V.int ns).length + 1)] = (ss ++ [(((List.map V.int ns).length : Nat) : Int) + 1]).map V.int := by simp
    refine ⟨S, L, _, _, rfl, rfl, Same.new hL _ _ upd_same, upd_same, ?_, fun M hM => ?_⟩
    · rw [List.length_map]
      show ss.length + 1 ≤ sizeLine
      exact Nat.le_trans (Nat.succ_le_succ lss) (by decide)
    have s3 := ((Same.new hS2).trans (Same.new hL)).trans (Same.new (o := .lst (ss.map V.int ++ [V.int ((List.map V.int ns).length + 1)])) hM)
    have nGM : G ≠ M := ne_of_none (((Same.new hS2).trans (Same.new hL)) _ _ hG2) hM
    rw [em] at s3 ⊢
    have hM1 := upd_same (H := upd (upd H2 S (.lst (ss.map V.int))) L (.lst [V.int ((List.map V.int ns).length + 1)])) (a := M) (o := .lst ((ss ++ [(((List.map V.int ns).length : Nat) : Int) + 1]).map V.int))
    refine ⟨_, rfl, _, rfl, _, rfl, M, _, rfl, SqL.lt hM1, .inl ⟨_, rfl, _, _, rfl, rfl, (by show (0 : Int) < 999983; decide), (by show 4 ≤ sizeLine; decide), fun R hR => ?_⟩⟩
    have s4 := Same.new (o := .lst [.ref G, .ref M, .int 0, .int ((ss ++ [(((List.map V.int ns).length : Nat) : Int) + 1]).sum % 999983)]) hR
    refine k ⟨R, G, M⟩ _ ⟨nGM, gs, ss ++ [(((List.map V.int ns).length : Nat) : Int) + 1], 0, _, upd_same, s4 _ _ (s3 _ _ hG2), s4 _ _ hM1, by simp⟩ ((s2.trans s3).trans s4) ((s2.trans s3).free hR)
theorem cm_l {i j : Int} (h0 : -(2 ^ 64) < i) (h1 : i < 2 ^ 64) : CMul i j := .inl ⟨h0, h1⟩
theorem cm_r {i j : Int} (h0 : -(2 ^ 64) < j) (h1 : j < 2 ^ 64) : CMul i j := .inr ⟨h0, h1⟩
theorem div_small {i j : Int} (h : 0 < j) (hj : small j) : CDivW i j := wide_div (b := 200) h hj (by decide) (by decide)
theorem small_of {n : Int} (h : n.natAbs < 2 ^ 64) : small n := Nat.lt_of_lt_of_le h (Nat.pow_le_pow_right (by decide) (by decide))
theorem ix0 (x : Int) (l : List Int) : ixN (List.map V.int (x :: l)).length 0 = some 0 := by
  unfold ixN
  rw [if_pos (by decide), if_pos (by simp <;> omega)]
  rfl

theorem sc_law_draw : FnScope ["pot", "many", "turn", "number", "seed"] ["pot", "many"] (defScope s_law_draw) := ⟨rfl, rfl, rfl, by decide +kernel, rfl, by decide +kernel, by decide +kernel⟩
theorem ok_law_draw (T : Txt K mg A) : FnOk P w K mg base CX0 1 A.f_law_draw A.d_law_draw ["pot", "many"] (spDraw) := by
  refine T.F_law_draw.ok sc_law_draw (fun vs H Q E h => ?_) (fun cdv A1 outer s H vs Q E hr h => ?_)
  · obtain ⟨p, many, rfl, _⟩ := h
    rfl
  · obtain ⟨p, many, rfl, ⟨ngs, gs, ss, t, n, hA, hG, hS, hne⟩, hm, hsm, k⟩ := h
    have nag : p.a ≠ p.g := fun z => by
      rw [z, hG] at hA
      cases gs <;> simp at hA
    have nas : p.a ≠ p.s := fun z => by
      rw [z, hS] at hA
      cases ss <;> simp at hA
    refine ⟨_, (pss_cons (ps_set (i := 2) sc_law_draw.nd rfl (Or.inl rfl) (pe_ix (ix_listK K rfl) (pv 0) pe_int (fun _ _ => rfl)))
      (pss_cons (ps_asg (pe_op op_add (pv 2) pe_int) (pg_sub (pv 0) pe_int set_list))
      (pss_cons (ps_if (pt_cmpR op_gt (pe_callB (call_lenK K rfl) (by rfl) T.z_len (by decide +kernel) (pa_cons (pe_ix (ix_listK K rfl) (pv 0) pe_int (fun _ _ => rfl)) pa_nil)) pe_int (nomark _)) (pss_cons (ps_set (i := 3) sc_law_draw.nd rfl (Or.inl rfl) (pe_ix (ix_listK K rfl) (pe_ix (ix_listK K rfl) (pv 0) pe_int (fun _ _ => rfl)) pe_int (fun _ _ => rfl)))
      (pss_cons (ps_asg (pe_op op_fdivW (pv 3) (pv 1)) (pg_sub (pe_ix (ix_listK K rfl) (pv 0) pe_int (fun _ _ => rfl)) pe_int set_list))
      (pss_cons (ps_if (pt_cmpR op_lt (pv 3) (pv 1) (nomark _)) (pss_one (ps_expr (pe_bm PySem.F.plainAttrs_list PySem.F.slot_list_pop PySem.F.type_list_pop mt_popAt (pe_ix (ix_listK K rfl) (pv 0) pe_int (fun _ _ => rfl)) (pa_cons pe_int pa_nil)))) pss_nil)
      (pss_one (ps_ret (pe_op op_mod (pe_callTy call_int1 (by rfl) T.z_int (by decide +kernel) (pa_cons (pv 3) pa_nil)) (pv 1))))))) pss_nil)
      (pss_cons (ps_set (i := 4) sc_law_draw.nd rfl (Or.inl rfl) (pe_op op_add (pe_op op_add (pe_op op_mul (pe_ix (ix_listK K rfl) (pe_ix (ix_listK K rfl) (pv 0) pe_int (fun _ _ => rfl)) (pe_op op_mod (pe_callTy call_int1 (by rfl) T.z_int (by decide +kernel) (pa_cons (pv 2) pa_nil)) (pe_callB (call_lenK K rfl) (by rfl) T.z_len (by decide +kernel) (pa_cons (pe_ix (ix_listK K rfl) (pv 0) pe_int (fun _ _ => rfl)) pa_nil))) (fun _ _ => rfl)) pe_int) (pe_op op_mul pe_int (pv 2))) (pe_op op_mul (pe_ix (ix_listK K rfl) (pv 0) pe_int (fun _ _ => rfl)) pe_int)))
      (pss_cons (ps_set (i := 3) sc_law_draw.nd rfl (Or.inl rfl) (pe_op op_mod (pe_callTy call_int1 (by rfl) T.z_int (by decide +kernel) (pa_cons (pe_op op_add (pe_op op_mul (pv 4) pe_int) pe_int) pa_nil)) pe_int))
      (pss_cons (ps_set (i := 3) sc_law_draw.nd rfl (Or.inl rfl) (pe_op op_mod (pe_callTy call_int1 (by rfl) T.z_int (by decide +kernel) (pa_cons (pe_op op_mul (pv 3) (pe_op op_add (pe_op op_fdivW (pv 3) pe_int) pe_int)) pa_nil)) pe_int))
      (pss_cons (ps_set (i := 3) sc_law_draw.nd rfl (Or.inl rfl) (pe_op op_mod (pe_callTy call_int1 (by rfl) T.z_int (by decide +kernel) (pa_cons (pe_op op_add (pe_op op_mul (pv 3) (pe_op op_add (pe_op op_fdivW (pv 3) pe_int) pe_int)) (pv 2)) pa_nil)) pe_int))
      (pss_one (ps_ret (pe_op op_mod (pe_callTy call_int1 (by rfl) T.z_int (by decide +kernel) (pa_cons (pe_op op_fdivW (pv 3) pe_int) pa_nil)) (pv 1))))))))))), ?_⟩
    refine ⟨_, rfl, p.a, _, 2, .int t, rfl, rfl, SqL.lt hA, rfl, ?_⟩
    dsimp only
    refine ⟨_, rfl, _, _, rfl, rfl, _, rfl, p.a, _, 2, 2, rfl, rfl, hA, rfl, ?_⟩
    dsimp only
    have hA1 : upd H p.a (.lst (([.ref p.g, .ref p.s, .int t, .int n] : List V).set 2 (.int (t + 1)))) p.a = some (.lst [.ref p.g, .ref p.s, .int (t + 1), .int n]) := upd_same
    have b1 : But p.l H (upd H p.a (.lst (([.ref p.g, .ref p.s, .int t, .int n] : List V).set 2 (.int (t + 1))))) := But.at (by simp [Pt.l])
    have hG1 : upd H p.a (.lst (([.ref p.g, .ref p.s, .int t, .int n] : List V).set 2 (.int (t + 1)))) p.g = some (.lst (gs.map V.int)) := by rw [upd_ne nag.symm]; exact hG
    have hS1 : upd H p.a (.lst (([.ref p.g, .ref p.s, .int t, .int n] : List V).set 2 (.int (t + 1)))) p.s = some (.lst (ss.map V.int)) := by rw [upd_ne nas.symm]; exact hS
    generalize upd H p.a (.lst (([.ref p.g, .ref p.s, .int t, .int n] : List V).set 2 (.int (t + 1)))) = H1 at hA1 b1 hG1 hS1 ⊢
    refine ⟨_, rfl, p.a, _, 0, .ref p.g, rfl, rfl, SqL.lt hA1, rfl, p.g, _, rfl, .inl (SqL.lt hG1), _, _, rfl, rfl, _, rfl, ?_⟩
    refine ite2 (fun c => ?_) (fun c => ?_)
    · cases gs with
      | nil => simp at c
      | cons x gs =>
        refine ⟨_, rfl, p.a, _, 0, .ref p.g, rfl, rfl, SqL.lt hA1, rfl, p.g, _, 0, .int x, rfl, rfl, SqL.lt hG1, at_ge (by decide) rfl, ?_⟩
        dsimp only
        refine ⟨_, rfl, _, rfl, _, _, rfl, rfl, div_small hm hsm, _, rfl, p.a, _, 0, .ref p.g, rfl, rfl, SqL.lt hA1, rfl, p.g, _, 0, 0, rfl, rfl, hG1, ix0 _ _, ?_⟩
        dsimp only
        have hA2 : upd H1 p.g (.lst ((List.map V.int (x :: gs)).set 0 (.int (x / many)))) p.a = some (.lst [.ref p.g, .ref p.s, .int (t + 1), .int n]) := by rw [upd_ne nag]; exact hA1
        have hG2 : upd H1 p.g (.lst ((List.map V.int (x :: gs)).set 0 (.int (x / many)))) p.g = some (.lst ((x / many :: gs).map V.int)) := upd_same
        have hS2 : upd H1 p.g (.lst ((List.map V.int (x :: gs)).set 0 (.int (x / many)))) p.s = some (.lst (ss.map V.int)) := by rw [upd_ne ngs.symm]; exact hS1
        have b2 : But p.l H (upd H1 p.g (.lst ((List.map V.int (x :: gs)).set 0 (.int (x / many))))) := b1.trans (But.at (by simp [Pt.l]))
        generalize upd H1 p.g (.lst ((List.map V.int (x :: gs)).set 0 (.int (x / many)))) = H2 at hA2 b2 hG2 hS2 ⊢
        have r0 := Int.emod_nonneg x (Int.ne_of_gt hm)
        have r1 := Int.emod_lt_of_pos x hm
        refine ⟨_, rfl, _, rfl, _, _, rfl, rfl, _, rfl, ?_⟩
        refine ite2 (fun c => ?_) (fun c => ?_)
        · refine ⟨_, rfl, p.a, _, 0, .ref p.g, rfl, rfl, SqL.lt hA2, rfl, .inl ⟨rfl, _, SqL.lt hG2⟩, p.g, _, 0, 0, .int (x / many), rfl, rfl, hG2, by decide, by decide, (ixN_seq (ix0 _ _)).1, rfl, ?_⟩
          dsimp only
          have hA3 : upd H2 p.g (.lst ((List.map V.int (x / many :: gs)).eraseIdx 0)) p.a = some (.lst [.ref p.g, .ref p.s, .int (t + 1), .int n]) := by rw [upd_ne nag]; exact hA2
          have hG3 : upd H2 p.g (.lst ((List.map V.int (x / many :: gs)).eraseIdx 0)) p.g = some (.lst (gs.map V.int)) := upd_same
          have hS3 : upd H2 p.g (.lst ((List.map V.int (x / many :: gs)).eraseIdx 0)) p.s = some (.lst (ss.map V.int)) := by rw [upd_ne ngs.symm]; exact hS2
          have b3 : But p.l H (upd H2 p.g (.lst ((List.map V.int (x / many :: gs)).eraseIdx 0))) := b2.trans (But.at (by simp [Pt.l]))
          exact ⟨_, rfl, .inl ⟨_, rfl, _, rfl, _, _, rfl, rfl, hm, k _ _ r0 r1 ⟨ngs, gs, ss, t + 1, n, hA3, hG3, hS3, hne⟩ b3⟩⟩
        · exact ⟨_, rfl, .inl ⟨_, rfl, _, rfl, _, _, rfl, rfl, hm, k _ _ r0 r1 ⟨ngs, x / many :: gs, ss, t + 1, n, hA2, hG2, hS2, hne⟩ b2⟩⟩
    · have lp : (0 : Int) < ((ss.map V.int).length : Int) := by
        cases ss with
        | nil => exact absurd rfl hne
        | cons y ys => simp <;> omega
      have i0 := Int.emod_nonneg t (Int.ne_of_gt lp)
      have i1 := Int.emod_lt_of_pos t lp
      obtain ⟨y, hy⟩ : ∃ y, ss[(t % ((ss.map V.int).length : Int)).toNat]? = some y := by
        have z : (t % ((ss.map V.int).length : Int)).toNat < ss.length := by rw [List.length_map] at i0 i1 ⊢; omega
        exact ⟨_, List.getElem?_eq_getElem z⟩
      refine ⟨_, rfl, p.a, _, 1, .ref p.s, rfl, rfl, SqL.lt hA1, rfl, _, rfl, .inl ⟨_, rfl, _, rfl, p.a, _, 1, .ref p.s, rfl, rfl, SqL.lt hA1, rfl, p.s, _, rfl, .inl (SqL.lt hS1), _, _, rfl, rfl, lp, ?_⟩⟩
      dsimp only
      refine ⟨p.s, _, _, .int y, rfl, rfl, SqL.lt hS1, at_ge i0 (by rw [List.getElem?_map, hy]; rfl), ?_⟩
      dsimp only
      refine ⟨_, _, rfl, rfl, cm_r (by decide) (by decide), _, rfl, _, _, rfl, rfl, cm_l (by decide) (by decide), _, _, rfl, rfl, ?_⟩
      dsimp only
      refine ⟨_, rfl, p.a, _, 3, .int n, rfl, rfl, SqL.lt hA1, rfl, _, _, rfl, rfl, cm_r (by decide) (by decide), _, _, rfl, rfl, ?_⟩
      dsimp only
      generalize y * 7919 + 104729 * t + n * 31 = seed
      refine ⟨_, rfl, _, _, rfl, rfl, cm_r (by decide) (by decide), _, _, rfl, rfl, .inl ⟨_, rfl, _, _, rfl, rfl, (by show (0 : Int) < 2147483647; decide), ?_⟩⟩
      dsimp only
      have a0 := Int.emod_nonneg (seed * 48271 + 11) (show (2147483647 : Int) ≠ 0 by decide)
      have a1 := Int.emod_lt_of_pos (seed * 48271 + 11) (show (0 : Int) < 2147483647 by decide)
      generalize (seed * 48271 + 11) % 2147483647 = n1 at a0 a1 ⊢
      refine ⟨_, rfl, _, rfl, _, _, rfl, rfl, div_small (by decide) (small_of (by decide)), _, _, rfl, rfl, _, _, rfl, rfl, cm_l (by omega) (by omega), .inl ⟨_, rfl, _, _, rfl, rfl, (by show (0 : Int) < 2147483629; decide), ?_⟩⟩
      dsimp only
      have d0 := Int.emod_nonneg (n1 * (n1 / 1009 + 69621)) (show (2147483629 : Int) ≠ 0 by decide)
      have d1 := Int.emod_lt_of_pos (n1 * (n1 / 1009 + 69621)) (show (0 : Int) < 2147483629 by decide)
      generalize (n1 * (n1 / 1009 + 69621)) % 2147483629 = n2 at d0 d1 ⊢
      refine ⟨_, rfl, _, rfl, _, _, rfl, rfl, div_small (by decide) (small_of (by decide)), _, _, rfl, rfl, _, _, rfl, rfl, cm_l (by omega) (by omega), _, rfl, _, _, rfl, rfl, .inl ⟨_, rfl, _, _, rfl, rfl, (by show (0 : Int) < 2147483399; decide), ?_⟩⟩
      dsimp only
      generalize (n2 * (n2 / 2003 + 40692) + t) % 2147483399 = n3
      refine ⟨_, rfl, _, _, rfl, rfl, div_small (by decide) (small_of (by decide)), .inl ⟨_, rfl, _, rfl, _, _, rfl, rfl, hm, ?_⟩⟩
      exact k _ _ (Int.emod_nonneg _ (Int.ne_of_gt hm)) (Int.emod_lt_of_pos _ hm) ⟨ngs, gs, ss, t + 1, n, hA1, hG1, hS1, hne⟩ b1
/-- tries and points of an event, right ones -/
def spCountsR : Sp := fun vs H Q _ => ∃ t p : Int, vs = [.int t, .int p] ∧ 1 ≤ t ∧ t ≤ 40 ∧ -400 ≤ p ∧ p ≤ 400 ∧ Q (.bl true) H
def spEventR (K : PySem.W.Frag) : Sp := fun vs H Q _ => ∃ (v : V) (n : Int) (e : List Int), vs = [v, .int n] ∧ IT K H v e ∧ okEv n e ∧ Q (.bl true) H
def spInitR (K : PySem.W.Frag) (C : Addr) : Sp := fun vs H Q _ => ∃ (m dx : Addr) (n : Int) (w : V) (evs : List (List Int)), vs = [.ref m, .int n, w] ∧ H m = some (.ins C dx []) ∧ 1 ≤ n ∧ n ≤ 12 ∧ ITs K H w evs ∧ evs.length ≤ 30 ∧ (∀ e ∈ evs, okEv n e) ∧
  ∀ H', H' m = some (.ins C dx (mf n w)) → (∀ b o, b ≠ m → H b = some o → H' b = some o) → Q .non H'
theorem dec_t {a b c : Int} (h1 : a ≤ b) (h2 : b ≤ c) : decide (a ≤ b ∧ b ≤ c) = true := decide_eq_true ⟨h1, h2⟩

theorem sc_are_counts : FnScope ["tries", "points"] ["tries", "points"] (defScope s_are_counts) := ⟨rfl, rfl, rfl, by decide +kernel, rfl, by decide +kernel, by decide +kernel⟩
theorem ok_are_counts (T : Txt K mg A) : FnOk P w K mg base CX0 3 A.f_are_counts A.d_are_counts ["tries", "points"] (spCountsR) := by
  refine T.F_are_counts.ok sc_are_counts (fun vs H Q E h => ?_) (fun cdv A1 outer s H vs Q E hr h => ?_)
  · obtain ⟨t, p, rfl, _⟩ := h
    rfl
  · obtain ⟨t, p, rfl, h1, h2, h3, h4, q⟩ := h
    refine ⟨_, (pss_one (ps_ret (pe_and (pe_call (ok_is_between T) (hr.mono (by decide)) rfl T.m_is_between T.F_is_between.kp T.B_is_between .nil pass0 (pa_cons (pv 0) (pa_cons pe_int (pa_cons (pe_glob (v := .int 40) rfl T.c_MOST_TRIES ⟨_, rfl⟩) pa_nil)))) (pe_one (pe_call (ok_is_between T) (hr.mono (by decide)) rfl T.m_is_between T.F_is_between.kp T.B_is_between .nil pass0 (pa_cons (pv 1) (pa_cons (pe_un un_neg (pe_glob (v := .int 400) rfl T.c_MOST_POINTS ⟨_, rfl⟩)) (pa_cons (pe_glob (v := .int 400) rfl T.c_MOST_POINTS ⟨_, rfl⟩) pa_nil)))))))), ?_⟩
    refine ⟨_, rfl, t, 1, 40, rfl, _, rfl, ?_⟩
    rw [dec_t h1 h2]
    refine iteT ⟨_, rfl, _, rfl, p, -400, 400, rfl, ?_⟩
    rw [dec_t h3 h4]
    exact q
theorem sc_is_event : FnScope ["thing", "standings", "before", "after", "tries", "points", "last"] ["thing", "standings"] (defScope s_is_event) := ⟨rfl, rfl, rfl, by decide +kernel, rfl, by decide +kernel, by decide +kernel⟩
theorem ok_is_event (T : Txt K mg A) : FnOk P w K mg base CX0 4 A.f_is_event A.d_is_event ["thing", "standings"] (spEventR K) := by
  refine T.F_is_event.ok sc_is_event (fun vs H Q E h => ?_) (fun cdv A1 outer s H vs Q E hr h => ?_)
  · obtain ⟨v, n, e, rfl, _⟩ := h
    rfl
  · obtain ⟨v, n, e, rfl, hv, ⟨b, a, t, p, rfl, b0, b1, a0, a1, t0, t1, p0, p1⟩, q⟩ := h
    obtain ⟨x, rfl, hx⟩ := id hv
    refine ⟨_, (pss_cons (ps_if (PW.pt (pw_or (pt_not (pt_val (pe_callB (call_isK K rfl) (by rfl) T.z_isinstance (by decide +kernel) (pa_cons (pv 0) (pa_cons (pe_bltn (v := .ty "tuple") (u := .type "tuple") rfl T.z_tuple (by decide +kernel) rfl) pa_nil))))) (pw_or1 (pt_cmpR op_ne (pe_callB (call_lenK K rfl) (by rfl) T.z_len (by decide +kernel) (pa_cons (pv 0) pa_nil)) pe_int (nomark _))))) (pss_one (ps_ret pe_bl)) pss_nil)
      (pss_cons (ps_asg (pv 0) (pg_tupK K rfl 4 rfl (pgs_cons (pg_name (i := 2) sc_is_event.nd rfl (Or.inl rfl)) (pgs_cons (pg_name (i := 3) sc_is_event.nd rfl (Or.inl rfl)) (pgs_cons (pg_name (i := 4) sc_is_event.nd rfl (Or.inl rfl)) (pgs_cons (pg_name (i := 5) sc_is_event.nd rfl (Or.inl rfl)) pgs_nil)))) rfl rfl))
      (pss_cons (ps_set (i := 6) sc_is_event.nd rfl (Or.inl rfl) (pe_op op_sub (pv 1) pe_int))
      (pss_one (ps_ret (pe_and (pe_call (ok_is_between T) (hr.mono (by decide)) rfl T.m_is_between T.F_is_between.kp T.B_is_between .nil pass0 (pa_cons (pv 2) (pa_cons pe_int (pa_cons (pv 6) pa_nil)))) (pe_and (pe_call (ok_is_between T) (hr.mono (by decide)) rfl T.m_is_between T.F_is_between.kp T.B_is_between .nil pass0 (pa_cons (pv 3) (pa_cons pe_int (pa_cons (pv 6) pa_nil)))) (pe_one (pe_call (ok_are_counts T) (hr.mono (by decide)) rfl T.m_are_counts T.F_are_counts.kp T.B_are_counts .nil pass0 (pa_cons (pv 4) (pa_cons (pv 5) pa_nil))))))))))), ?_⟩
    refine ⟨_, rfl, isT rfl hx ⟨true, rfl, iteF ⟨_, rfl, lenI hv fun ys e => ?_⟩⟩⟩
    rw [e]
    refine ⟨rfl, _, rfl, iteF ?_⟩
    refine ⟨_, rfl, x, _, rfl, hx, rfl, .int b, _, rfl, .int a, _, rfl, .int t, _, rfl, .int p, _, rfl, rfl, ?_⟩
    dsimp only
    refine ⟨_, rfl, _, _, rfl, rfl, ?_⟩
    refine ⟨_, rfl, _, rfl, b, 0, n - 1, rfl, _, rfl, ?_⟩
    rw [dec_t b0 (by omega)]
    refine iteT ⟨_, rfl, _, rfl, a, 0, n - 1, rfl, _, rfl, ?_⟩
    rw [dec_t a0 (by omega)]
    exact iteT ⟨_, rfl, _, rfl, t, p, rfl, t0, t1, p0, p1, q⟩
theorem sc_Machine___init__ : FnScope ["self", "standings", "events", "number", "thing"] ["self", "standings", "events"] (defScope s_Machine___init__) := ⟨rfl, rfl, rfl, by decide +kernel, rfl, by decide +kernel, by decide +kernel⟩
theorem ok_Machine___init__ (T : Txt K mg A) : FnOk P w K mg base CX0 5 A.f_Machine___init__ A.d_Machine___init__ ["self", "standings", "events"] (spInitR K A.C_Machine) := by
  refine T.F_Machine___init__.ok sc_Machine___init__ (fun vs H Q E h => ?_) (fun cdv A1 outer s H vs Q E hr h => ?_)
  · obtain ⟨m, dx, n, w, evs, rfl, _⟩ := h
    rfl
  · obtain ⟨m, dx, n, w, evs, rfl, hm, n0, n1, hw, l30, ok, k⟩ := h
    obtain ⟨x, xs, rfl, hx, al⟩ := id hw
    refine ⟨_, (pss_cons (ps_if (pt_not (pt_val (pe_call (ok_is_between T) (hr.mono (by decide)) rfl T.m_is_between T.F_is_between.kp T.B_is_between .nil pass0 (pa_cons (pv 1) (pa_cons pe_int (pa_cons (pe_glob (v := .int 12) rfl T.c_MOST_STANDINGS ⟨_, rfl⟩) pa_nil)))))) (pss_one ps_never) pss_nil)
      (pss_cons (ps_if (PW.pt (pw_or (pt_not (pt_val (pe_callB (call_isK K rfl) (by rfl) T.z_isinstance (by decide +kernel) (pa_cons (pv 2) (pa_cons (pe_bltn (v := .ty "tuple") (u := .type "tuple") rfl T.z_tuple (by decide +kernel) rfl) pa_nil))))) (pw_or1 (pt_cmpR op_gt (pe_callB (call_lenK K rfl) (by rfl) T.z_len (by decide +kernel) (pa_cons (pv 2) pa_nil)) (pe_glob (v := .int 30) rfl T.c_MOST_EVENTS ⟨_, rfl⟩) (nomark _))))) (pss_one ps_never) pss_nil)
      (pss_cons (ps_for PassesOwn.never rfl (pi_enumT rfl T.z_enumerate (pa_cons (pv 2) pa_nil)) (pg_tupK K rfl 2 rfl (pgs_cons (pg_name (i := 3) sc_Machine___init__.nd rfl (Or.inl rfl)) (pgs_cons (pg_name (i := 4) sc_Machine___init__.nd rfl (Or.inl rfl)) pgs_nil)) rfl rfl)
        (pss_one (ps_if (pt_not (pt_val (pe_call (ok_is_event T) (hr.mono (by decide)) rfl T.m_is_event T.F_is_event.kp T.B_is_event .nil pass0 (pa_cons (pv 4) (pa_cons (pv 1) pa_nil))))) (pss_one ps_never) pss_nil)))
      (pss_cons (ps_fld (pv 0) (pv 1) rfl)
      (pss_one (ps_fld (pv 0) (pv 2) rfl)))))), ?_⟩
    refine ⟨_, rfl, n, 1, 12, rfl, _, rfl, ?_⟩
    rw [dec_t n0 n1]
    refine iteF ⟨_, rfl, isT rfl hx ⟨true, rfl, iteF ⟨_, rfl, lenT hw fun ys e => ⟨_, _, rfl, rfl, _, rfl, ?_⟩⟩⟩⟩
    rw [e]
    rw [decide_eq_false (by omega)]
    refine iteF ⟨_, rfl, x, xs, rfl, hx, ?_⟩
    refine for_enT (K := K) (a := x) (xs := xs) (fun i σ H' => (∃ u v, σ = [some (.ref m), some (.int n), some (.ref x), u, v]) ∧ Same H H') ⟨⟨_, _, rfl⟩, Same.refl _⟩ (fun i σ H' _ q => SqT.keep (Keep.of q.2) hx) ?_ ?_
    · rintro i y σ H1 T1 hi ⟨⟨u, v, rfl⟩, s1⟩ hT
      have s2 := s1.trans (Same.new (o := .tup [.int (i : Nat), y]) hT)
      obtain ⟨e, he, hy⟩ := al.getL hi
      refine ⟨T1, _, rfl, SqT.lt upd_same, rfl, .int (i : Nat), _, rfl, y, _, rfl, rfl, ?_⟩
      dsimp only
      refine ⟨_, rfl, _, rfl, y, n, e, rfl, hy.keep (Keep.of s2), ok e (List.mem_of_getElem? he), true, rfl, iteF ?_⟩
      exact ⟨⟨_, _, rfl⟩, s2⟩
    · rintro σ H1 ⟨⟨u, v, rfl⟩, s1⟩
      refine ⟨_, rfl, _, rfl, m, A.C_Machine, dx, [], rfl, s1 _ _ hm, T.cl_Machine, T.n_standings, (by decide), ?_⟩
      dsimp only
      refine ⟨_, rfl, _, rfl, m, A.C_Machine, dx, _, rfl, upd_same, T.cl_Machine, T.n_events, (by show 1 < 1000; decide), ?_⟩
      dsimp only
      refine k _ upd_same (fun b o nb hb => ?_)
      rw [upd_ne nb, upd_ne nb]
      exact s1 _ _ hb
def spHas (K : PySem.W.Frag) (C : Addr) : Sp := fun vs H Q _ => ∃ (m : V) (k n : Int) (evs : List (List Int)), vs = [m, .int k] ∧ MachAt K C H m n evs ∧ Q (.bl (decide (0 ≤ k ∧ k ≤ (evs.length : Int) - 1))) H
def spRun (K : PySem.W.Frag) (C : Addr) : Sp := fun vs H Q _ => ∃ (m v : V) (n : Int) (evs : List (List Int)) (run : List Int), vs = [m, v] ∧ MachAt K C H m n evs ∧ (∀ e ∈ evs, Four e) ∧ IT K H v run ∧ Q (.bl (walkTo evs 0 run).isSome) H
def spLiftOf (K : PySem.W.Frag) : Sp := fun vs H Q _ => ∃ (x y : V) (a b t p : Int), vs = [x, y] ∧ IT K H x [a, b] ∧ IT K H y [t, p] ∧ -(2 ^ 64) < t ∧ t < 2 ^ 64 ∧ -(2 ^ 64) < p ∧ p < 2 ^ 64 ∧ Q (.int (b * p - a * t)) H
def spPairR (K : PySem.W.Frag) : Sp := fun vs H Q _ => ∃ (x : V) (a b : Int), vs = [x] ∧ IT K H x [a, b] ∧ Q (.bl true) H
def spShareR (K : PySem.W.Frag) : Sp := fun vs H Q _ => ∃ (x : V) (a b : Int), vs = [x] ∧ IT K H x [a, b] ∧ 1 ≤ b ∧ gcdI a b = 1 ∧ Q (.bl true) H
def spShareOf (K : PySem.W.Frag) : Sp := fun vs H Q _ => ∃ (p t : Int), vs = [.int p, .int t] ∧ 0 < t ∧ small t ∧ ∀ (q : Addr) (H' : Hp), Same H H' → H q = none → IT K H' (.ref q) [p / gcdI p t, t / gcdI p t] → Q (.ref q) H'
/-- places of events -/
def spTotal (K : PySem.W.Frag) (C : Addr) : Sp := fun vs H Q _ => ∃ (m v : V) (n : Int) (evs : List (List Int)) (run : List Int), vs = [m, v] ∧ MachAt K C H m n evs ∧ (∀ e ∈ evs, Four e) ∧ IT K H v run ∧ InEv evs run ∧ run.length ≤ 1000 ∧
  ∀ (q : Addr) (H' : Hp), Same H H' → IT K H' (.ref q) [sumT evs run, sumP evs run] → Q (.ref q) H'
theorem gcdI_pos {p t : Int} (h : 0 < t) : 0 < gcdI p t := by
  unfold gcdI
  have : 0 < Nat.gcd p.natAbs t.natAbs := Nat.gcd_pos_of_pos_right _ (by omega)
  omega
theorem gcdI_le {p t : Int} (h : 0 < t) : gcdI p t ≤ t := by
  unfold gcdI
  have := Nat.gcd_le_right p.natAbs (show 0 < t.natAbs by omega)
  omega
theorem small_le {n m : Int} (h0 : 0 ≤ n) (h : n ≤ m) (s : small m) : small n := Nat.lt_of_le_of_lt (by omega) s
theorem ev_at {evs : List (List Int)} {k : Int} (f : ∀ e ∈ evs, Four e) (h0 : 0 ≤ k) (h1 : k < (evs.length : Int)) : ∃ b a t p : Int, evs[k.toNat]? = some [b, a, t, p] ∧ evs.getD k.toNat [] = [b, a, t, p] := by
  have hk : k.toNat < evs.length := by omega
  obtain ⟨b, a, t, p, e⟩ := f _ (List.getElem_mem hk)
  exact ⟨b, a, t, p, by rw [List.getElem?_eq_getElem hk, e], by rw [List.getD_eq_getElem?_getD, List.getElem?_eq_getElem hk, e]; rfl⟩

theorem sc_has_event : FnScope ["machine", "thing"] ["machine", "thing"] (defScope s_has_event) := ⟨rfl, rfl, rfl, by decide +kernel, rfl, by decide +kernel, by decide +kernel⟩
theorem ok_has_event (T : Txt K mg A) : FnOk P w K mg base CX0 3 A.f_has_event A.d_has_event ["machine", "thing"] (spHas K A.C_Machine) := by
  refine T.F_has_event.ok sc_has_event (fun vs H Q E h => ?_) (fun cdv A1 outer s H vs Q E hr h => ?_)
  · obtain ⟨m, k, n, evs, rfl, _⟩ := h
    rfl
  · obtain ⟨m, k, n, evs, rfl, hM, q⟩ := h
    refine ⟨_, (pss_one (ps_ret (pe_call (ok_is_between T) (hr.mono (by decide)) rfl T.m_is_between T.F_is_between.kp T.B_is_between .nil pass0 (pa_cons (pv 1) (pa_cons pe_int (pa_cons (pe_op op_sub (pe_callB (call_lenK K rfl) (by rfl) T.z_len (by decide +kernel) (pa_cons (pe_fldK K rfl (pv 0) (by rfl)) pa_nil)) pe_int) pa_nil)))))), ?_⟩
    refine ⟨_, rfl, _, rfl, fldE hM T.cl_Machine T.n_events fun w hw => lenT hw fun ys e => ?_⟩
    rw [e]
    exact ⟨_, _, rfl, rfl, k, 0, _, rfl, q⟩
theorem sc_is_run : FnScope ["machine", "thing", "standing", "number"] ["machine", "thing"] (defScope s_is_run) := ⟨rfl, rfl, rfl, by decide +kernel, rfl, by decide +kernel, by decide +kernel⟩
theorem ok_is_run (T : Txt K mg A) : FnOk P w K mg base CX0 4 A.f_is_run A.d_is_run ["machine", "thing"] (spRun K A.C_Machine) := by
  refine T.F_is_run.ok sc_is_run (fun vs H Q E h => ?_) (fun cdv A1 outer s H vs Q E hr h => ?_)
  · obtain ⟨m, v, n, evs, run, rfl, _⟩ := h
    rfl
  · obtain ⟨m, v, n, evs, run, rfl, hM, f4, hv, q⟩ := h
    obtain ⟨x, rfl, hx⟩ := id hv
    refine ⟨_, (pss_cons (ps_if (pt_not (pt_val (pe_callB (call_isK K rfl) (by rfl) T.z_isinstance (by decide +kernel) (pa_cons (pv 1) (pa_cons (pe_bltn (v := .ty "tuple") (u := .type "tuple") rfl T.z_tuple (by decide +kernel) rfl) pa_nil))))) (pss_one (ps_ret pe_bl)) pss_nil)
      (pss_cons (ps_set (i := 2) sc_is_run.nd rfl (Or.inl rfl) pe_int)
      (pss_cons (ps_for PassesOwn.never rfl (pi_tup (pv 1)) (pg_name (i := 3) sc_is_run.nd rfl (Or.inl rfl))
        (pss_cons (ps_if (PW.pt (pw_or (pt_not (pt_val (pe_call (ok_has_event T) (hr.mono (by decide)) rfl T.m_has_event T.F_has_event.kp T.B_has_event .nil pass0 (pa_cons (pv 0) (pa_cons (pv 3) pa_nil))))) (pw_or1 (pt_cmpR op_ne (pe_ix (ix_tupK K rfl) (pe_ix (ix_tupK K rfl) (pe_fldK K rfl (pv 0) (by rfl)) (pv 3) (fun _ _ => rfl)) pe_int (fun _ _ => rfl)) (pv 2) (nomark _))))) (pss_one (ps_ret pe_bl)) pss_nil)
      (pss_one (ps_set (i := 2) sc_is_run.nd rfl (Or.inl rfl) (pe_ix (ix_tupK K rfl) (pe_ix (ix_tupK K rfl) (pe_fldK K rfl (pv 0) (by rfl)) (pv 3) (fun _ _ => rfl)) pe_int (fun _ _ => rfl))))))
      (pss_one (ps_ret pe_bl))))), ?_⟩
    refine ⟨_, rfl, isT rfl hx ⟨true, rfl, iteF ?_⟩⟩
    refine ⟨_, rfl, x, rfl, ⟨_, hx⟩, ?_⟩
    refine for_tup (K := K) (a := x) (xs := run.map V.int) (fun i σ H' => H' = H ∧ ∃ s u, σ = [some m, some (.ref x), some (.int s), u] ∧ walkTo evs 0 (run.take i) = some s) ⟨rfl, 0, _, rfl, rfl⟩ (fun i σ H' _ z => by rw [z.1]; exact hx) ?_ ?_
    · rintro i y σ H' hi ⟨rfl, s, u, rfl, hw⟩
      obtain ⟨k, hk, rfl⟩ : ∃ k, run[i]? = some k ∧ y = V.int k := by
        rw [List.getElem?_map] at hi
        cases z : run[i]? with
        | none => rw [z] at hi; cases hi
        | some n => rw [z] at hi; exact ⟨n, rfl, (Option.some.inj hi).symm⟩
      have tk := take_succ hk
      have split : run = run.take i ++ k :: run.drop (i + 1) := by
        have hlt := (List.getElem?_eq_some_iff.mp hk).1
        have z : run.drop i = k :: run.drop (i + 1) := by
          rw [List.drop_eq_getElem_cons hlt, (List.getElem?_eq_some_iff.mp hk).2]
        rw [← z, List.take_append_drop]
      refine ⟨_, rfl, _, rfl, m, k, n, evs, rfl, hM, _, rfl, ?_⟩
      by_cases c : 0 ≤ k ∧ k ≤ (evs.length : Int) - 1
      · rw [decide_eq_true c]
        obtain ⟨b, a, t, p, e1, e2⟩ := ev_at f4 c.1 (by omega)
        refine iteF ⟨_, rfl, fldE hM T.cl_Machine T.n_events fun w hw2 => ⟨_, rfl, ixT hw2 c.1 e1 fun z hz => ixI hz (by decide) rfl ⟨_, rfl, rfl, _, rfl, ?_⟩⟩⟩
        by_cases cb : b = s
        · subst cb
          refine iteNS rfl ⟨_, rfl, fldE hM T.cl_Machine T.n_events fun w hw3 => ⟨_, rfl, ixT hw3 c.1 e1 fun z hz => ixI hz (by decide) rfl ?_⟩⟩
          refine ⟨rfl, a, _, rfl, ?_⟩
          rw [tk, walkTo_app, hw]
          show (if _ then some _ else none) = _
          rw [e2, if_pos ⟨c.1, by omega, rfl⟩]
          rfl
        · have nv : ¬ (V.int b = V.int s) := fun z => cb (by injection z)
          have : (!decide (V.int b = V.int s)) = true := by simp [nv]
          rw [this]
          refine iteT ?_
          have no : walkTo evs 0 run = none := by
            rw [split, walkTo_app, hw]
            show (if _ then _ else none) = _
            rw [if_neg (by rw [e2]; intro z; exact cb z.2.2)]
          rw [no] at q
          exact q
      · rw [decide_eq_false c]
        refine iteT ?_
        have no : walkTo evs 0 run = none := by
          rw [split, walkTo_app, hw]
          show (if _ then _ else none) = _
          rw [if_neg (fun z => c ⟨z.1, by omega⟩)]
        rw [no] at q
        exact q
    · rintro σ H' ⟨rfl, s, u, rfl, hw⟩
      rw [List.length_map, List.take_length] at hw
      rw [hw] at q
      exact q
def spLawLift (K : PySem.W.Frag) : Sp := fun vs H Q _ => ∃ (x y : V) (a b e0 e1 t p : Int), vs = [x, y] ∧ IT K H x [a, b] ∧ IT K H y [e0, e1, t, p] ∧ -(2 ^ 64) < t ∧ t < 2 ^ 64 ∧ -(2 ^ 64) < p ∧ p < 2 ^ 64 ∧ Q (.int (b * p - a * t)) H
def spSign : Sp := fun vs H Q _ => ∃ n : Int, vs = [.int n] ∧ Q (.int ((if decide (0 < n) = true then 1 else 0) - (if decide (n < 0) = true then 1 else 0))) H

def spLift (K : PySem.W.Frag) (C : Addr) : Sp := fun vs H Q _ => ∃ (m x : V) (a b k n e0 e1 t p : Int) (evs : List (List Int)), vs = [m, x, .int k] ∧ MachAt K C H m n evs ∧ (∀ e ∈ evs, Four e) ∧ IT K H x [a, b] ∧ 1 ≤ b ∧ gcdI a b = 1 ∧ 0 ≤ k ∧
  evs[k.toNat]? = some [e0, e1, t, p] ∧ -(2 ^ 64) < t ∧ t < 2 ^ 64 ∧ -(2 ^ 64) < p ∧ p < 2 ^ 64 ∧ ∀ H', Same H H' → Q (.int (b * p - a * t)) H'
def spValue (K : PySem.W.Frag) (C : Addr) : Sp := fun vs H Q _ => ∃ (m x v : V) (a b n : Int) (evs : List (List Int)) (run : List Int), vs = [m, x, v] ∧ MachAt K C H m n evs ∧ (∀ e ∈ evs, Four e) ∧ IT K H x [a, b] ∧ 1 ≤ b ∧ gcdI a b = 1 ∧ IT K H v run ∧
  (walkTo evs 0 run).isSome = true ∧ InEv evs run ∧ run.length ≤ 1000 ∧ -(2 ^ 64) < sumT evs run ∧ sumT evs run < 2 ^ 64 ∧ -(2 ^ 64) < sumP evs run ∧ sumP evs run < 2 ^ 64 ∧ ∀ H', Same H H' → Q (.int (b * sumP evs run - a * sumT evs run)) H'
def spGcd : Sp := fun vs H Q _ => ∃ x y : Int, vs = [.int x, .int y] ∧ small y ∧ Q (.int (gcdI x y)) H
theorem abs_is (i : Int) : (if i < 0 then -i else i) = (i.natAbs : Int) := by split <;> omega
/-- a turn of Euclid's -/
theorem euclid {a b : Nat} (h : b < a) (hb : 0 < b) : a % b < b ∧ 2 * (b * (a % b)) ≤ a * b := by
  have h1 := Nat.mod_lt a hb
  have h2 : a % b + b ≤ a := by
    have e := Nat.div_add_mod a b
    have q : 1 ≤ a / b := (Nat.one_le_div_iff hb).mpr (Nat.le_of_lt h)
    have q2 : b * 1 ≤ b * (a / b) := Nat.mul_le_mul_left b q
    omega
  refine ⟨h1, ?_⟩
  have h3 : 2 * (a % b) ≤ a := by omega
  calc 2 * (b * (a % b)) = b * (2 * (a % b)) := by rw [Nat.mul_left_comm]
    _ ≤ b * a := Nat.mul_le_mul_left b h3
    _ = a * b := Nat.mul_comm b a
/-- what holds behind i turns -/
structure Eu (X Y i a b : Nat) : Prop where
  g : Nat.gcd a b = Nat.gcd X Y
  z : i = 0 → a = X ∧ b = Y
  s : 0 < i → b < a ∧ a * b * 2 ^ (i - 1) ≤ Y * Y
theorem Eu.step {X Y i a b : Nat} (h : Eu X Y i a b) (hb : b ≠ 0) : Eu X Y (i + 1) b (a % b) := by
  have hb' : 0 < b := Nat.pos_of_ne_zero hb
  refine ⟨?_, fun z => absurd z (Nat.succ_ne_zero i), fun _ => ?_⟩
  · rw [← h.g, Nat.gcd_comm a b, Nat.gcd_rec b a, Nat.gcd_comm]
  · refine ⟨Nat.mod_lt a hb', ?_⟩
    rw [Nat.add_sub_cancel]
    by_cases hi : i = 0
    · obtain ⟨rfl, rfl⟩ := h.z hi
      subst hi
      rw [Nat.pow_zero, Nat.mul_one]
      exact Nat.mul_le_mul_left b (Nat.le_of_lt (Nat.mod_lt a hb'))
    · obtain ⟨hlt, hs⟩ := h.s (Nat.pos_of_ne_zero hi)
      obtain ⟨_, h2⟩ := euclid hlt hb'
      obtain ⟨j, rfl⟩ : ∃ j, i = j + 1 := ⟨i - 1, by omega⟩
      rw [Nat.add_sub_cancel] at hs
      calc b * (a % b) * 2 ^ (j + 1) = 2 * (b * (a % b)) * 2 ^ j := by rw [Nat.pow_succ, Nat.mul_comm (2 ^ j) 2, ← Nat.mul_assoc, Nat.mul_comm (b * (a % b)) 2]
        _ ≤ a * b * 2 ^ j := Nat.mul_le_mul_right _ h2
        _ ≤ Y * Y := hs
theorem Eu.last {X Y a b : Nat} (h : Eu X Y 400 a b) (hy : Y < 2 ^ 200) : b = 0 := by
  obtain ⟨hlt, hs⟩ := h.s (by decide)
  by_cases hb : b = 0
  · exact hb
  · exfalso
    have h1 : 2 ≤ a * b := by
      have : 1 * 2 ≤ b * a := Nat.mul_le_mul (by omega) (by omega)
      rw [Nat.mul_comm]; omega
    have h2 : 2 * 2 ^ 399 ≤ Y * Y := Nat.le_trans (Nat.mul_le_mul_right _ h1) hs
    have h3 : Y * Y < 2 ^ 200 * 2 ^ 200 := Nat.mul_lt_mul'' hy hy
    rw [← Nat.pow_add] at h3
    have h4 : (2 : Nat) ^ (399 + 1) = 2 ^ 399 * 2 := Nat.pow_succ 2 399
    rw [Nat.mul_comm 2, ← h4] at h2
    exact absurd h3 (Nat.not_lt.mpr h2)

/-- gcd taken out: no integer above 1 is left -/
theorem low_one {p t : Int} (h : 0 < t) : gcdI (p / gcdI p t) (t / gcdI p t) = 1 ∧ 1 ≤ t / gcdI p t ∧ t / gcdI p t ≤ t := by
  have g0 := gcdI_pos (p := p) h
  have gn : 0 < Nat.gcd p.natAbs t.natAbs := by unfold gcdI at g0; omega
  have d1 : gcdI p t ∣ p := Int.ofNat_dvd_left.mpr (Nat.gcd_dvd_left _ _)
  have d2 : gcdI p t ∣ t := Int.ofNat_dvd_left.mpr (Nat.gcd_dvd_right _ _)
  have n1 : (p / gcdI p t).natAbs = p.natAbs / Nat.gcd p.natAbs t.natAbs := by rw [Int.natAbs_ediv_of_dvd d1]; rfl
  have n2 : (t / gcdI p t).natAbs = t.natAbs / Nat.gcd p.natAbs t.natAbs := by rw [Int.natAbs_ediv_of_dvd d2]; rfl
  refine ⟨?_, ?_, ?_⟩
  · have e : gcdI (p / gcdI p t) (t / gcdI p t) = ((Nat.gcd (p / gcdI p t).natAbs (t / gcdI p t).natAbs : Nat) : Int) := rfl
    rw [e, n1, n2, Nat.gcd_div (Nat.gcd_dvd_left _ _) (Nat.gcd_dvd_right _ _), Nat.div_self gn]
    rfl
  · have := gcdI_le (p := p) h
    exact (Int.le_ediv_iff_mul_le g0).mpr (by omega)
  · exact Int.ediv_le_self _ (Int.le_of_lt h)
def spShareD (K : PySem.W.Frag) : Sp := fun vs H Q _ => ∃ (p : Pt) (most : Int), vs = [.ref p.a, .int most] ∧ p.At H ∧ 1 ≤ most ∧ most ≤ 1000000 ∧
  ∀ (q : Addr) (H' : Hp) (a b : Int), p.At H' → But p.l H H' → IT K H' (.ref q) [a, b] → 1 ≤ b → b ≤ most → gcdI a b = 1 → Q (.ref q) H'
def outs (evs : List (List Int)) (s : Int) : List Int := ((List.range evs.length).filter fun i => decide (V.int (evB (evs.getD i [])) = V.int s)).map fun i : Nat => 0 + (i : Int)
theorem outs_mem {evs : List (List Int)} {s k : Int} (h : k ∈ outs evs s) : 0 ≤ k ∧ k < (evs.length : Int) ∧ evB (evs.getD k.toNat []) = s := by
  unfold outs at h
  obtain ⟨i, hi, e⟩ := List.mem_map.mp h
  obtain ⟨h1, h2⟩ := List.mem_filter.mp hi
  have h1' := List.mem_range.mp h1
  have h3 : V.int (evB (evs.getD i [])) = V.int s := of_decide_eq_true h2
  injection h3 with h3
  have ek : k.toNat = i := by omega
  rw [ek]
  exact ⟨by omega, by omega, h3⟩
def spOut (K : PySem.W.Frag) : Sp := fun vs H Q _ => ∃ (x : V) (s n : Int) (evs : List (List Int)), vs = [x, .int s] ∧ Parts K H x n evs ∧ (∀ e ∈ evs, Four e) ∧ evs.length ≤ 1000 ∧
  ∀ (D : Addr) (H' : Hp), Same H H' → H D = none → H' D = some (.lst ((outs evs s).map V.int)) → Q (.ref D) H'
def spWalk (K : PySem.W.Frag) : Sp := fun vs H Q _ => ∃ (p : Pt) (x : V) (many n : Int) (evs : List (List Int)), vs = [.ref p.a, x, .int many] ∧ p.At H ∧ Parts K H x n evs ∧ (∀ e ∈ evs, Four e) ∧ evs.length ≤ 1000 ∧ 0 ≤ many ∧ many ≤ 1000 ∧
  ∀ (q : Addr) (H' : Hp) (run : List Int), p.At H' → But p.l H H' → IT K H' (.ref q) run → (walkTo evs 0 run).isSome = true → InEv evs run → (run.length : Int) ≤ many → Q (.ref q) H'
theorem lastAt {α : Type} (l : List α) (x : α) : atI (l ++ [x]) (-1) = some x := by
  unfold atI ixN
  rw [if_neg (by decide), if_pos (by simp <;> omega)]
  have e : (-1 + (((l ++ [x]).length : Nat) : Int)).toNat = l.length := by rw [List.length_append]; simp <;> omega
  show (l ++ [x])[(-1 + (((l ++ [x]).length : Nat) : Int)).toNat]? = some x
  rw [e]
  simp

theorem sc_law_out : FnScope ["parts", "standing", "number"] ["parts", "standing"] (defScope s_law_out) := ⟨rfl, rfl, rfl, by decide +kernel, rfl, by decide +kernel, by decide +kernel⟩
theorem ok_law_out (T : Txt K mg A) : FnOk P w K mg base CX0 1 A.f_law_out A.d_law_out ["parts", "standing"] (spOut K) := by
  refine T.F_law_out.ok sc_law_out (fun vs H Q E h => ?_) (fun cdv A1 outer s H vs Q E hr h => ?_)
  · obtain ⟨x, s, n, evs, rfl, _⟩ := h
    rfl
  · obtain ⟨x, st, n, evs, rfl, hx, f4, hl, k⟩ := h
    refine ⟨_, (pss_one (ps_ret (pe_lc (own := [("number", 2)]) rfl sc_law_out.nd (pi_range1 rfl T.z_range (pa_cons (pe_callB (call_lenK K rfl) (by rfl) T.z_len (by decide +kernel) (pa_cons (pe_ix (ix_tupK K rfl) (pv 0) pe_int (fun _ _ => rfl)) pa_nil)) pa_nil)) (blkOk_by (N := ["parts", "standing", "number"]) (sc := defScope s_law_out) (by decide +kernel)) (fun _ _ _ _ _ => by exact (pg_name (i := 2) sc_law_out.nd rfl (Or.inl rfl))) (fun _ _ _ _ _ => by exact (pts_one (pt_cmpR op_eq (pe_ix (ix_tupK K rfl) (pe_ix (ix_tupK K rfl) (pe_ix (ix_tupK K rfl) (pv 0) pe_int (fun _ _ => rfl)) (pv 2) (fun _ _ => rfl)) pe_int (fun _ _ => rfl)) (pv 1) (nomark _)))) (fun _ _ _ _ _ => by exact (pv 2))))), ?_⟩
    refine ⟨_, rfl, ixP1 hx fun w hw => lenT hw fun ys e => ?_⟩
    rw [e]
    refine ⟨_, rfl, by omega, by omega, fun D hD => ?_⟩
    have en : ((evs.length : Nat) : Int).toNat = evs.length := by omega
    rw [en]
    refine lcFR (fun i => decide (V.int (evB (evs.getD i [])) = V.int st)) (fun i => 0 + (i : Int)) hD (Nat.lt_of_le_of_lt hl (by decide)) (fun i H2 Q1 Q2 hi s2 h1 h2 => ⟨rfl, ?_⟩) (k D _ (Same.new hD) hD upd_same)
    obtain ⟨b, a, t, p, e1, e2⟩ := ev_at (k := 0 + (i : Int)) f4 (by omega) (by omega)
    refine ⟨_, rfl, ixP1 (hx.keep (Keep.of s2)) fun w hw => ⟨_, rfl, ixT hw (by omega) e1 fun z hz => ixI hz (by decide) rfl ⟨_, rfl, rfl, _, rfl, ?_⟩⟩⟩
    have ei : (0 + (i : Int)).toNat = i := by omega
    rw [ei] at e2
    have eb : evB (evs.getD i []) = b := by rw [e2]; rfl
    rw [eb] at h1 h2
    cases c : decide (V.int b = V.int st) with
    | true => exact iteT ⟨_, rfl, h1 c⟩
    | false => exact iteF (h2 c)
theorem sc_law_walk : FnScope ["pot", "parts", "many", "run", "standing", "turn", "some"] ["pot", "parts", "many"] (defScope s_law_walk) := ⟨rfl, rfl, rfl, by decide +kernel, rfl, by decide +kernel, by decide +kernel⟩
theorem ok_law_walk (T : Txt K mg A) : FnOk P w K mg base CX0 2 A.f_law_walk A.d_law_walk ["pot", "parts", "many"] (spWalk K) := by
  refine T.F_law_walk.ok sc_law_walk (fun vs H Q E h => ?_) (fun cdv A1 outer s H vs Q E hr h => ?_)
  · obtain ⟨p, x, many, n, evs, rfl, _⟩ := h
    rfl
  · obtain ⟨p, x, many, n, evs, rfl, hp, hx, f4, hl, m0, m1, k⟩ := h
    refine ⟨_, (pss_cons (ps_set (i := 3) sc_law_walk.nd rfl (Or.inl rfl) (pe_lst pa_nil))
      (pss_cons (ps_set (i := 4) sc_law_walk.nd rfl (Or.inl rfl) pe_int)
      (pss_cons (ps_for PassesOwn.never rfl (pi_range1 rfl T.z_range (pa_cons (pv 2) pa_nil)) (pg_name (i := 5) sc_law_walk.nd rfl (Or.inl rfl))
        (pss_cons (ps_set (i := 6) sc_law_walk.nd rfl (Or.inl rfl) (pe_call (ok_law_out T) (hr.mono (by decide)) rfl T.m_law_out T.F_law_out.kp T.B_law_out .nil pass0 (pa_cons (pv 1) (pa_cons (pv 4) pa_nil))))
      (pss_cons (ps_if (pt_cmpR op_eq (pe_callB (call_lenK K rfl) (by rfl) T.z_len (by decide +kernel) (pa_cons (pv 6) pa_nil)) pe_int (nomark _)) (pss_one ps_break) pss_nil)
      (pss_cons (ps_expr (pe_bm PySem.F.plainAttrs_list PySem.F.slot_list_append PySem.F.type_list_append mt_append (pv 3) (pa_cons (pe_ix (ix_listK K rfl) (pv 6) (pe_call (ok_law_draw T) (hr.mono (by decide)) rfl T.m_law_draw T.F_law_draw.kp T.B_law_draw .nil pass0 (pa_cons (pv 0) (pa_cons (pe_callB (call_lenK K rfl) (by rfl) T.z_len (by decide +kernel) (pa_cons (pv 6) pa_nil)) pa_nil))) (fun _ _ => rfl)) pa_nil)))
      (pss_one (ps_set (i := 4) sc_law_walk.nd rfl (Or.inl rfl) (pe_ix (ix_tupK K rfl) (pe_ix (ix_tupK K rfl) (pe_ix (ix_tupK K rfl) (pv 1) pe_int (fun _ _ => rfl)) (pe_ix (ix_listK K rfl) (pv 3) (pe_un un_neg pe_int) (fun _ _ => rfl)) (fun _ _ => rfl)) pe_int (fun _ _ => rfl))))))))
      (pss_one (ps_ret (pe_callTy (call_tupleK K rfl) (by rfl) T.z_tuple (by decide +kernel) (pa_cons (pv 3) pa_nil))))))), ?_⟩
    refine ⟨Nat.zero_le _, fun R hR => ?_⟩
    have fr := hp.fresh hR
    have fin : ∀ (H1 : Hp) (run : List Int), p.At H1 → But p.l H H1 → H1 R = some (.lst (run.map V.int)) → (walkTo evs 0 run).isSome = true → InEv evs run → (run.length : Int) ≤ many →
        ∃ q ys, [V.ref R] = [V.ref q] ∧ ((SqL K H1 q ys ∧ ∀ l, H1 l = none → Q (.ref l) (upd H1 l (.tup ys))) ∨ (SqT K H1 q ys ∧ Q (.ref q) H1)) := by
      intro H1 run hp1 b1 hR1 hw hin hrl
      exact ⟨R, _, rfl, .inl ⟨SqL.lt hR1, fun l hl => k l _ run (hp1.same (Same.new hl)) (b1.trans (But.new hl)) (IT.new rfl) hw hin hrl⟩⟩
    refine ⟨_, rfl, many, rfl, by omega, by omega, ?_⟩
    refine for_range (lo := 0) (n := many.toNat) (fun i σ H1 => p.At H1 ∧ But p.l H H1 ∧ ∃ (run : List Int) (st : Int) (u1 u2 : Option V), σ = [some (.ref p.a), some x, some (.int many), some (.ref R), some (.int st), u1, u2] ∧ H1 R = some (.lst (run.map V.int)) ∧ walkTo evs 0 run = some st ∧ InEv evs run ∧ run.length ≤ i)
      ⟨hp.same (Same.new hR), But.new hR, [], 0, _, _, rfl, upd_same, rfl, (fun _ h => by cases h), Nat.le_refl _⟩ ?_ ?_
    · rintro i σ H1 hi ⟨hp1, b1, run, st, u1, u2, rfl, hR1, hw, hin, hrl⟩
      have hx1 := hx.keep (hp.keep b1)
      refine ⟨_, rfl, _, rfl, x, st, n, evs, rfl, hx1, f4, hl, fun D H2 s2 hD hD2 => ?_⟩
      refine ⟨_, rfl, D, _, rfl, .inl (SqL.lt hD2), rfl, _, rfl, ?_⟩
      rw [List.length_map]
      by_cases c : (outs evs st).length = 0
      · rw [decide_eq_true (show V.int ((outs evs st).length : Nat) = V.int 0 by rw [c]; rfl)]
        refine iteT ⟨_, rfl, fin H2 run (hp1.same s2) (b1.trans (But.of s2)) (s2 _ _ hR1) (by rw [hw]; rfl) hin (by omega)⟩
      · rw [decide_eq_false (show ¬ (V.int ((outs evs st).length : Nat) = V.int 0) by intro z; injection z with z; omega)]
        have hp2 := hp1.same s2
        have fD := hp1.fresh hD
        refine iteF ⟨_, rfl, .inl ⟨rfl, _, SqL.lt (s2 _ _ hR1)⟩, _, rfl, _, rfl, _, rfl, D, _, rfl, .inl (SqL.lt hD2), ?_⟩
        rw [List.length_map]
        refine ⟨p, _, rfl, hp2, by omega, ?_, fun r H3 r0 r1 hp3 b3 => ?_⟩
        · have : (outs evs st).length ≤ evs.length := by
            unfold outs
            rw [List.length_map]
            have := List.length_filter_le (fun i => decide (V.int (evB (evs.getD i [])) = V.int st)) (List.range evs.length)
            rw [List.length_range] at this
            exact this
          exact small_of (by omega)
        · have hD3 : H3 D = some (.lst ((outs evs st).map V.int)) := b3 _ _ (Pt.out fD) hD2
          have hR3 : H3 R = some (.lst (run.map V.int)) := b3 _ _ (Pt.out fr) (s2 _ _ hR1)
          have hr : r.toNat < (outs evs st).length := by omega
          have hk := List.getElem?_eq_getElem hr
          generalize (outs evs st)[r.toNat] = kk at hk
          obtain ⟨k0, k1, k2⟩ := outs_mem (List.mem_of_getElem? hk)
          refine ⟨D, _, r, .int kk, rfl, rfl, SqL.lt hD3, at_ge r0 (by rw [List.getElem?_map, hk]; rfl), R, _, _, rfl, rfl, hR3, ?_, ?_⟩
          · rw [List.length_map]
            exact Nat.lt_of_lt_of_le (show run.length < 1001 by omega) (by decide)
          · have b4 : But p.l H (upd H3 R (.lst (run.map V.int ++ [.int kk]))) := ((b1.trans (But.of s2)).trans b3).chg hR
            have hR4 : upd H3 R (.lst (run.map V.int ++ [.int kk])) R = some (.lst ((run ++ [kk]).map V.int)) := by rw [upd_same, List.map_append]; rfl
            have hp4 : p.At (upd H3 R (.lst (run.map V.int ++ [.int kk]))) := hp3.but (l := [R]) (But.at (by simp)) (by simp; exact fr.1.symm) (by simp; exact fr.2.1.symm) (by simp; exact fr.2.2.symm)
            have hx4 := hx.keep (hp.keep b4)
            generalize upd H3 R (.lst (run.map V.int ++ [.int kk])) = H4 at b4 hR4 hp4 hx4 ⊢
            obtain ⟨b, a, t, q, e1, e2⟩ := ev_at f4 k0 k1
            have la : atI ((run ++ [kk]).map V.int) (-1) = some (.int kk) := by rw [List.map_append]; exact lastAt _ _
            refine ⟨_, rfl, ixP1 hx4 fun w hw2 => ⟨_, rfl, _, rfl, R, _, _, _, rfl, rfl, SqL.lt hR4, la, ixT hw2 k0 e1 fun z hz => ixI hz (by decide) rfl ?_⟩⟩
            refine ⟨hp4, b4, run ++ [kk], a, _, _, rfl, hR4, ?_, fun y hy => ?_, ?_⟩
            · rw [walkTo_app, hw]
              show (if _ then some _ else none) = _
              rw [if_pos ⟨k0, k1, k2⟩, e2]
              rfl
            · rcases List.mem_append.mp hy with z | z
              · exact hin y z
              · rw [List.mem_singleton.mp z]; exact ⟨k0, k1⟩
            · rw [List.length_append]; simp; exact hrl
    · rintro σ H1 ⟨hp1, b1, run, st, u1, u2, rfl, hR1, hw, hin, hrl⟩
      exact ⟨_, rfl, fin H1 run hp1 b1 hR1 (by rw [hw]; rfl) hin (by omega)⟩
/-- drawn parts: the greatest tries and points are small -/
def drawnEv (n : Int) (e : List Int) : Prop := ∃ b a t p, e = [b, a, t, p] ∧ 0 ≤ b ∧ b < n ∧ 0 ≤ a ∧ a < n ∧ 1 ≤ t ∧ t ≤ 3 ∧ -4 ≤ p ∧ p ≤ 4
theorem drawnEv.ok {n : Int} {e : List Int} (h : drawnEv n e) : okEv n e := by
  obtain ⟨b, a, t, p, h0, h1, h2, h3, h4, h5, h6, h7, h8⟩ := h
  exact ⟨b, a, t, p, h0, h1, h2, h3, h4, h5, by omega, by omega, by omega⟩
def spParts (K : PySem.W.Frag) : Sp := fun vs H Q _ => ∃ (p : Pt) (ms me : Int), vs = [.ref p.a, .int ms, .int me] ∧ p.At H ∧ 1 ≤ ms ∧ ms ≤ 1000 ∧ 1 ≤ me ∧ me ≤ 1000 ∧
  ∀ (q : Addr) (H' : Hp) (n : Int) (evs : List (List Int)), p.At H' → But p.l H H' → Parts K H' (.ref q) n evs → 1 ≤ n → n ≤ ms → 1 ≤ evs.length → (evs.length : Int) ≤ me → (∀ e ∈ evs, drawnEv n e) → Q (.ref q) H'
/-- a list of tuples of ints, kept where only other things change -/

theorem sc_law_parts : FnScope ["pot", "most_standings", "most_events", "standings", "kind", "events", "at", "before", "after", "tries", "points"] ["pot", "most_standings", "most_events"] (defScope s_law_parts) := ⟨rfl, rfl, rfl, by decide +kernel, rfl, by decide +kernel, by decide +kernel⟩
theorem ok_law_parts (T : Txt K mg A) : FnOk P w K mg base CX0 2 A.f_law_parts A.d_law_parts ["pot", "most_standings", "most_events"] (spParts K) := by
  refine T.F_law_parts.ok sc_law_parts (fun vs H Q E h => ?_) (fun cdv A1 outer s H vs Q E hr h => ?_)
  · obtain ⟨p, ms, me, rfl, _⟩ := h
    rfl
  · obtain ⟨p, ms, me, rfl, hp, s0, s1, e0, e1, k⟩ := h
    refine ⟨_, (pss_cons (ps_set (i := 3) sc_law_parts.nd rfl (Or.inl rfl) (pe_op op_add pe_int (pe_call (ok_law_draw T) (hr.mono (by decide)) rfl T.m_law_draw T.F_law_draw.kp T.B_law_draw .nil pass0 (pa_cons (pv 0) (pa_cons (pv 1) pa_nil)))))
      (pss_cons (ps_set (i := 4) sc_law_parts.nd rfl (Or.inl rfl) (pe_call (ok_law_draw T) (hr.mono (by decide)) rfl T.m_law_draw T.F_law_draw.kp T.B_law_draw .nil pass0 (pa_cons (pv 0) (pa_cons pe_int pa_nil))))
      (pss_cons (ps_set (i := 5) sc_law_parts.nd rfl (Or.inl rfl) (pe_lst pa_nil))
      (pss_cons (ps_for PassesOwn.never rfl (pi_range1 rfl T.z_range (pa_cons (pe_op op_add pe_int (pe_call (ok_law_draw T) (hr.mono (by decide)) rfl T.m_law_draw T.F_law_draw.kp T.B_law_draw .nil pass0 (pa_cons (pv 0) (pa_cons (pv 2) pa_nil)))) pa_nil)) (pg_name (i := 6) sc_law_parts.nd rfl (Or.inl rfl))
        (pss_cons (ps_par (i := 7) (j := 8) rfl sc_law_parts.nd rfl rfl (by decide) rfl rfl (pa_cons (pe_call (ok_law_draw T) (hr.mono (by decide)) rfl T.m_law_draw T.F_law_draw.kp T.B_law_draw .nil pass0 (pa_cons (pv 0) (pa_cons (pv 3) pa_nil))) (pa_cons (pe_call (ok_law_draw T) (hr.mono (by decide)) rfl T.m_law_draw T.F_law_draw.kp T.B_law_draw .nil pass0 (pa_cons (pv 0) (pa_cons (pv 3) pa_nil))) pa_nil)) (by rfl))
      (Evl.pss_cut (ps_if (pt_cmpR op_gt (pv 4) pe_int (nomark _)) (pss_cons (ps_set (i := 7) sc_law_parts.nd rfl (Or.inl rfl) (pe_op op_mod (pe_callTy call_int1 (by rfl) T.z_int (by decide +kernel) (pa_cons (pv 6) pa_nil)) (pv 3)))
      (pss_one (ps_set (i := 8) sc_law_parts.nd rfl (Or.inl rfl) (pe_ix (ix_tupK K rfl) (pe_tup (pa_cons (pv 7) (pa_cons (pe_op op_mod (pe_callTy call_int1 (by rfl) T.z_int (by decide +kernel) (pa_cons (pe_op op_add (pv 7) pe_int) pa_nil)) (pv 3)) pa_nil))) (pe_callTy call_int1 (by rfl) T.z_int (by decide +kernel) (pa_cons (pe_cmpR op_gt (pe_call (ok_law_draw T) (hr.mono (by decide)) rfl T.m_law_draw T.F_law_draw.kp T.B_law_draw .nil pass0 (pa_cons (pv 0) (pa_cons pe_int pa_nil))) pe_int (nomark _)) pa_nil)) (fun _ _ => rfl))))) pss_nil)
      (pss_cons (ps_set (i := 9) sc_law_parts.nd rfl (Or.inl rfl) (pe_ifExp (pt_cmpR op_eq (pv 4) pe_int (nomark _)) pe_int (pe_op op_add pe_int (pe_call (ok_law_draw T) (hr.mono (by decide)) rfl T.m_law_draw T.F_law_draw.kp T.B_law_draw .nil pass0 (pa_cons (pv 0) (pa_cons pe_int pa_nil))))))
      (pss_cons (ps_set (i := 10) sc_law_parts.nd rfl (Or.inl rfl) (pe_ifExp (pt_cmpR op_eq (pv 4) pe_int (nomark _)) (pe_call (ok_law_draw T) (hr.mono (by decide)) rfl T.m_law_draw T.F_law_draw.kp T.B_law_draw .nil pass0 (pa_cons (pv 0) (pa_cons pe_int pa_nil))) (pe_op op_sub (pe_call (ok_law_draw T) (hr.mono (by decide)) rfl T.m_law_draw T.F_law_draw.kp T.B_law_draw .nil pass0 (pa_cons (pv 0) (pa_cons pe_int pa_nil))) pe_int)))
      (pss_one (ps_expr (pe_bm PySem.F.plainAttrs_list PySem.F.slot_list_append PySem.F.type_list_append mt_append (pv 5) (pa_cons (pe_tup (pa_cons (pv 7) (pa_cons (pv 8) (pa_cons (pv 9) (pa_cons (pv 10) pa_nil))))) pa_nil)))))))))
      (pss_one (ps_ret (pe_tup (pa_cons (pv 3) (pa_cons (pe_callTy (call_tupleK K rfl) (by rfl) T.z_tuple (by decide +kernel) (pa_cons (pv 5) pa_nil)) pa_nil))))))))), ?_⟩
    refine ⟨_, rfl, _, rfl, p, ms, rfl, hp, by omega, small_of (by omega), fun r1 H1 r10 r11 hp1 b1 => ⟨_, _, rfl, rfl, ?_⟩⟩
    refine ⟨_, rfl, p, 4, rfl, hp1, by decide, small_of (by decide), fun kind H2 k0 k1 hp2 b2 => ⟨Nat.zero_le _, fun D hD => ?_⟩⟩
    have fD := hp2.fresh hD
    have bD : But p.l H (upd H2 D (.lst [])) := (b1.trans b2).trans (But.new hD)
    have hpD := hp2.same (Same.new (o := .lst []) hD)
    have hD0 : H D = none := by
      cases z : H D with
      | none => rfl
      | some o =>
        have := (b1.trans b2) _ _ (Pt.out fD) z
        rw [hD] at this
        cases this
    have LD : LTs K (upd H2 D (.lst [])) D [] := ⟨[], upd_same, .nil⟩
    generalize upd H2 D (.lst []) = H3 at bD hpD LD ⊢
    refine ⟨_, rfl, _, rfl, p, me, rfl, hpD, by omega, small_of (by omega), fun r2 H4 r20 r21 hp4 b4 => ⟨_, _, rfl, rfl, ?_⟩⟩
    refine ⟨1 + r2, rfl, by omega, by omega, ?_⟩
    refine for_range (lo := 0) (n := (1 + r2).toNat) (fun i σ H' => p.At H' ∧ But p.l H H' ∧ ∃ (evs : List (List Int)) (u1 u2 u3 u4 u5 : Option V), σ = [some (.ref p.a), some (.int ms), some (.int me), some (.int (1 + r1)), some (.int kind), some (.ref D), u1, u2, u3, u4, u5] ∧
        LTs K H' D evs ∧ evs.length = i ∧ ∀ e ∈ evs, drawnEv (1 + r1) e)
      ⟨hp4, bD.trans b4, [], none, none, none, none, none, rfl, LD.but b4 (hpD.keep b4) (Pt.out fD), rfl, (fun _ h => by cases h)⟩ ?_ ?_
    · rintro i σ H5 hi ⟨hp5, b5, evs, u1, u2, u3, u4, u5, rfl, L5, len, all⟩
      have fr : D ∉ p.l := Pt.out fD
      refine ⟨_, rfl, _, rfl, p, _, rfl, hp5, by omega, small_of (by omega), fun bb H6 bb0 bb1 hp6 b6 => ⟨_, rfl, _, rfl, p, _, rfl, hp6, by omega, small_of (by omega), fun aa H7 aa0 aa1 hp7 b7 => ⟨_, _, rfl, ?_⟩⟩⟩
      have L7 := (L5.but b6 (hp5.keep b6) fr).but b7 (hp6.keep b7) fr
      have b57 := (b5.trans b6).trans b7
      -- the events' ends: b and a, whatever the kind
      refine ⟨fun σ' H8 => ∃ b a : Int, σ' = [some (.ref p.a), some (.int ms), some (.int me), some (.int (1 + r1)), some (.int kind), some (.ref D), some (.int (0 + (i : Nat))), some (.int b), some (.int a), u4, u5] ∧ p.At H8 ∧ But p.l H H8 ∧ LTs K H8 D evs ∧ 0 ≤ b ∧ b < 1 + r1 ∧ 0 ≤ a ∧ a < 1 + r1, ?_, ?_⟩
      · refine ⟨_, rfl, _, _, rfl, rfl, _, rfl, ?_⟩
        refine ite2 (fun c => ?_) (fun c => ⟨bb, aa, rfl, hp7, b57, L7, bb0, bb1, aa0, aa1⟩)
        have m0 := Int.emod_nonneg (0 + ((i : Nat) : Int)) (show (1 + r1 : Int) ≠ 0 by omega)
        have m1 := Int.emod_lt_of_pos (0 + ((i : Nat) : Int)) (show (0 : Int) < 1 + r1 by omega)
        refine ⟨_, rfl, .inl ⟨_, rfl, _, rfl, _, _, rfl, rfl, (by show (0 : Int) < 1 + r1; omega), ?_⟩⟩
        generalize hb : (0 + ((i : Nat) : Int)) % (1 + r1) = b8 at m0 m1
        have n0 := Int.emod_nonneg (b8 + 1) (show (1 + r1 : Int) ≠ 0 by omega)
        have n1 := Int.emod_lt_of_pos (b8 + 1) (show (0 : Int) < 1 + r1 by omega)
        subst hb
        refine ⟨_, rfl, _, rfl, _, _, rfl, rfl, .inl ⟨_, rfl, _, rfl, _, _, rfl, rfl, (by show (0 : Int) < 1 + r1; omega), (by show 2 ≤ sizeLine; decide), fun w hw => ?_⟩⟩
        have s8 := Same.new (o := .tup [.int ((0 + ((i : Nat) : Int)) % (1 + r1)), .int (((0 + ((i : Nat) : Int)) % (1 + r1) + 1) % (1 + r1))]) hw
        have hp8 := hp7.same s8
        have hw8 : upd H7 w (.tup [.int ((0 + ((i : Nat) : Int)) % (1 + r1)), .int (((0 + ((i : Nat) : Int)) % (1 + r1) + 1) % (1 + r1))]) w = some (.tup [.int ((0 + ((i : Nat) : Int)) % (1 + r1)), .int (((0 + ((i : Nat) : Int)) % (1 + r1) + 1) % (1 + r1))]) := upd_same
        have L8 := L7.but (But.of s8) (Keep.of s8) fr
        have b8 := b57.trans (But.of s8)
        refine ⟨_, rfl, p, 3, rfl, hp8, by decide, small_of (by decide), fun r H9 r0 r3 hp9 b9 => ?_⟩
        have hw9 := hp8.keep b9 w _ rfl hw8
        refine ⟨_, _, rfl, rfl, .inr ⟨_, rfl, w, _, _, if 0 < r then .int (((0 + ((i : Nat) : Int)) % (1 + r1) + 1) % (1 + r1)) else .int ((0 + ((i : Nat) : Int)) % (1 + r1)), rfl, rfl, SqT.lt hw9, ?_, ?_⟩⟩
        · by_cases c : 0 < r
          · rw [if_pos c]
            show atI _ (if decide (0 < r) = true then (1 : Int) else 0) = _
            rw [if_pos (decide_eq_true c)]
            rfl
          · rw [if_neg c]
            show atI _ (if decide (0 < r) = true then (1 : Int) else 0) = _
            rw [if_neg (by simp [c])]
            rfl
        · by_cases c : 0 < r
          · rw [if_pos c]
            exact ⟨_, _, rfl, hp9, b8.trans b9, L8.but b9 (hp8.keep b9) fr, m0, m1, n0, n1⟩
          · rw [if_neg c]
            exact ⟨_, _, rfl, hp9, b8.trans b9, L8.but b9 (hp8.keep b9) fr, m0, m1, m0, m1⟩
      · rintro σ' H8 ⟨b, a, rfl, hp8, b8, L8, q0, q1, q2, q3⟩
        -- tries and points, by the kind
        have last : ∀ (t q : Int) (H9 : Hp), p.At H9 → But p.l H H9 → LTs K H9 D evs → 1 ≤ t → t ≤ 3 → -4 ≤ q → q ≤ 4 → ∀ v, v = [some (.ref p.a), some (.int ms), some (.int me), some (.int (1 + r1)), some (.int kind), some (.ref D), some (.int (0 + (i : Nat))), some (.int b), some (.int a), some (.int t), some (V.int q)] →
            ∀ z, H9 z = none → ∃ l xs y, V.ref D = .ref l ∧ [V.ref z] = [y] ∧ (upd H9 z (.tup [.int b, .int a, .int t, .int q])) l = some (.lst xs) ∧ xs.length < sizeLine ∧
              (p.At (upd (upd H9 z (.tup [.int b, .int a, .int t, .int q])) l (.lst (xs ++ [y]))) ∧ But p.l H (upd (upd H9 z (.tup [.int b, .int a, .int t, .int q])) l (.lst (xs ++ [y]))) ∧ ∃ (evs : List (List Int)) (u1 u2 u3 u4 u5 : Option V),
                v = [some (.ref p.a), some (.int ms), some (.int me), some (.int (1 + r1)), some (.int kind), some (.ref D), u1, u2, u3, u4, u5] ∧ LTs K (upd (upd H9 z (.tup [.int b, .int a, .int t, .int q])) l (.lst (xs ++ [y]))) D evs ∧ evs.length = i + 1 ∧ ∀ e ∈ evs, drawnEv (1 + r1) e) := by
          intro t q H9 hp9 b9 L9 t0 t1 p0 p1 v hv z hz
          obtain ⟨xs, hx, al⟩ := L9
          have sz := Same.new (o := .tup [.int b, .int a, .int t, .int q]) hz
          have lx := al.len
          refine ⟨D, xs, _, rfl, rfl, sz _ _ hx, ?_, ?_⟩
          · exact Nat.lt_of_lt_of_le (show xs.length < 2000 by omega) (by decide)
          · have kp := Keep.lst (o := .lst (xs ++ [.ref z])) (sz _ _ hx)
            refine ⟨(hp9.same sz).but (l := [D]) (But.at (by simp)) (by simp; exact fD.1.symm) (by simp; exact fD.2.1.symm) (by simp; exact fD.2.2.symm), (b9.trans (But.of sz)).chg hD0,
              evs ++ [[b, a, t, q]], _, _, _, _, _, hv, ⟨_, upd_same, (al.imp fun _ _ y => (y.keep (Keep.of sz)).keep kp).snoc ((IT.new (xs := [V.int b, V.int a, V.int t, V.int q]) rfl).keep kp)⟩, by rw [List.length_append, len]; rfl, fun e he => ?_⟩
            rcases List.mem_append.mp he with h1 | h1
            · exact all e h1
            · rw [List.mem_singleton.mp h1]
              exact ⟨b, a, t, q, rfl, q0, q1, q2, q3, t0, t1, p0, p1⟩
        refine ⟨_, rfl, rfl, _, rfl, ?_⟩
        by_cases c : kind = 1
        · have e : decide (V.int kind = V.int 1) = true := decide_eq_true (congrArg V.int c)
          rw [e]
          refine iteT ⟨_, rfl, rfl, _, rfl, ?_⟩
          rw [e]
          refine iteT ⟨_, rfl, p, 2, rfl, hp8, by decide, small_of (by decide), fun r H9 r0 r1' hp9 b9 => ?_⟩
          have L9 := L8.but b9 (hp8.keep b9) fr
          exact ⟨_, rfl, .inl ⟨rfl, _, SqL.lt L9.choose_spec.1⟩, _, rfl, _, rfl, _, rfl, _, rfl, (by show 4 ≤ sizeLine; decide), fun z hz => last 1 r H9 hp9 (b8.trans b9) L9 (by decide) (by decide) (by omega) (by omega) _ rfl z hz⟩
        · have e : decide (V.int kind = V.int 1) = false := decide_eq_false fun z => c (by injection z)
          rw [e]
          refine iteF ⟨_, rfl, p, 3, rfl, hp8, by decide, small_of (by decide), fun r H9 r0 r1' hp9 b9 => ⟨_, _, rfl, rfl, _, rfl, rfl, _, rfl, ?_⟩⟩
          rw [e]
          have L9 := L8.but b9 (hp8.keep b9) fr
          refine iteF ⟨_, rfl, p, 9, rfl, hp9, by decide, small_of (by decide), fun r' H10 r0' r9 hp10 b10 => ⟨_, _, rfl, rfl, ?_⟩⟩
          have L10 := L9.but b10 (hp9.keep b10) fr
          exact ⟨_, rfl, .inl ⟨rfl, _, SqL.lt L10.choose_spec.1⟩, _, rfl, _, rfl, _, rfl, _, rfl, (by show 4 ≤ sizeLine; decide), fun z hz => last (1 + r) (r' - 4) H10 hp10 ((b8.trans b9).trans b10) L10 (by omega) (by omega) (by omega) (by omega) _ rfl z hz⟩
    · rintro σ H5 ⟨hp5, b5, evs, u1, u2, u3, u4, u5, rfl, ⟨xs, hx, al⟩, len, all⟩
      refine ⟨_, rfl, _, rfl, D, _, rfl, .inl ⟨SqL.lt hx, fun w hw => ⟨(by show 2 ≤ sizeLine; decide), fun q hq => ?_⟩⟩⟩
      have s6 := Same.new (o := .tup xs) hw
      have s7 := Same.new (o := .tup [.int (1 + r1), .ref w]) hq
      refine k q _ (1 + r1) evs ((hp5.same s6).same s7) ((b5.trans (But.of s6)).trans (But.of s7)) ⟨q, _, rfl, SqT.lt upd_same, w, xs, rfl, SqT.lt (s7 _ _ upd_same), al.imp fun _ _ z => z.keep (Keep.of (s6.trans s7))⟩ (by omega) (by omega) (by omega) (by omega) all
theorem sumT_app (evs : List (List Int)) (r q : List Int) : sumT evs (r ++ q) = sumT evs r + sumT evs q := by unfold sumT; rw [List.map_append, List.sum_append]
theorem sumP_app (evs : List (List Int)) (r q : List Int) : sumP evs (r ++ q) = sumP evs r + sumP evs q := by unfold sumP; rw [List.map_append, List.sum_append]
theorem sumT_one (evs : List (List Int)) (k : Int) : sumT evs [k] = evT (evs.getD k.toNat []) := Int.add_zero _
theorem sumP_one (evs : List (List Int)) (k : Int) : sumP evs [k] = evP (evs.getD k.toNat []) := Int.add_zero _
def boardsTo (evs : List (List Int)) (run : List Int) (n : Nat) : List (List Int) := (List.range n).map fun i => [sumT evs (run.take (i + 1)), sumP evs (run.take (i + 1))]
def spBoards (K : PySem.W.Frag) (C : Addr) : Sp := fun vs H Q _ => ∃ (m v : V) (n : Int) (evs : List (List Int)) (run : List Int), vs = [m, v] ∧ MachAt K C H m n evs ∧ (∀ e ∈ evs, Four e) ∧ IT K H v run ∧ (walkTo evs 0 run).isSome = true ∧ InEv evs run ∧ run.length ≤ 1000 ∧
  ∀ (D : Addr) (H' : Hp), Same H H' → H D = none → LTs K H' D (boardsTo evs run run.length) → Q (.ref D) H'
/-- the share that a board shows -/
def shareOf (b : List Int) : List Int := [evA b / gcdI (evA b) (evB b), evB b / gcdI (evA b) (evB b)]
def spShares (K : PySem.W.Frag) (C : Addr) : Sp := fun vs H Q _ => ∃ (m v : V) (n : Int) (evs : List (List Int)) (run : List Int), vs = [m, v] ∧ MachAt K C H m n evs ∧ (∀ e ∈ evs, Four e) ∧ IT K H v run ∧ (walkTo evs 0 run).isSome = true ∧ InEv evs run ∧ run.length ≤ 1000 ∧
  (∀ e ∈ evs, 1 ≤ evT e ∧ evT e ≤ 1000) ∧
  ∀ (D : Addr) (H' : Hp), Same H H' → H D = none → LTs K H' D ((boardsTo evs run run.length).map shareOf) → Q (.ref D) H'
theorem sumT_bd {evs : List (List Int)} (h : ∀ e ∈ evs, 1 ≤ evT e ∧ evT e ≤ 1000) : ∀ {run : List Int}, InEv evs run → (run.length : Int) ≤ sumT evs run ∧ sumT evs run ≤ 1000 * run.length
  | [], _ => ⟨Int.le_refl _, Int.le_refl _⟩
  | k :: r, hin => by
    obtain ⟨h0, h1⟩ := hin k (by simp)
    have ih := sumT_bd h (run := r) fun y hy => hin y (by simp [hy])
    have hk : k.toNat < evs.length := by omega
    have he : evs.getD k.toNat [] ∈ evs := by rw [List.getD_eq_getElem?_getD, List.getElem?_eq_getElem hk]; exact List.getElem_mem hk
    obtain ⟨t0, t1⟩ := h _ he
    have e : sumT evs (k :: r) = evT (evs.getD k.toNat []) + sumT evs r := rfl
    rw [e, List.length_cons]
    omega

theorem sc_boards : FnScope ["machine", "run", "all_tries", "all_points", "found", "number"] ["machine", "run"] (defScope s_boards) := ⟨rfl, rfl, rfl, by decide +kernel, rfl, by decide +kernel, by decide +kernel⟩
theorem ok_boards (T : Txt K mg A) : FnOk P w K mg base CX0 5 A.f_boards A.d_boards ["machine", "run"] (spBoards K A.C_Machine) := by
  refine T.F_boards.ok sc_boards (fun vs H Q E h => ?_) (fun cdv A1 outer s H vs Q E hr h => ?_)
  · obtain ⟨m, v, n, evs, run, rfl, _⟩ := h
    rfl
  · obtain ⟨m, v, n, evs, run, rfl, hM, f4, hv, hw, hin, hl, k⟩ := h
    obtain ⟨x, rfl, hx⟩ := id hv
    refine ⟨_, (pss_cons (ps_if (pt_not (pt_val (pe_call (ok_is_run T) (hr.mono (by decide)) rfl T.m_is_run T.F_is_run.kp T.B_is_run .nil pass0 (pa_cons (pv 0) (pa_cons (pv 1) pa_nil))))) (pss_one ps_never) pss_nil)
      (pss_cons (ps_set (i := 2) sc_boards.nd rfl (Or.inl rfl) pe_int)
      (pss_cons (ps_set (i := 3) sc_boards.nd rfl (Or.inl rfl) pe_int)
      (pss_cons (ps_set (i := 4) sc_boards.nd rfl (Or.inl rfl) (pe_lst pa_nil))
      (pss_cons (ps_for PassesOwn.never rfl (pi_tup (pv 1)) (pg_name (i := 5) sc_boards.nd rfl (Or.inl rfl))
        (pss_cons (ps_aug (i := 2) sc_boards.nd rfl (Or.inl rfl) (pe_ix (ix_tupK K rfl) (pe_ix (ix_tupK K rfl) (pe_fldK K rfl (pv 0) (by rfl)) (pv 5) (fun _ _ => rfl)) pe_int (fun _ _ => rfl)) ip_add)
      (pss_cons (ps_aug (i := 3) sc_boards.nd rfl (Or.inl rfl) (pe_ix (ix_tupK K rfl) (pe_ix (ix_tupK K rfl) (pe_fldK K rfl (pv 0) (by rfl)) (pv 5) (fun _ _ => rfl)) pe_int (fun _ _ => rfl)) ip_add)
      (pss_one (ps_expr (pe_bm PySem.F.plainAttrs_list PySem.F.slot_list_append PySem.F.type_list_append mt_append (pv 4) (pa_cons (pe_tup (pa_cons (pv 2) (pa_cons (pv 3) pa_nil))) pa_nil)))))))
      (pss_one (ps_ret (pv 4)))))))), ?_⟩
    refine ⟨_, rfl, _, rfl, m, .ref x, n, evs, run, rfl, hM, f4, hv, _, rfl, ?_⟩
    rw [hw]
    refine iteF ⟨Nat.zero_le _, fun D hD => ?_⟩
    have s0 := Same.new (o := .lst []) hD
    refine ⟨_, rfl, x, rfl, ⟨_, SqT.keep (Keep.of s0) hx⟩, ?_⟩
    refine for_tup (K := K) (a := x) (xs := run.map V.int) (fun i σ H' => Same H H' ∧ ∃ u, σ = [some m, some (.ref x), some (.int (sumT evs (run.take i))), some (.int (sumP evs (run.take i))), some (.ref D), u] ∧ LTs K H' D (boardsTo evs run i))
      ⟨s0, none, rfl, [], upd_same, .nil⟩ (fun i σ H' _ z => SqT.keep (Keep.of z.1) hx) ?_ ?_
    · rintro i y σ H1 hi ⟨s1, u, rfl, ys, hy, al⟩
      obtain ⟨j, hj, rfl⟩ : ∃ j, run[i]? = some j ∧ y = V.int j := by
        rw [List.getElem?_map] at hi
        cases z : run[i]? with
        | none => rw [z] at hi; cases hi
        | some n => rw [z] at hi; exact ⟨n, rfl, (Option.some.inj hi).symm⟩
      obtain ⟨j0, j1⟩ := hin j (List.mem_of_getElem? hj)
      obtain ⟨b, a, t, p, e1, e2⟩ := ev_at f4 j0 j1
      have tk := take_succ hj
      have eT : sumT evs (run.take (i + 1)) = sumT evs (run.take i) + t := by rw [tk, sumT_app, sumT_one, e2]; rfl
      have eP : sumP evs (run.take (i + 1)) = sumP evs (run.take i) + p := by rw [tk, sumP_app, sumP_one, e2]; rfl
      have hM1 := hM.keep (Keep.of s1)
      have ly := al.len
      have il := (List.getElem?_eq_some_iff.mp hj).1
      refine ⟨_, rfl, _, rfl, fldE hM1 T.cl_Machine T.n_events fun w hw => ⟨_, rfl, ixT hw j0 e1 fun z hz => ixI hz (by decide) rfl ⟨_, _, rfl, rfl, _, rfl, _, rfl, fldE hM1 T.cl_Machine T.n_events fun w2 hw2 => ⟨_, rfl, ixT hw2 j0 e1 fun z2 hz2 => ixI hz2 (by decide) rfl ⟨_, _, rfl, rfl, ?_⟩⟩⟩⟩⟩
      refine ⟨_, rfl, .inl ⟨rfl, _, SqL.lt hy⟩, _, rfl, _, rfl, (by show 2 ≤ sizeLine; decide), fun z hz => ?_⟩
      have sz := Same.new (o := .tup [.int (sumT evs (run.take i) + t), .int (sumP evs (run.take i) + p)]) hz
      refine ⟨D, ys, _, rfl, rfl, sz _ _ hy, ?_, ?_⟩
      · rw [ly]
        unfold boardsTo
        rw [List.length_map, List.length_range]
        exact Nat.lt_of_lt_of_le (show i < 1001 by omega) (by decide)
      · have kp := Keep.lst (o := .lst (ys ++ [.ref z])) (sz _ _ hy)
        refine ⟨Same.chg (s1.trans sz) hD, some (.int j), ?_, _, upd_same, ?_⟩
        · rw [eT, eP]
          rfl
        · unfold boardsTo
          rw [List.range_succ, List.map_append]
          refine (al.imp fun _ _ y => (y.keep (Keep.of sz)).keep kp).snoc ?_
          show IT K _ _ [sumT evs (run.take (i + 1)), sumP evs (run.take (i + 1))]
          rw [eT, eP]
          exact (IT.new (xs := [.int (sumT evs (run.take i) + t), .int (sumP evs (run.take i) + p)]) rfl).keep kp
    · rintro σ H1 ⟨s1, u, rfl, L⟩
      rw [List.length_map] at L
      exact ⟨_, rfl, k D H1 s1 hD L⟩
theorem walk_take {evs : List (List Int)} {run : List Int} (h : (walkTo evs 0 run).isSome = true) (n : Nat) : (walkTo evs 0 (run.take n)).isSome = true := by
  rw [← List.take_append_drop n run, walkTo_app] at h
  cases z : walkTo evs 0 (run.take n) with
  | none => rw [z] at h; cases h
  | some s => rfl
theorem sumP_bd {evs : List (List Int)} {B : Int} (hB : 0 ≤ B) (h : ∀ e ∈ evs, -B ≤ evP e ∧ evP e ≤ B) : ∀ {run : List Int}, InEv evs run → -(B * run.length) ≤ sumP evs run ∧ sumP evs run ≤ B * run.length
  | [], _ => by
    have e : B * (([] : List Int).length : Int) = 0 := by simp
    have e2 : sumP evs [] = 0 := rfl
    rw [e, e2]; exact ⟨by decide, by decide⟩
  | k :: r, hin => by
    obtain ⟨h0, h1⟩ := hin k (by simp)
    have ih := sumP_bd hB h (run := r) fun y hy => hin y (by simp [hy])
    have hk : k.toNat < evs.length := by omega
    have he : evs.getD k.toNat [] ∈ evs := by rw [List.getD_eq_getElem?_getD, List.getElem?_eq_getElem hk]; exact List.getElem_mem hk
    obtain ⟨t0, t1⟩ := h _ he
    have e : sumP evs (k :: r) = evP (evs.getD k.toNat []) + sumP evs r := rfl
    have e2 : B * (((k :: r).length : Nat) : Int) = B * (r.length : Int) + B := by rw [List.length_cons]; show B * ((r.length : Int) + 1) = _; rw [Int.mul_add, Int.mul_one]
    rw [e, e2]
    omega
theorem okEv.bT {n : Int} {e : List Int} (h : okEv n e) : 1 ≤ evT e ∧ evT e ≤ 1000 := by
  obtain ⟨b, a, t, p, rfl, _, _, _, _, h1, h2, _, _⟩ := h
  exact ⟨h1, by show t ≤ 1000; omega⟩
theorem okEv.bP {n : Int} {e : List Int} (h : okEv n e) : -400 ≤ evP e ∧ evP e ≤ 400 := by
  obtain ⟨b, a, t, p, rfl, _, _, _, _, _, _, h1, h2⟩ := h
  exact ⟨h1, h2⟩
/-- a slice of a tuple of ints from its begin on -/
theorem slTo {K : PySem.W.Frag} {q : Addr} {run : List Int} {i : Nat} {z : Int} {H : Hp} {P : Addr → Hp → Prop} (ez : z = (i : Int)) (h : SqT K H q (run.map V.int)) (k : ∀ v H', Same H H' → IT K H' (.ref v) (run.take i) → P v H') :
    ∃ a xs, V.ref q = .ref a ∧ SqT K H a xs ∧ (HT.sIx xs.length 0 none = 0 ∧ HT.sIx xs.length xs.length (some z) = xs.length → P a H) ∧
      (¬ (HT.sIx xs.length 0 none = 0 ∧ HT.sIx xs.length xs.length (some z) = xs.length) → ∀ p, H p = none → P p (upd H p (.tup (cutV xs none (some z))))) := by
  subst ez
  have cut : cutV (run.map V.int) none (some (i : Int)) = (run.take i).map V.int := by
    unfold cutV
    rw [HT.sIx_none, HT.sIx_nat, List.drop_zero, Nat.sub_zero, List.map_take, List.length_map]
    by_cases c : i ≤ run.length
    · rw [Nat.min_eq_left c]
    · rw [Nat.min_eq_right (by omega), List.take_of_length_le (by rw [List.length_map]; exact Nat.le_refl _), List.take_of_length_le (by rw [List.length_map]; omega)]
  refine ⟨q, _, rfl, h, fun e => ?_, fun _ p hp => ?_⟩
  · rw [HT.sIx_nat, List.length_map] at e
    have le : run.length ≤ i := by omega
    refine k q H (Same.refl H) ⟨q, rfl, ?_⟩
    rw [List.take_of_length_le le]
    exact h
  · rw [cut]
    exact k p _ (Same.new hp) (IT.new rfl)
theorem last_of {α : Type} {xs : List α} {n : Nat} {y : α} (h : xs.length = n + 1) (hy : xs[n]? = some y) : atI xs (-1) = some y := by
  unfold atI ixN
  rw [if_neg (by decide), if_pos (by omega)]
  have e : (-1 + ((xs.length : Nat) : Int)).toNat = n := by omega
  show xs[(-1 + ((xs.length : Nat) : Int)).toNat]? = some y
  rw [e]
  exact hy
theorem boardsTo_last {evs : List (List Int)} {run : List Int} {n : Nat} (h : run.length = n + 1) : (boardsTo evs run run.length)[n]? = some [sumT evs run, sumP evs run] := by
  unfold boardsTo
  rw [List.getElem?_map, List.getElem?_range (by omega)]
  show some [sumT evs (run.take (n + 1)), sumP evs (run.take (n + 1))] = _
  rw [List.take_of_length_le (by omega)]
def signI (n : Int) : Int := (if decide (0 < n) = true then 1 else 0) - (if decide (n < 0) = true then 1 else 0)
theorem sign_mul {g n : Int} (h : 0 < g) : signI (g * n) = signI n := by
  have h1 : (0 < g * n) ↔ (0 < n) := ⟨fun z => by
    by_cases c : 0 < n
    · exact c
    · exact absurd z (Int.not_lt.mpr (Int.mul_nonpos_of_nonneg_of_nonpos (Int.le_of_lt h) (by omega))), fun z => Int.mul_pos h z⟩
  have h2 : (g * n < 0) ↔ (n < 0) := ⟨fun z => by
    by_cases c : n < 0
    · exact c
    · exact absurd z (Int.not_lt.mpr (Int.mul_nonneg (Int.le_of_lt h) (by omega))), fun z => Int.mul_neg_of_pos_of_neg h z⟩
  unfold signI
  rw [decide_eq_decide.mpr h1, decide_eq_decide.mpr h2]
/-- the share that a board shows is below, at, above a / b as the value is below, at, above 0 -/
theorem sign_share {P T a b : Int} (hT : 0 < T) : signI (P / gcdI P T * b - a * (T / gcdI P T)) = signI (b * P - a * T) := by
  have g0 := gcdI_pos (p := P) hT
  have d1 : gcdI P T ∣ P := Int.ofNat_dvd_left.mpr (Nat.gcd_dvd_left _ _)
  have d2 : gcdI P T ∣ T := Int.ofNat_dvd_left.mpr (Nat.gcd_dvd_right _ _)
  have e1 := Int.mul_ediv_cancel' d1
  have e2 := Int.mul_ediv_cancel' d2
  rw [← sign_mul (n := P / gcdI P T * b - a * (T / gcdI P T)) g0]
  congr 1
  rw [Int.mul_sub, ← Int.mul_assoc, e1, ← Int.mul_assoc, Int.mul_comm (gcdI P T) a, Int.mul_assoc, e2, Int.mul_comm P b]
theorem low_bd {P T : Int} (hT : 0 < T) : (P / gcdI P T).natAbs ≤ P.natAbs ∧ 1 ≤ T / gcdI P T ∧ T / gcdI P T ≤ T := by
  obtain ⟨_, l2, l3⟩ := low_one (p := P) hT
  refine ⟨?_, l2, l3⟩
  have d1 : gcdI P T ∣ P := Int.ofNat_dvd_left.mpr (Nat.gcd_dvd_left _ _)
  rw [Int.natAbs_ediv_of_dvd d1]
  exact Nat.div_le_self _ _
theorem gcd_shift {a b k : Int} : gcdI (a + k * b) b = gcdI a b := by
  have e : ∀ x y : Int, gcdI x y = ((Int.gcd x y : Nat) : Int) := fun _ _ => rfl
  rw [e, e, Int.gcd_add_mul_right_left]
/-- so many points more for each try -/
def shiftE (k : Int) (e : List Int) : List Int := [evB e, evA e, evT e, evP e + k * evT e]
theorem getD_shift {k : Int} {evs : List (List Int)} {j : Int} (h0 : 0 ≤ j) (h1 : j < (evs.length : Int)) : (evs.map (shiftE k)).getD j.toNat [] = shiftE k (evs.getD j.toNat []) := by
  have hj : j.toNat < evs.length := by omega
  rw [List.getD_eq_getElem?_getD, List.getD_eq_getElem?_getD, List.getElem?_map, List.getElem?_eq_getElem hj]
  rfl
theorem walk_shift {k : Int} {evs : List (List Int)} : ∀ (run : List Int) (s : Int), InEv evs run → walkTo (evs.map (shiftE k)) s run = walkTo evs s run
  | [], s, _ => rfl
  | j :: r, s, hin => by
    obtain ⟨h0, h1⟩ := hin j (by simp)
    have ih := fun s => walk_shift (k := k) r s fun y hy => hin y (by simp [hy])
    show (if _ then walkTo _ _ r else none) = (if _ then walkTo _ _ r else none)
    rw [getD_shift h0 h1, List.length_map, ih]
    rfl
theorem sum_shift {k : Int} {evs : List (List Int)} : ∀ (run : List Int), InEv evs run → sumT (evs.map (shiftE k)) run = sumT evs run ∧ sumP (evs.map (shiftE k)) run = sumP evs run + k * sumT evs run
  | [], _ => ⟨rfl, by show (0 : Int) = 0 + k * 0; rw [Int.mul_zero]; rfl⟩
  | j :: r, hin => by
    obtain ⟨h0, h1⟩ := hin j (by simp)
    obtain ⟨i1, i2⟩ := sum_shift (k := k) r fun y hy => hin y (by simp [hy])
    have e1 : sumT (evs.map (shiftE k)) (j :: r) = evT ((evs.map (shiftE k)).getD j.toNat []) + sumT (evs.map (shiftE k)) r := rfl
    have e2 : sumP (evs.map (shiftE k)) (j :: r) = evP ((evs.map (shiftE k)).getD j.toNat []) + sumP (evs.map (shiftE k)) r := rfl
    have e3 : sumT evs (j :: r) = evT (evs.getD j.toNat []) + sumT evs r := rfl
    have e4 : sumP evs (j :: r) = evP (evs.getD j.toNat []) + sumP evs r := rfl
    rw [e1, e2, e3, e4, getD_shift h0 h1, i1, i2]
    refine ⟨rfl, ?_⟩
    show (evP (evs.getD j.toNat []) + k * evT (evs.getD j.toNat [])) + (sumP evs r + k * sumT evs r) = _
    rw [Int.mul_add]
    omega
theorem val_shift {a b k t p : Int} : b * (p + k * t) - (a + k * b) * t = b * p - a * t := by
  rw [Int.mul_add, Int.add_mul, Int.mul_assoc, Int.mul_left_comm b k t]
  omega
theorem all2_bl {as : List V} {bs : List Bool} (h : All2 (fun v b => v = .bl b) as bs) : as = bs.map V.bl := by
  induction h with
  | nil => rfl
  | cons e _ ih => rw [e, ih]; rfl
/-- points beyond 400 -/
def far (e : List Int) : Bool := decide ((400 : Int) < (if evP e < 0 then -evP e else evP e))
theorem shift_ok {n k : Int} {evs : List (List Int)} (ok : ∀ e ∈ evs, okEv n e) (h : ((evs.map (shiftE k)).map far).any id = false) : ∀ e ∈ evs.map (shiftE k), okEv n e := by
  intro e he
  obtain ⟨e0, h0, rfl⟩ := List.mem_map.mp he
  obtain ⟨b, a, t, p, rfl, h1, h2, h3, h4, h5, h6, h7, h8⟩ := ok e0 h0
  have nf : far (shiftE k [b, a, t, p]) = false := by
    have z := (List.any_eq_false.mp h) (far (shiftE k [b, a, t, p])) (List.mem_map.mpr ⟨_, he, rfl⟩)
    simpa using z
  have nf2 := of_decide_eq_false nf
  have ep : evP (shiftE k [b, a, t, p]) = p + k * t := rfl
  rw [ep] at nf2
  refine ⟨b, a, t, p + k * t, rfl, h1, h2, h3, h4, h5, h6, ?_, ?_⟩
  · split at nf2 <;> omega
  · split at nf2 <;> omega

end
end Myk09

namespace Myk09
open PySem L2 My EnT
-- Same from behind
local macro_rules | `(tactic| nest_cls) => `(tactic| first
  | exact Same.refl _
  | assumption
  | (refine Same.back (Same.new (by assumption)) ?_; nest_cls)
  | (refine Same.back (by assumption) ?_; nest_cls)
  | (refine Same.chg ?_ (by first | assumption | exact Free.flip (by assumption) (by nest_cls)); nest_cls))
-- Keep from behind
local macro_rules | `(tactic| mem_news) => `(tactic| first
  | exact Keep.refl _
  | assumption
  | (refine Keep.back (Keep.new (by assumption)) ?_; mem_news)
  | (refine Keep.back (Keep.lst (by assumption)) ?_; mem_news)
  | (refine Keep.back (Keep.lst (by kd_adr)) ?_; mem_news)
  | (refine Keep.back (Keep.of (by assumption)) ?_; mem_news)
  | (refine Keep.back (Keep.ofBut (by assumption) (by kba_ints)) ?_; mem_news)
  | (refine Keep.back (by assumption) ?_; mem_news))
-- the pot
local macro_rules | `(tactic| kba_ints) => `(tactic| first
  | assumption
  | (refine Pt.At.back (Same.new (by assumption)) ?_; kba_ints)
  | (refine Pt.At.back (by assumption) ?_; kba_ints)
  | exact Pt.At.flip (by assumption) (by nest_cls))
-- a fact of a heap, from behind
local macro_rules | `(tactic| kd_adr) => `(tactic| first
  | ((with_reducible show IT _ _ _ _); first
    | assumption
    | exact IT.new2
    | exact IT.new1
    | exact IT.new3
    | exact IT.new4
    | exact IT.flip (by assumption) (by mem_news)
    | exact IT.flip IT.new2 (by mem_news)
    | exact IT.flip IT.new3 (by mem_news)
    | exact IT.flip IT.new1 (by mem_news)
    | exact IT.flip IT.new4 (by mem_news))
  | ((with_reducible show ITs _ _ _ _); first
    | assumption
    | exact ITs.flip (by assumption) (by mem_news))
  | ((with_reducible show SqT _ _ _ _); first
    | assumption
    | exact SqT.lt upd_same
    | exact SqT.lt (by assumption)
    | exact IT.sq (by assumption)
    | exact SqT.flip (by assumption) (by mem_news)
    | exact SqT.flip (SqT.lt (by assumption)) (by mem_news)
    | exact SqT.flip (IT.sq (by assumption)) (by mem_news)
    | exact SqT.flip (SqT.lt upd_same) (by mem_news))
  | ((with_reducible show SqL _ _ _ _); first
    | assumption
    | exact SqL.lt upd_same
    | exact SqL.lt (by assumption)
    | exact SqL.flip (by assumption) (by nest_cls)
    | exact SqL.flip (SqL.lt (by assumption)) (by nest_cls)
    | exact SqL.flip (SqL.lt upd_same) (by nest_cls))
  | ((with_reducible show Parts _ _ _ _ _); first | assumption | exact Parts.flip (by assumption) (by mem_news))
  | ((with_reducible show MachAt _ _ _ _ _ _); first | assumption | exact MachAt.flip (by assumption) (by mem_news))
  | ((with_reducible show ShIs _ _ _ _ _); first | assumption | exact ShIs.flip (by assumption) (by mem_news))
  | ((with_reducible show RunIs _ _ _ _ _); first | assumption | exact RunIs.flip (by assumption) (by mem_news))
  | ((with_reducible show LTs _ _ _ _); first | assumption | exact LTs.flip (by assumption) (by nest_cls))
  | ((with_reducible show Pt.At _ _); kba_ints)
  | ((with_reducible show Same _ _); nest_cls)
  | ((with_reducible show Keep _ _); mem_news)
  | ((with_reducible show (_ : Hp) _ = some _); first
    | assumption
    | exact upd_same
    | exact At.flip (by assumption) (by nest_cls)
    | exact At.flip upd_same (by nest_cls)))
-- a side condition
local macro_rules | `(tactic| leaf_len) => `(tactic| first
  | (with_reducible rfl)
  | (with_reducible assumption)
  | kd_adr
  | omega
  | ((with_reducible show (_ : Nat) ≤ sizeLine); first | (show 1 ≤ sizeLine; decide) | (show 2 ≤ sizeLine; decide) | (show 3 ≤ sizeLine; decide) | (show 4 ≤ sizeLine; decide) | (show 5 ≤ sizeLine; decide) | (show 6 ≤ sizeLine; decide) | (show 7 ≤ sizeLine; decide) | (show 8 ≤ sizeLine; decide) | (show 0 ≤ sizeLine; decide))
  | exact rfl
  | ((with_reducible show _ ∨ _); first | exact Or.inl (by leaf_len) | exact Or.inr (by leaf_len))
  | exact List.cons_ne_nil _ _
  | exact mf_ev _ _
  | exact mf_st _ _
  | exact flat_ints _
  | ((with_reducible show tyV _ _ _ _); exact Or.inl ⟨rfl, _, by kd_adr⟩)
  | ((with_reducible show ClsV _ _); exact ClsV.ty _)
  | ((with_reducible show CDivW _ _); exact CDivW.of (by omega) (by omega))
  | (apply Exists.intro (α := List V); kd_adr)
  | assumption
  | ((with_reducible show small _); unfold small; omega)
  | ((with_reducible show CPow _ _); exact ⟨by decide, by decide, by decide⟩)
  | ((with_reducible show CMul _ _); first | exact CMul.l (by omega) (by omega) | exact CMul.r (by omega) (by omega))
  | ((with_reducible show CMulW _ _); exact CMulW.of (by omega) (by omega))
  | ((with_reducible show TyX _ _ _ _); first | exact TyX.base (.int _) | exact TyX.base (.str _) | exact TyX.base (.bl _) | exact tyT (by kd_adr) | exact TyX.base (.lst (by kd_adr)))
  | ((with_reducible show PySem.W.kitOne _ _ _ = some _); first | exact kit_ty (r := true) (by decide +kernel) | exact kit_ty (r := false) (by decide +kernel))
  | decide)
-- a step
local macro_rules | `(tactic| l_ints) => `(tactic| first
  | (intro (p : Addr) (hp : (_ : Hp) p = none))
  | (intro (H' : Hp) (s : Same _ H'))
  | (intro (p : Addr) (H' : Hp) (s : Same _ H'))
  | (intro (h : IT _ _ _ _))
  | (intro (h : SqT _ _ _ _))
  | (intro (h : (_ : Hp) _ = none))
  | (intro (h : (_ : Hp) _ = some _))
  | ((with_reducible show rCatA _ _ _ _ _); refine catJ (by kd_adr) (by kd_adr) (by leaf_len) ?_)
  | ((with_reducible show rSlA _ _ none (some _) _ _); refine slTake (by kd_adr) (by omega) ?_)
  | with_reducible refine tC_i ?_
  | with_reducible refine tNil_i ?_
  | with_reducible refine tCons_i ?_
  | with_reducible refine tCall_i ?_
  | with_reducible refine tOp_i ?_
  | ((with_reducible refine tVar_i ?_ ?_); · exact rfl)
  | with_reducible refine iteT ?_
  | with_reducible refine iteF ?_
  | (with_reducible refine iteNEq ?_ ?_; · assumption)
  | (with_reducible refine iteNb ?_ ?_; · assumption)
  | (with_reducible refine iteTb ?_ ?_; · assumption)
  | (with_reducible refine iteFb ?_ ?_; · assumption)
  | ((with_reducible refine iteFb ?_ ?_); · exact rfl)
  | ((with_reducible refine iteTb ?_ ?_); · exact rfl)
  | with_reducible refine iteST rfl ?_
  | with_reducible refine iteSF (by decide +kernel) ?_
  | (refine And.intro ?_ ?_; · leaf_len)
  | apply Exists.intro (α := V)
  | apply Exists.intro (α := Int)
  | apply Exists.intro (α := Addr)
  | apply Exists.intro (α := List V)
  | apply Exists.intro (α := Str)
  | apply Exists.intro (α := Nat)
  | apply Exists.intro (α := Bool)
  | apply Exists.intro (α := Value)
  | apply Exists.intro (α := List Int)
  | apply Exists.intro (α := List (List Int))
  | apply Exists.intro (α := List Bool)
  | apply Exists.intro (α := List (Str × V))
  | apply Exists.intro (α := Option (List (Option Int)))
  | apply Exists.intro (α := Option Int)
  | apply Exists.intro (α := Pt)
  | refine Or.inr ⟨_, rfl, ?_⟩
  | apply Or.inl)

section
variable {P : Program} {w : World} {K : PySem.W.Frag} {mg : Str → Option Value} {base : Heap} {A : Ad}
theorem made_ok {C x dx : Addr} {n : Int} {w : V} {evs : List (List Int)} {H1 : Hp} {Q : Hp → Prop} {E : XK} (hx : H1 x = none) (hd : H1 dx = none) (n0 : 1 ≤ n) (n1 : n ≤ 12) (hw : ITs K H1 w evs) (l30 : evs.length ≤ 30) (ok : ∀ e ∈ evs, okEv n e)
    (k : ∀ H2, Same H1 H2 → MachAt K C H2 (.ref x) n evs → Q H2) : spInitR K C [.ref x, .int n, w] (upd (upd H1 dx (.own x)) x (.ins C dx [])) (fun v H2 => v = .non ∧ Q H2) E := by
  have s1 : Same H1 (upd (upd H1 dx (.own x)) x (.ins C dx [])) := Same.chg (Same.new hd) hx
  refine ⟨x, dx, n, w, evs, rfl, upd_same, n0, n1, hw.keep (Keep.of s1), l30, ok, fun H' hm hk => ⟨rfl, ?_⟩⟩
  have s2 : Same H1 H' := fun b o e => hk b o (ne_of_none e hx) (s1 b o e)
  exact k H' s2 ⟨x, dx, w, rfl, hm, hw.keep (Keep.of s2)⟩

theorem mf_re {n m : Int} {w v : V} : putF "events" w (putF "standings" (.int n) (mf m v)) = mf n w := by
  with_unfolding_all rfl
theorem ITs.nil {H : Hp} {q : Addr} (h : SqT K H q []) : ITs K H (.ref q) [] := ⟨q, [], rfl, h, .nil⟩
def spMade (K : PySem.W.Frag) (C : Addr) : Sp := fun vs H Q _ => ∃ (n : Int) (w : V) (evs : List (List Int)), vs = [.int n, w] ∧ ITs K H w evs ∧ ∀ (x : Addr) (H' : Hp), Same H H' → MachAt K C H' (.ref x) n evs → Q (.ref x) H'

theorem sc_made : FnScope ["standings", "events", "machine"] ["standings", "events"] (defScope s_made) := ⟨rfl, rfl, rfl, by decide +kernel, rfl, by decide +kernel, by decide +kernel⟩
theorem ok_made (T : Txt K mg A) : FnOk P w K mg base CX0 7 A.f_made A.d_made ["standings", "events"] (spMade K A.C_Machine) := by
  refine T.F_made.ok sc_made (fun vs H Q E h => ?_) (fun cdv A1 outer s H vs Q E hr h => ?_)
  · obtain ⟨n, w, evs, rfl, _⟩ := h
    rfl
  · obtain ⟨n, w, evs, rfl, hw, k⟩ := h
    refine ⟨_, (pss_cons (ps_set (i := 2) sc_made.nd rfl (Or.inl rfl) (pe_make T.mk_Machine (ok_Machine___init__ T) (hr.mono (by decide)) rfl T.m_Machine T.B_Machine___init__ .nil pass0 (pa_cons pe_int (pa_cons (pe_tup pa_nil) pa_nil))))
      (pss_cons (ps_fld (pv 2) (pv 0) rfl)
      (pss_cons (ps_fld (pv 2) (pv 1) rfl)
      (pss_one (ps_ret (pv 2)))))), ?_⟩
    refine ⟨(by show 0 ≤ sizeLine; decide), fun e he => ?_⟩
    have s0 := Same.new (o := .tup []) he
    refine fun x dx nx ndx nex => made_ok nx ndx (by decide) (by decide) (ITs.nil (SqT.lt upd_same)) (by decide) (fun e he => by cases he) fun H5 s5 hM => ?_
    obtain ⟨m, d, v, em, h1, _⟩ := id hM
    cases em
    have s6 := Same.chg (o := .ins A.C_Machine d (putF "standings" (.int n) (mf 1 v))) s5 nx
    have s7 := Same.chg (o := .ins A.C_Machine d (putF "events" w (putF "standings" (.int n) (mf 1 v)))) s6 nx
    refine ⟨_, rfl, _, rfl, x, A.C_Machine, d, _, rfl, h1, T.cl_Machine, T.n_standings, (by show 2 < 1000; decide), ?_⟩
    dsimp only
    refine ⟨_, rfl, _, rfl, x, A.C_Machine, d, _, rfl, upd_same, T.cl_Machine, T.n_events, (by show 2 < 1000; decide), ?_⟩
    dsimp only
    refine ⟨_, rfl, k x _ (s0.trans s7) ⟨x, d, w, rfl, ?_, hw.keep (Keep.of (s0.trans s7))⟩⟩
    rw [upd_same, mf_re]
theorem ixN_ge {n : Nat} {i : Int} (h0 : 0 ≤ i) (h1 : i < (n : Int)) : ixN n i = some i.toNat := by
  unfold ixN
  rw [if_pos h0, if_pos h1]
theorem _root_.My.All2.set {α β : Type} {R : α → β → Prop} {as : List α} {bs : List β} (h : All2 R as bs) {a : α} {b : β} (r : R a b) : ∀ i : Nat, All2 R (as.set i a) (bs.set i b) := by
  induction h with
  | nil => intro i; simp; exact .nil
  | cons s t ih =>
    intro i
    cases i with
    | zero => exact .cons r t
    | succ i => exact .cons s (ih i)
/-- an event parted: its first part in its place, its second at the end -/
def parEv (evs : List (List Int)) (k : Nat) (n b a t p t1 p1 : Int) : List (List Int) := evs.set k [b, n, t1, p1] ++ [[n, a, t - t1, p - p1]]
def spParted (K : PySem.W.Frag) (C : Addr) : Sp := fun vs H Q _ => ∃ (m : V) (ev t1 p1 n : Int) (evs : List (List Int)) (b a t p : Int), vs = [m, .int ev, .int t1, .int p1] ∧ MachAt K C H m n evs ∧ 0 ≤ ev ∧ ev < (evs.length : Int) ∧ evs[ev.toNat]? = some [b, a, t, p] ∧ 1 ≤ t1 ∧ t1 ≤ t - 1 ∧ evs.length ≤ 1000 ∧
  ∀ (x : Addr) (H' : Hp), Same H H' → MachAt K C H' (.ref x) (n + 1) (parEv evs ev.toNat n b a t p t1 p1) → Q (.ref x) H'

theorem sc_parted : FnScope ["machine", "event", "tries", "points", "before", "after", "all_tries", "all_points", "new", "events"] ["machine", "event", "tries", "points"] (defScope s_parted) := ⟨rfl, rfl, rfl, by decide +kernel, rfl, by decide +kernel, by decide +kernel⟩
theorem ok_parted (T : Txt K mg A) : FnOk P w K mg base CX0 8 A.f_parted A.d_parted ["machine", "event", "tries", "points"] (spParted K A.C_Machine) := by
  refine T.F_parted.ok sc_parted (fun vs H Q E h => ?_) (fun cdv A1 outer s H vs Q E hr h => ?_)
  · obtain ⟨m, ev, t1, p1, n, evs, b, a, t, p, rfl, _⟩ := h
    rfl
  · obtain ⟨m, ev, t1, p1, n, evs, b, a, t, p, rfl, hM, ev0, ev1, he, h1, h2, hl, k⟩ := h
    refine ⟨_, (pss_cons (ps_if (pt_not (pt_val (pe_call (ok_has_event T) (hr.mono (by decide)) rfl T.m_has_event T.F_has_event.kp T.B_has_event .nil pass0 (pa_cons (pv 0) (pa_cons (pv 1) pa_nil))))) (pss_one ps_never) pss_nil)
      (pss_cons (ps_asg (pe_ix (ix_tupK K rfl) (pe_fldK K rfl (pv 0) (by rfl)) (pv 1) (fun _ _ => rfl)) (pg_tupK K rfl 4 rfl (pgs_cons (pg_name (i := 4) sc_parted.nd rfl (Or.inl rfl)) (pgs_cons (pg_name (i := 5) sc_parted.nd rfl (Or.inl rfl)) (pgs_cons (pg_name (i := 6) sc_parted.nd rfl (Or.inl rfl)) (pgs_cons (pg_name (i := 7) sc_parted.nd rfl (Or.inl rfl)) pgs_nil)))) rfl rfl))
      (pss_cons (ps_if (PW.pt (pw_or (pt_not (pt_val (pe_call (ok_is_between T) (hr.mono (by decide)) rfl T.m_is_between T.F_is_between.kp T.B_is_between .nil pass0 (pa_cons (pv 2) (pa_cons pe_int (pa_cons (pe_op op_sub (pv 6) pe_int) pa_nil)))))) (pw_or1 (pt_not (pt_val (pe_call (ok_is_whole T) (hr.mono (by decide)) rfl T.m_is_whole T.F_is_whole.kp T.B_is_whole .nil pass0 (pa_cons (pv 3) pa_nil))))))) (pss_one ps_never) pss_nil)
      (pss_cons (ps_set (i := 8) sc_parted.nd rfl (Or.inl rfl) (pe_fldK K rfl (pv 0) (by rfl)))
      (pss_cons (ps_set (i := 9) sc_parted.nd rfl (Or.inl rfl) (pe_callTy (call_listK K rfl) (by rfl) T.z_list (by decide +kernel) (pa_cons (pe_fldK K rfl (pv 0) (by rfl)) pa_nil)))
      (pss_cons (ps_asg (pe_tup (pa_cons (pv 4) (pa_cons (pv 8) (pa_cons (pv 2) (pa_cons (pv 3) pa_nil))))) (pg_sub (pv 9) (pv 1) set_list))
      (pss_cons (ps_expr (pe_bm PySem.F.plainAttrs_list PySem.F.slot_list_append PySem.F.type_list_append mt_append (pv 9) (pa_cons (pe_tup (pa_cons (pv 8) (pa_cons (pv 5) (pa_cons (pe_op op_sub (pv 6) (pv 2)) (pa_cons (pe_op op_sub (pv 7) (pv 3)) pa_nil))))) pa_nil)))
      (pss_one (ps_ret (pe_call (ok_made T) (hr.mono (by decide)) rfl T.m_made T.F_made.kp T.B_made .nil pass0 (pa_cons (pe_op op_add (pv 8) pe_int) (pa_cons (pe_callTy (call_tupleK K rfl) (by rfl) T.z_tuple (by decide +kernel) (pa_cons (pv 9) pa_nil)) pa_nil)))))))))))), ?_⟩
    refine ⟨_, rfl, _, rfl, m, ev, n, evs, rfl, hM, _, rfl, ?_⟩
    rw [dec_t ev0 (by omega)]
    refine iteF ⟨_, rfl, fldE hM T.cl_Machine T.n_events fun w hw => ⟨_, rfl, ixT hw ev0 he fun z hz => ?_⟩⟩
    obtain ⟨q, rfl, hq⟩ := hz
    refine ⟨q, _, rfl, hq, rfl, .int b, _, rfl, .int a, _, rfl, .int t, _, rfl, .int p, _, rfl, rfl, ?_⟩
    dsimp only
    refine ⟨_, rfl, _, rfl, _, _, rfl, rfl, t1, 1, t - 1, rfl, _, rfl, ?_⟩
    rw [dec_t h1 h2]
    refine iteF ⟨_, rfl, p1, rfl, _, rfl, iteF ?_⟩
    refine ⟨_, rfl, fldS hM T.cl_Machine T.n_standings ?_⟩
    refine ⟨_, rfl, fldE hM T.cl_Machine T.n_events fun w2 hw2 => ?_⟩
    obtain ⟨wq, xs, rfl, hx, al⟩ := hw2
    refine ⟨wq, xs, rfl, .inr hx, fun l hl0 => ?_⟩
    have sl := Same.new (o := .lst xs) hl0
    refine ⟨_, rfl, _, rfl, _, rfl, _, rfl, (by show 4 ≤ sizeLine; decide), fun z hz => ?_⟩
    have lx := al.len
    have sz := Same.new (o := .tup [.int b, .int n, .int t1, .int p1]) hz
    have hlz := sz _ _ (upd_same (H := H) (a := l) (o := .lst xs))
    refine ⟨_, rfl, _, rfl, l, xs, ev, ev.toNat, rfl, rfl, hlz, ixN_ge ev0 (by omega), ?_⟩
    have s2 := Same.chg (o := .lst (xs.set ev.toNat (.ref z))) (sl.trans sz) hl0
    have k2 : Keep (upd (upd H l (.lst xs)) z (.tup [.int b, .int n, .int t1, .int p1])) (upd (upd (upd H l (.lst xs)) z (.tup [.int b, .int n, .int t1, .int p1])) l (.lst (xs.set ev.toNat (.ref z)))) := Keep.lst hlz
    have al2 := (al.imp fun _ _ y => (y.keep (Keep.of (sl.trans sz))).keep k2).set ((IT.new (K := K) (H := upd H l (.lst xs)) (p := z) (xs := [.int b, .int n, .int t1, .int p1]) (ns := [b, n, t1, p1]) rfl).keep k2) ev.toNat
    have hl2 := upd_same (H := upd (upd H l (.lst xs)) z (.tup [.int b, .int n, .int t1, .int p1])) (a := l) (o := .lst (xs.set ev.toNat (.ref z)))
    generalize upd (upd (upd H l (.lst xs)) z (.tup [.int b, .int n, .int t1, .int p1])) l (.lst (xs.set ev.toNat (.ref z))) = H2 at s2 k2 al2 hl2 ⊢
    generalize hxs : xs.set ev.toNat (.ref z) = xs2 at al2 hl2 ⊢
    refine ⟨_, rfl, .inl ⟨rfl, _, SqL.lt hl2⟩, _, rfl, _, rfl, _, rfl, _, rfl, _, _, rfl, rfl, _, rfl, _, rfl, _, _, rfl, rfl, (by show 4 ≤ sizeLine; decide), fun z2 hz2 => ?_⟩
    have s3 := Same.new (o := .tup [.int n, .int a, .int (t - t1), .int (p - p1)]) hz2
    have hl3 := s3 _ _ hl2
    have lx2 : xs2.length = evs.length := by rw [← hxs, List.length_set]; exact lx
    refine ⟨l, xs2, _, rfl, rfl, hl3, Nat.lt_of_le_of_lt (show xs2.length ≤ 1000 by omega) (by decide), ?_⟩
    have s4 := Same.chg (o := .lst (xs2 ++ [.ref z2])) (s2.trans s3) hl0
    have k4 := Keep.lst (o := .lst (xs2 ++ [.ref z2])) hl3
    have al4 := (al2.imp fun _ _ y => (y.keep (Keep.of s3)).keep k4).snoc ((IT.new (K := K) (H := H2) (p := z2) (xs := [.int n, .int a, .int (t - t1), .int (p - p1)]) (ns := [n, a, t - t1, p - p1]) rfl).keep k4)
    have hl4 := upd_same (H := upd H2 z2 (.tup [.int n, .int a, .int (t - t1), .int (p - p1)])) (a := l) (o := .lst (xs2 ++ [.ref z2]))
    refine ⟨_, rfl, _, _, rfl, rfl, _, rfl, l, _, rfl, .inl ⟨SqL.lt hl4, fun q2 hq2 => ?_⟩⟩
    have s5 := Same.new (o := .tup (xs2 ++ [.ref z2])) hq2
    exact ⟨n + 1, .ref q2, _, rfl, ⟨q2, _, rfl, SqT.lt upd_same, al4.imp fun _ _ y => y.keep (Keep.of s5)⟩, fun x H' sx hMx => k x H' ((s4.trans s5).trans sx) hMx⟩
def spAny (K : PySem.W.Frag) : Sp := fun vs H Q _ => ∃ (p : Pt) (v : V) (ns : List Int), vs = [.ref p.a, v] ∧ p.At H ∧ IT K H v ns ∧ ns ≠ [] ∧ ns.length ≤ 1000 ∧ ∀ (n : Int) (H' : Hp), n ∈ ns → p.At H' → But p.l H H' → Q (.int n) H'

theorem sc_law_any : FnScope ["pot", "items"] ["pot", "items"] (defScope s_law_any) := ⟨rfl, rfl, rfl, by decide +kernel, rfl, by decide +kernel, by decide +kernel⟩
theorem ok_law_any (T : Txt K mg A) : FnOk P w K mg base CX0 2 A.f_law_any A.d_law_any ["pot", "items"] (spAny K) := by
  refine T.F_law_any.ok sc_law_any (fun vs H Q E h => ?_) (fun cdv A1 outer s H vs Q E hr h => ?_)
  · obtain ⟨p, v, ns, rfl, _⟩ := h
    rfl
  · obtain ⟨p, v, ns, rfl, hp, hv, hne, hl, k⟩ := h
    refine ⟨_, (pss_one (ps_ret (pe_ix (ix_tupK K rfl) (pv 1) (pe_call (ok_law_draw T) (hr.mono (by decide)) rfl T.m_law_draw T.F_law_draw.kp T.B_law_draw .nil pass0 (pa_cons (pv 0) (pa_cons (pe_callB (call_lenK K rfl) (by rfl) T.z_len (by decide +kernel) (pa_cons (pv 1) pa_nil)) pa_nil))) (fun _ _ => rfl)))), ?_⟩
    refine ⟨_, rfl, _, rfl, _, rfl, lenI hv fun ys e => ?_⟩
    rw [e]
    have l0 : 0 < ns.length := by cases ns with | nil => exact absurd rfl hne | cons => simp
    refine ⟨p, _, rfl, hp, by omega, small_of (by omega), fun r H' r0 r1 hp' b => ?_⟩
    have hr : r.toNat < ns.length := by omega
    exact ixI (hv.keep (hp.keep b)) r0 (List.getElem?_eq_getElem hr) (k _ _ (List.getElem_mem hr) hp' b)
end
end Myk09

namespace Myk09
open PySem L2 My EnT
-- Same from behind
local macro_rules | `(tactic| nest_cls) => `(tactic| first
  | exact Same.refl _
  | assumption
  | (refine Same.back (Same.new (by assumption)) ?_; nest_cls)
  | (refine Same.back (by assumption) ?_; nest_cls)
  | (refine Same.chg ?_ (by first | assumption | exact Free.flip (by assumption) (by nest_cls)); nest_cls))
-- Keep from behind
local macro_rules | `(tactic| mem_news) => `(tactic| first
  | exact Keep.refl _
  | assumption
  | (refine Keep.back (Keep.new (by assumption)) ?_; mem_news)
  | (refine Keep.back (Keep.lst (by assumption)) ?_; mem_news)
  | (refine Keep.back (Keep.lst (by kd_adr)) ?_; mem_news)
  | (refine Keep.back (Keep.of (by assumption)) ?_; mem_news)
  | (refine Keep.back (Keep.ofBut (by assumption) (by kba_ints)) ?_; mem_news)
  | (refine Keep.back (by assumption) ?_; mem_news))
-- the pot
local macro_rules | `(tactic| kba_ints) => `(tactic| first
  | assumption
  | (refine Pt.At.back (Same.new (by assumption)) ?_; kba_ints)
  | (refine Pt.At.back (by assumption) ?_; kba_ints)
  | exact Pt.At.flip (by assumption) (by nest_cls))
-- a fact of a heap, from behind
local macro_rules | `(tactic| kd_adr) => `(tactic| first
  | ((with_reducible show IT _ _ _ _); first
    | assumption
    | exact IT.new2
    | exact IT.new1
    | exact IT.new3
    | exact IT.new4
    | exact IT.flip (by assumption) (by mem_news)
    | exact IT.flip IT.new2 (by mem_news)
    | exact IT.flip IT.new3 (by mem_news)
    | exact IT.flip IT.new1 (by mem_news)
    | exact IT.flip IT.new4 (by mem_news))
  | ((with_reducible show ITs _ _ _ _); first
    | assumption
    | exact ITs.flip (by assumption) (by mem_news))
  | ((with_reducible show SqT _ _ _ _); first
    | assumption
    | exact SqT.lt upd_same
    | exact SqT.lt (by assumption)
    | exact IT.sq (by assumption)
    | exact SqT.flip (by assumption) (by mem_news)
    | exact SqT.flip (SqT.lt (by assumption)) (by mem_news)
    | exact SqT.flip (IT.sq (by assumption)) (by mem_news)
    | exact SqT.flip (SqT.lt upd_same) (by mem_news))
  | ((with_reducible show SqL _ _ _ _); first
    | assumption
    | exact SqL.lt upd_same
    | exact SqL.lt (by assumption)
    | exact SqL.flip (by assumption) (by nest_cls)
    | exact SqL.flip (SqL.lt (by assumption)) (by nest_cls)
    | exact SqL.flip (SqL.lt upd_same) (by nest_cls))
  | ((with_reducible show Parts _ _ _ _ _); first | assumption | exact Parts.flip (by assumption) (by mem_news))
  | ((with_reducible show MachAt _ _ _ _ _ _); first | assumption | exact MachAt.flip (by assumption) (by mem_news))
  | ((with_reducible show ShIs _ _ _ _ _); first | assumption | exact ShIs.flip (by assumption) (by mem_news))
  | ((with_reducible show RunIs _ _ _ _ _); first | assumption | exact RunIs.flip (by assumption) (by mem_news))
  | ((with_reducible show LTs _ _ _ _); first | assumption | exact LTs.flip (by assumption) (by nest_cls))
  | ((with_reducible show Pt.At _ _); kba_ints)
  | ((with_reducible show Same _ _); nest_cls)
  | ((with_reducible show Keep _ _); mem_news)
  | ((with_reducible show (_ : Hp) _ = some _); first
    | assumption
    | exact upd_same
    | exact At.flip (by assumption) (by nest_cls)
    | exact At.flip upd_same (by nest_cls)))
-- a side condition
local macro_rules | `(tactic| leaf_len) => `(tactic| first
  | (with_reducible rfl)
  | (with_reducible assumption)
  | kd_adr
  | omega
  | ((with_reducible show (_ : Nat) ≤ sizeLine); first | (show 1 ≤ sizeLine; decide) | (show 2 ≤ sizeLine; decide) | (show 3 ≤ sizeLine; decide) | (show 4 ≤ sizeLine; decide) | (show 5 ≤ sizeLine; decide) | (show 6 ≤ sizeLine; decide) | (show 7 ≤ sizeLine; decide) | (show 8 ≤ sizeLine; decide) | (show 0 ≤ sizeLine; decide))
  | exact rfl
  | ((with_reducible show _ ∨ _); first | exact Or.inl (by leaf_len) | exact Or.inr (by leaf_len))
  | exact List.cons_ne_nil _ _
  | exact mf_ev _ _
  | exact mf_st _ _
  | exact flat_ints _
  | ((with_reducible show tyV _ _ _ _); exact Or.inl ⟨rfl, _, by kd_adr⟩)
  | ((with_reducible show ClsV _ _); exact ClsV.ty _)
  | ((with_reducible show CDivW _ _); exact CDivW.of (by omega) (by omega))
  | (apply Exists.intro (α := List V); kd_adr)
  | assumption
  | ((with_reducible show small _); unfold small; omega)
  | ((with_reducible show CPow _ _); exact ⟨by decide, by decide, by decide⟩)
  | ((with_reducible show CMul _ _); first | exact CMul.l (by omega) (by omega) | exact CMul.r (by omega) (by omega))
  | ((with_reducible show CMulW _ _); exact CMulW.of (by omega) (by omega))
  | ((with_reducible show TyX _ _ _ _); first | exact TyX.base (.int _) | exact TyX.base (.str _) | exact TyX.base (.bl _) | exact tyT (by kd_adr) | exact TyX.base (.lst (by kd_adr)))
  | ((with_reducible show PySem.W.kitOne _ _ _ = some _); first | exact kit_ty (r := true) (by decide +kernel) | exact kit_ty (r := false) (by decide +kernel))
  | decide)
-- a step
local macro_rules | `(tactic| l_ints) => `(tactic| first
  | (intro (p : Addr) (hp : (_ : Hp) p = none))
  | (intro (H' : Hp) (s : Same _ H'))
  | (intro (p : Addr) (H' : Hp) (s : Same _ H'))
  | (intro (h : IT _ _ _ _))
  | (intro (h : SqT _ _ _ _))
  | (intro (h : (_ : Hp) _ = none))
  | (intro (h : (_ : Hp) _ = some _))
  | ((with_reducible show rCatA _ _ _ _ _); refine catJ (by kd_adr) (by kd_adr) (by leaf_len) ?_)
  | ((with_reducible show rSlA _ _ none (some _) _ _); refine slTake (by kd_adr) (by omega) ?_)
  | with_reducible refine tC_i ?_
  | with_reducible refine tNil_i ?_
  | with_reducible refine tCons_i ?_
  | with_reducible refine tCall_i ?_
  | with_reducible refine tOp_i ?_
  | ((with_reducible refine tVar_i ?_ ?_); · exact rfl)
  | with_reducible refine iteT ?_
  | with_reducible refine iteF ?_
  | (with_reducible refine iteNEq ?_ ?_; · assumption)
  | (with_reducible refine iteNb ?_ ?_; · assumption)
  | (with_reducible refine iteTb ?_ ?_; · assumption)
  | (with_reducible refine iteFb ?_ ?_; · assumption)
  | ((with_reducible refine iteFb ?_ ?_); · exact rfl)
  | ((with_reducible refine iteTb ?_ ?_); · exact rfl)
  | with_reducible refine iteST rfl ?_
  | with_reducible refine iteSF (by decide +kernel) ?_
  | (refine And.intro ?_ ?_; · leaf_len)
  | apply Exists.intro (α := V)
  | apply Exists.intro (α := Int)
  | apply Exists.intro (α := Addr)
  | apply Exists.intro (α := List V)
  | apply Exists.intro (α := Str)
  | apply Exists.intro (α := Nat)
  | apply Exists.intro (α := Bool)
  | apply Exists.intro (α := Value)
  | apply Exists.intro (α := List Int)
  | apply Exists.intro (α := List (List Int))
  | apply Exists.intro (α := List Bool)
  | apply Exists.intro (α := List (Str × V))
  | apply Exists.intro (α := Option (List (Option Int)))
  | apply Exists.intro (α := Option Int)
  | apply Exists.intro (α := Pt)
  | refine Or.inr ⟨_, rfl, ?_⟩
  | apply Or.inl)

section
variable {P : Program} {w : World} {K : PySem.W.Frag} {mg : Str → Option Value} {base : Heap} {A : Ad}
/-- a run as the parted machine walks it, and where the new boards stand -/
def twF (ev last : Int) : List Int → List Int
  | [] => []
  | k :: r => if k = ev then k :: last :: twF ev last r else k :: twF ev last r
def twN (ev : Int) : Int → List Int → List Int
  | _, [] => []
  | off, k :: r => if k = ev then off :: twN ev (off + 2) r else twN ev (off + 1) r
theorem twF_app (ev last : Int) : ∀ r q : List Int, twF ev last (r ++ q) = twF ev last r ++ twF ev last q
  | [], q => rfl
  | k :: r, q => by
    show (if k = ev then k :: last :: twF ev last (r ++ q) else k :: twF ev last (r ++ q)) = (if k = ev then _ else _) ++ _
    rw [twF_app ev last r q]
    split <;> rfl
theorem twN_app (ev last : Int) : ∀ (r q : List Int) (off : Int), twN ev off (r ++ q) = twN ev off r ++ twN ev (off + (twF ev last r).length) q
  | [], q, off => by
    show twN ev off q = [] ++ twN ev (off + ((0 : Nat) : Int)) q
    rw [Int.natCast_zero, Int.add_zero]
    rfl
  | k :: r, q, off => by
    show (if k = ev then off :: twN ev (off + 2) (r ++ q) else twN ev (off + 1) (r ++ q)) = (if k = ev then _ else _) ++ twN ev (off + ((if k = ev then k :: last :: twF ev last r else k :: twF ev last r : List Int).length : Int)) q
    rw [twN_app ev last r q (off + 2), twN_app ev last r q (off + 1)]
    split
    · show off :: (_ ++ _) = off :: (_ ++ _)
      have e : off + 2 + ((twF ev last r).length : Int) = off + ((k :: last :: twF ev last r).length : Int) := by rw [List.length_cons, List.length_cons]; omega
      rw [e]
    · have e : off + 1 + ((twF ev last r).length : Int) = off + ((k :: twF ev last r).length : Int) := by rw [List.length_cons]; omega
      rw [e]
theorem twF_len (ev last : Int) : ∀ r : List Int, (twF ev last r).length ≤ 2 * r.length
  | [] => Nat.le_refl _
  | k :: r => by
    have ih := twF_len ev last r
    show (if _ then _ else _ : List Int).length ≤ _
    split
    · rw [List.length_cons, List.length_cons, List.length_cons]; omega
    · rw [List.length_cons, List.length_cons]; omega
theorem twN_len (ev : Int) : ∀ (r : List Int) (off : Int), (twN ev off r).length ≤ r.length
  | [], _ => Nat.le_refl _
  | k :: r, off => by
    show (if _ then _ else _ : List Int).length ≤ _
    have h1 := twN_len ev r (off + 2)
    have h2 := twN_len ev r (off + 1)
    split
    · rw [List.length_cons, List.length_cons]; omega
    · rw [List.length_cons]; omega
theorem twN_ge (ev : Int) : ∀ (r : List Int) (off : Int), ∀ x ∈ twN ev off r, off ≤ x
  | [], _, x, h => by cases h
  | k :: r, off, x, h => by
    have h' : x ∈ (if k = ev then off :: twN ev (off + 2) r else twN ev (off + 1) r) := h
    split at h'
    · rcases List.mem_cons.mp h' with e | h'
      · omega
      · have := twN_ge ev r (off + 2) x h'
        omega
    · have := twN_ge ev r (off + 1) x h'
      omega
/-- the items at places that pass -/
def selF {α : Type} (f : Int → Bool) : Int → List α → List α
  | _, [] => []
  | off, x :: xs => if f off = true then x :: selF f (off + 1) xs else selF f (off + 1) xs
theorem selF_app {α : Type} (f : Int → Bool) : ∀ (xs ys : List α) (off : Int), selF f off (xs ++ ys) = selF f off xs ++ selF f (off + xs.length) ys
  | [], ys, off => by
    show selF f off ys = [] ++ selF f (off + ((0 : Nat) : Int)) ys
    rw [Int.natCast_zero, Int.add_zero]
    rfl
  | x :: xs, ys, off => by
    show (if f off = true then x :: selF f (off + 1) (xs ++ ys) else selF f (off + 1) (xs ++ ys)) = (if f off = true then _ else _) ++ _
    rw [selF_app f xs ys (off + 1)]
    have e : off + 1 + (xs.length : Int) = off + ((x :: xs).length : Int) := by rw [List.length_cons]; omega
    rw [e]
    split <;> rfl
theorem selF_len {α : Type} (f : Int → Bool) : ∀ (xs : List α) (off : Int), (selF f off xs).length ≤ xs.length
  | [], _ => Nat.le_refl _
  | x :: xs, off => by
    show (if _ then _ else _ : List α).length ≤ _
    have := selF_len f xs (off + 1)
    split
    · rw [List.length_cons, List.length_cons]; omega
    · rw [List.length_cons]; omega
/-- boards one behind another -/
def bdR (evs : List (List Int)) : Int → Int → List Int → List (List Int)
  | _, _, [] => []
  | T, P, k :: r => [T + evT (evs.getD k.toNat []), P + evP (evs.getD k.toNat [])] :: bdR evs (T + evT (evs.getD k.toNat [])) (P + evP (evs.getD k.toNat [])) r
theorem bdR_app (evs : List (List Int)) : ∀ (r q : List Int) (T P : Int), bdR evs T P (r ++ q) = bdR evs T P r ++ bdR evs (T + sumT evs r) (P + sumP evs r) q
  | [], q, T, P => by
    show bdR evs T P q = [] ++ bdR evs (T + 0) (P + 0) q
    rw [Int.add_zero, Int.add_zero]
    rfl
  | k :: r, q, T, P => by
    show _ :: bdR evs _ _ (r ++ q) = _ :: (bdR evs _ _ r ++ _)
    rw [bdR_app evs r q]
    have e1 : T + evT (evs.getD k.toNat []) + sumT evs r = T + sumT evs (k :: r) := by
      show _ = T + (evT (evs.getD k.toNat []) + sumT evs r)
      omega
    have e2 : P + evP (evs.getD k.toNat []) + sumP evs r = P + sumP evs (k :: r) := by
      show _ = P + (evP (evs.getD k.toNat []) + sumP evs r)
      omega
    rw [e1, e2]
theorem boardsTo_bdR (evs : List (List Int)) (run : List Int) : ∀ n, n ≤ run.length → boardsTo evs run n = bdR evs 0 0 (run.take n)
  | 0, _ => rfl
  | n + 1, h => by
    have ih := boardsTo_bdR evs run n (by omega)
    have tk := take_succ (List.getElem?_eq_getElem (show n < run.length by omega))
    unfold boardsTo at ih ⊢
    rw [List.range_succ, List.map_append, ih, tk, bdR_app]
    show _ ++ [[sumT evs (run.take (n + 1)), sumP evs (run.take (n + 1))]] = _
    rw [tk, sumT_app, sumP_app, sumT_one, sumP_one, Int.zero_add, Int.zero_add]
    rfl
theorem boards_all (evs : List (List Int)) (run : List Int) : boardsTo evs run run.length = bdR evs 0 0 run := by
  rw [boardsTo_bdR evs run run.length (Nat.le_refl _), List.take_length]
section
variable {evs : List (List Int)} {ev n b a t p t1 p1 : Int}
theorem par_len : ((parEv evs ev.toNat n b a t p t1 p1).length : Int) = evs.length + 1 := by
  unfold parEv
  rw [List.length_append, List.length_set]
  rfl
theorem par_ev (h0 : 0 ≤ ev) (h1 : ev < (evs.length : Int)) : (parEv evs ev.toNat n b a t p t1 p1).getD ev.toNat [] = [b, n, t1, p1] := by
  unfold parEv
  rw [List.getD_eq_getElem?_getD, List.getElem?_append_left (by rw [List.length_set]; omega), List.getElem?_set_self (by omega)]
  rfl
theorem par_ot {k : Int} (h0 : 0 ≤ k) (h1 : k < (evs.length : Int)) (h2 : 0 ≤ ev) (ne : k ≠ ev) : (parEv evs ev.toNat n b a t p t1 p1).getD k.toNat [] = evs.getD k.toNat [] := by
  unfold parEv
  rw [List.getD_eq_getElem?_getD, List.getD_eq_getElem?_getD, List.getElem?_append_left (by rw [List.length_set]; omega), List.getElem?_set_ne (by omega)]
theorem par_la : (parEv evs ev.toNat n b a t p t1 p1).getD ((evs.length : Int)).toNat [] = [n, a, t - t1, p - p1] := by
  unfold parEv
  rw [List.getD_eq_getElem?_getD, List.getElem?_append_right (by rw [List.length_set]; omega), List.length_set]
  have e : (evs.length : Int).toNat - evs.length = 0 := by omega
  rw [e]
  rfl
theorem par_four (f : ∀ e ∈ evs, Four e) : ∀ e ∈ parEv evs ev.toNat n b a t p t1 p1, Four e := fun e h => by
  rcases List.mem_append.mp h with h | h
  · rcases List.mem_or_eq_of_mem_set h with h | h
    · exact f e h
    · exact ⟨_, _, _, _, h⟩
  · exact ⟨_, _, _, _, List.mem_singleton.mp h⟩
/-- the parted machine's boards, the new ones left out -/
theorem par_boards (h0 : 0 ≤ ev) (h1 : ev < (evs.length : Int)) (he : evs.getD ev.toNat [] = [b, a, t, p]) (f : Int → Bool) : ∀ (run : List Int) (off T P : Int), InEv evs run → (∀ x, off ≤ x → f x = decide (x ∉ twN ev off run)) →
    selF f off (bdR (parEv evs ev.toNat n b a t p t1 p1) T P (twF ev evs.length run)) = bdR evs T P run
  | [], _, _, _, _, _ => rfl
  | k :: r, off, T, P, hin, hf => by
    obtain ⟨k0, k1⟩ := hin k (by simp)
    have hr : InEv evs r := fun y hy => hin y (by simp [hy])
    have ih := fun off T P => par_boards h0 h1 he f r off T P hr
    by_cases c : k = ev
    · subst c
      have e1 : twF k evs.length (k :: r) = k :: (evs.length : Int) :: twF k evs.length r := if_pos rfl
      have e2 : twN k off (k :: r) = off :: twN k (off + 2) r := if_pos rfl
      rw [e2] at hf
      rw [e1]
      have ff : f off = false := by rw [hf off (Int.le_refl _)]; simp
      have ft : f (off + 1) = true := by
        rw [hf (off + 1) (by omega)]
        refine decide_eq_true fun z => ?_
        rcases List.mem_cons.mp z with z | z
        · omega
        · have := twN_ge k r (off + 2) _ z
          omega
      show (if f off = true then _ else if f (off + 1) = true then _ else _) = _
      rw [ff, ft, if_neg (by decide), if_pos rfl, par_ev k0 k1, par_la]
      show [T + t1 + (t - t1), P + p1 + (p - p1)] :: selF f (off + 1 + 1) (bdR _ (T + t1 + (t - t1)) (P + p1 + (p - p1)) _) = [T + evT (evs.getD k.toNat []), P + evP (evs.getD k.toNat [])] :: bdR evs (T + evT (evs.getD k.toNat [])) (P + evP (evs.getD k.toNat [])) r
      rw [he]
      have q1 : T + t1 + (t - t1) = T + t := by omega
      have q2 : P + p1 + (p - p1) = P + p := by omega
      have q3 : off + 1 + 1 = off + 2 := by omega
      rw [q1, q2, q3, ih (off + 2) (T + t) (P + p) fun x hx => by
        rw [hf x (by omega)]
        have ne : x ≠ off := by omega
        simp [ne]]
      rfl
    · have e1 : twF ev evs.length (k :: r) = k :: twF ev evs.length r := if_neg c
      have e2 : twN ev off (k :: r) = twN ev (off + 1) r := if_neg c
      rw [e2] at hf
      rw [e1]
      have ft : f off = true := by
        rw [hf off (Int.le_refl _)]
        refine decide_eq_true fun z => ?_
        have := twN_ge ev r (off + 1) _ z
        omega
      show (if f off = true then _ else _) = _
      rw [ft, if_pos rfl, par_ot k0 k1 h0 c]
      show _ :: selF f (off + 1) (bdR _ _ _ _) = _ :: bdR evs _ _ r
      rw [ih (off + 1) _ _ fun x hx => hf x (by omega)]
theorem par_walk (h0 : 0 ≤ ev) (h1 : ev < (evs.length : Int)) (he : evs.getD ev.toNat [] = [b, a, t, p]) : ∀ (run : List Int) (s : Int), InEv evs run →
    walkTo (parEv evs ev.toNat n b a t p t1 p1) s (twF ev evs.length run) = walkTo evs s run
  | [], _, _ => rfl
  | k :: r, s, hin => by
    obtain ⟨k0, k1⟩ := hin k (by simp)
    have hr : InEv evs r := fun y hy => hin y (by simp [hy])
    have ih := fun s => par_walk h0 h1 he r s hr
    by_cases c : k = ev
    · subst c
      have e1 : twF k evs.length (k :: r) = k :: (evs.length : Int) :: twF k evs.length r := if_pos rfl
      rw [e1]
      show (if 0 ≤ k ∧ k < ((parEv evs k.toNat n b a t p t1 p1).length : Int) ∧ _ then (if 0 ≤ (evs.length : Int) ∧ (evs.length : Int) < ((parEv evs k.toNat n b a t p t1 p1).length : Int) ∧ _ then _ else _) else _) = (if 0 ≤ k ∧ k < (evs.length : Int) ∧ _ then _ else _)
      rw [par_ev k0 k1, par_la, par_len, he]
      show (if 0 ≤ k ∧ k < (evs.length : Int) + 1 ∧ b = s then (if 0 ≤ (evs.length : Int) ∧ (evs.length : Int) < evs.length + 1 ∧ n = n then walkTo _ a _ else none) else none) = (if 0 ≤ k ∧ k < (evs.length : Int) ∧ b = s then walkTo evs a r else none)
      rw [if_pos (⟨by omega, by omega, rfl⟩ : 0 ≤ (evs.length : Int) ∧ (evs.length : Int) < evs.length + 1 ∧ n = n), ih a]
      by_cases cb : b = s
      · rw [if_pos ⟨k0, by omega, cb⟩, if_pos ⟨k0, k1, cb⟩]
      · rw [if_neg fun z => cb z.2.2, if_neg fun z => cb z.2.2]
    · have e1 : twF ev evs.length (k :: r) = k :: twF ev evs.length r := if_neg c
      rw [e1]
      show (if 0 ≤ k ∧ k < ((parEv evs ev.toNat n b a t p t1 p1).length : Int) ∧ _ then walkTo _ _ _ else none) = (if 0 ≤ k ∧ k < (evs.length : Int) ∧ _ then _ else _)
      rw [par_ot k0 k1 h0 c, par_len, ih _]
      by_cases cb : evB (evs.getD k.toNat []) = s
      · rw [if_pos ⟨k0, by omega, cb⟩, if_pos ⟨k0, k1, cb⟩]
      · rw [if_neg fun z => cb z.2.2, if_neg fun z => cb z.2.2]
theorem par_in (h0 : 0 ≤ ev) : ∀ (run : List Int), InEv evs run → InEv (parEv evs ev.toNat n b a t p t1 p1) (twF ev evs.length run)
  | [], _ => fun k h => by cases h
  | k :: r, hin => by
    obtain ⟨k0, k1⟩ := hin k (by simp)
    have ih := par_in h0 r fun y hy => hin y (by simp [hy])
    intro x hx
    rw [par_len]
    have hx' : x ∈ (if k = ev then k :: (evs.length : Int) :: twF ev evs.length r else k :: twF ev evs.length r) := hx
    have ih' : x ∈ twF ev evs.length r → 0 ≤ x ∧ x < (evs.length : Int) + 1 := fun h => by
      have z := ih x h
      rw [par_len] at z
      exact z
    split at hx'
    · rcases List.mem_cons.mp hx' with h | h
      · omega
      · rcases List.mem_cons.mp h with h | h
        · omega
        · exact ih' h
    · rcases List.mem_cons.mp hx' with h | h
      · omega
      · exact ih' h
end

end
end Myk09

namespace Myk09
open PySem L2 My EnT
-- Same from behind
local macro_rules | `(tactic| nest_cls) => `(tactic| first
  | exact Same.refl _
  | assumption
  | (refine Same.back (Same.new (by assumption)) ?_; nest_cls)
  | (refine Same.back (by assumption) ?_; nest_cls)
  | (refine Same.chg ?_ (by first | assumption | exact Free.flip (by assumption) (by nest_cls)); nest_cls))
-- Keep from behind
local macro_rules | `(tactic| mem_news) => `(tactic| first
  | exact Keep.refl _
  | assumption
  | (refine Keep.back (Keep.new (by assumption)) ?_; mem_news)
  | (refine Keep.back (Keep.lst (by assumption)) ?_; mem_news)
  | (refine Keep.back (Keep.lst (by kd_adr)) ?_; mem_news)
  | (refine Keep.back (Keep.of (by assumption)) ?_; mem_news)
  | (refine Keep.back (Keep.ofBut (by assumption) (by kba_ints)) ?_; mem_news)
  | (refine Keep.back (by assumption) ?_; mem_news))
-- the pot
local macro_rules | `(tactic| kba_ints) => `(tactic| first
  | assumption
  | (refine Pt.At.back (Same.new (by assumption)) ?_; kba_ints)
  | (refine Pt.At.back (by assumption) ?_; kba_ints)
  | exact Pt.At.flip (by assumption) (by nest_cls))
-- a fact of a heap, from behind
local macro_rules | `(tactic| kd_adr) => `(tactic| first
  | ((with_reducible show IT _ _ _ _); first
    | assumption
    | exact IT.new2
    | exact IT.new1
    | exact IT.new3
    | exact IT.new4
    | exact IT.flip (by assumption) (by mem_news)
    | exact IT.flip IT.new2 (by mem_news)
    | exact IT.flip IT.new3 (by mem_news)
    | exact IT.flip IT.new1 (by mem_news)
    | exact IT.flip IT.new4 (by mem_news))
  | ((with_reducible show ITs _ _ _ _); first
    | assumption
    | exact ITs.flip (by assumption) (by mem_news))
  | ((with_reducible show SqT _ _ _ _); first
    | assumption
    | exact SqT.lt upd_same
    | exact SqT.lt (by assumption)
    | exact IT.sq (by assumption)
    | exact SqT.flip (by assumption) (by mem_news)
    | exact SqT.flip (SqT.lt (by assumption)) (by mem_news)
    | exact SqT.flip (IT.sq (by assumption)) (by mem_news)
    | exact SqT.flip (SqT.lt upd_same) (by mem_news))
  | ((with_reducible show SqL _ _ _ _); first
    | assumption
    | exact SqL.lt upd_same
    | exact SqL.lt (by assumption)
    | exact SqL.flip (by assumption) (by nest_cls)
    | exact SqL.flip (SqL.lt (by assumption)) (by nest_cls)
    | exact SqL.flip (SqL.lt upd_same) (by nest_cls))
  | ((with_reducible show Parts _ _ _ _ _); first | assumption | exact Parts.flip (by assumption) (by mem_news))
  | ((with_reducible show MachAt _ _ _ _ _ _); first | assumption | exact MachAt.flip (by assumption) (by mem_news))
  | ((with_reducible show ShIs _ _ _ _ _); first | assumption | exact ShIs.flip (by assumption) (by mem_news))
  | ((with_reducible show RunIs _ _ _ _ _); first | assumption | exact RunIs.flip (by assumption) (by mem_news))
  | ((with_reducible show LTs _ _ _ _); first | assumption | exact LTs.flip (by assumption) (by nest_cls))
  | ((with_reducible show Pt.At _ _); kba_ints)
  | ((with_reducible show Same _ _); nest_cls)
  | ((with_reducible show Keep _ _); mem_news)
  | ((with_reducible show (_ : Hp) _ = some _); first
    | assumption
    | exact upd_same
    | exact At.flip (by assumption) (by nest_cls)
    | exact At.flip upd_same (by nest_cls)))
-- a side condition
local macro_rules | `(tactic| leaf_len) => `(tactic| first
  | (with_reducible rfl)
  | (with_reducible assumption)
  | kd_adr
  | omega
  | ((with_reducible show (_ : Nat) ≤ sizeLine); first | (show 1 ≤ sizeLine; decide) | (show 2 ≤ sizeLine; decide) | (show 3 ≤ sizeLine; decide) | (show 4 ≤ sizeLine; decide) | (show 5 ≤ sizeLine; decide) | (show 6 ≤ sizeLine; decide) | (show 7 ≤ sizeLine; decide) | (show 8 ≤ sizeLine; decide) | (show 0 ≤ sizeLine; decide))
  | exact rfl
  | ((with_reducible show _ ∨ _); first | exact Or.inl (by leaf_len) | exact Or.inr (by leaf_len))
  | exact List.cons_ne_nil _ _
  | exact mf_ev _ _
  | exact mf_st _ _
  | exact flat_ints _
  | ((with_reducible show tyV _ _ _ _); exact Or.inl ⟨rfl, _, by kd_adr⟩)
  | ((with_reducible show ClsV _ _); exact ClsV.ty _)
  | ((with_reducible show CDivW _ _); exact CDivW.of (by omega) (by omega))
  | (apply Exists.intro (α := List V); kd_adr)
  | assumption
  | ((with_reducible show small _); unfold small; omega)
  | ((with_reducible show CPow _ _); exact ⟨by decide, by decide, by decide⟩)
  | ((with_reducible show CMul _ _); first | exact CMul.l (by omega) (by omega) | exact CMul.r (by omega) (by omega))
  | ((with_reducible show CMulW _ _); exact CMulW.of (by omega) (by omega))
  | ((with_reducible show TyX _ _ _ _); first | exact TyX.base (.int _) | exact TyX.base (.str _) | exact TyX.base (.bl _) | exact tyT (by kd_adr) | exact TyX.base (.lst (by kd_adr)))
  | ((with_reducible show PySem.W.kitOne _ _ _ = some _); first | exact kit_ty (r := true) (by decide +kernel) | exact kit_ty (r := false) (by decide +kernel))
  | decide)
-- a step
local macro_rules | `(tactic| l_ints) => `(tactic| first
  | (intro (p : Addr) (hp : (_ : Hp) p = none))
  | (intro (H' : Hp) (s : Same _ H'))
  | (intro (p : Addr) (H' : Hp) (s : Same _ H'))
  | (intro (h : IT _ _ _ _))
  | (intro (h : SqT _ _ _ _))
  | (intro (h : (_ : Hp) _ = none))
  | (intro (h : (_ : Hp) _ = some _))
  | ((with_reducible show rCatA _ _ _ _ _); refine catJ (by kd_adr) (by kd_adr) (by leaf_len) ?_)
  | ((with_reducible show rSlA _ _ none (some _) _ _); refine slTake (by kd_adr) (by omega) ?_)
  | with_reducible refine tC_i ?_
  | with_reducible refine tNil_i ?_
  | with_reducible refine tCons_i ?_
  | with_reducible refine tCall_i ?_
  | with_reducible refine tOp_i ?_
  | ((with_reducible refine tVar_i ?_ ?_); · exact rfl)
  | with_reducible refine iteT ?_
  | with_reducible refine iteF ?_
  | (with_reducible refine iteNEq ?_ ?_; · assumption)
  | (with_reducible refine iteNb ?_ ?_; · assumption)
  | (with_reducible refine iteTb ?_ ?_; · assumption)
  | (with_reducible refine iteFb ?_ ?_; · assumption)
  | ((with_reducible refine iteFb ?_ ?_); · exact rfl)
  | ((with_reducible refine iteTb ?_ ?_); · exact rfl)
  | with_reducible refine iteST rfl ?_
  | with_reducible refine iteSF (by decide +kernel) ?_
  | (refine And.intro ?_ ?_; · leaf_len)
  | apply Exists.intro (α := V)
  | apply Exists.intro (α := Int)
  | apply Exists.intro (α := Addr)
  | apply Exists.intro (α := List V)
  | apply Exists.intro (α := Str)
  | apply Exists.intro (α := Nat)
  | apply Exists.intro (α := Bool)
  | apply Exists.intro (α := Value)
  | apply Exists.intro (α := List Int)
  | apply Exists.intro (α := List (List Int))
  | apply Exists.intro (α := List Bool)
  | apply Exists.intro (α := List (Str × V))
  | apply Exists.intro (α := Option (List (Option Int)))
  | apply Exists.intro (α := Option Int)
  | apply Exists.intro (α := Pt)
  | refine Or.inr ⟨_, rfl, ?_⟩
  | apply Or.inl)

section
variable {P : Program} {w : World} {K : PySem.W.Frag} {mg : Str → Option Value} {base : Heap} {A : Ad}
def spTwice (K : PySem.W.Frag) : Sp := fun vs H Q _ => ∃ (v : V) (run : List Int) (ev last : Int), vs = [v, .int ev, .int last] ∧ IT K H v run ∧ run.length ≤ 1000 ∧
  ∀ (x : Addr) (H' : Hp), Same H H' → (∃ f nw : Addr, SqT K H' x [.ref f, .ref nw] ∧ IT K H' (.ref f) (twF ev last run) ∧ H' nw = some (.lst ((twN ev 0 run).map V.int))) → Q (.ref x) H'

theorem sc_law_twice : FnScope ["run", "event", "last", "found", "new", "number"] ["run", "event", "last"] (defScope s_law_twice) := ⟨rfl, rfl, rfl, by decide +kernel, rfl, by decide +kernel, by decide +kernel⟩
theorem ok_law_twice (T : Txt K mg A) : FnOk P w K mg base CX0 1 A.f_law_twice A.d_law_twice ["run", "event", "last"] (spTwice K) := by
  refine T.F_law_twice.ok sc_law_twice (fun vs H Q E h => ?_) (fun cdv A1 outer s H vs Q E hr h => ?_)
  · obtain ⟨v, run, ev, last, rfl, _⟩ := h
    rfl
  · obtain ⟨v, run, ev, last, rfl, hv, hl, k⟩ := h
    obtain ⟨x, rfl, hx⟩ := id hv
    refine ⟨_, (pss_cons (ps_par (i := 3) (j := 4) rfl sc_law_twice.nd rfl rfl (by decide) rfl rfl (pa_cons (pe_lst pa_nil) (pa_cons (pe_lst pa_nil) pa_nil)) (by rfl))
      (pss_cons (ps_for PassesOwn.never rfl (pi_tup (pv 0)) (pg_name (i := 5) sc_law_twice.nd rfl (Or.inl rfl))
        (pss_cons (ps_expr (pe_bm PySem.F.plainAttrs_list PySem.F.slot_list_append PySem.F.type_list_append mt_append (pv 3) (pa_cons (pv 5) pa_nil)))
      (pss_one (ps_if (pt_cmpR op_eq (pv 5) (pv 1) (nomark _)) (pss_cons (ps_expr (pe_bm PySem.F.plainAttrs_list PySem.F.slot_list_append PySem.F.type_list_append mt_append (pv 4) (pa_cons (pe_op op_sub (pe_callB (call_lenK K rfl) (by rfl) T.z_len (by decide +kernel) (pa_cons (pv 3) pa_nil)) pe_int) pa_nil)))
      (pss_one (ps_expr (pe_bm PySem.F.plainAttrs_list PySem.F.slot_list_append PySem.F.type_list_append mt_append (pv 3) (pa_cons (pv 2) pa_nil))))) pss_nil))))
      (pss_one (ps_ret (pe_tup (pa_cons (pe_callTy (call_tupleK K rfl) (by rfl) T.z_tuple (by decide +kernel) (pa_cons (pv 3) pa_nil)) (pa_cons (pv 4) pa_nil))))))), ?_⟩
    refine ⟨Nat.zero_le _, fun F hF => ⟨Nat.zero_le _, fun N hN => ⟨_, _, rfl, ?_⟩⟩⟩
    have nFN : F ≠ N := ne_of_none upd_same hN
    have sF := Same.new (o := .lst []) hF
    have sN := Same.new (o := .lst []) hN
    have hN0 : H N = none := sF.free hN
    refine ⟨_, rfl, x, rfl, ⟨_, SqT.keep (Keep.of (sF.trans sN)) hx⟩, ?_⟩
    refine for_tup (K := K) (a := x) (xs := run.map V.int) (fun i σ H' => Same H H' ∧ ∃ u, σ = [some (.ref x), some (.int ev), some (.int last), some (.ref F), some (.ref N), u] ∧ H' F = some (.lst ((twF ev last (run.take i)).map V.int)) ∧ H' N = some (.lst ((twN ev 0 (run.take i)).map V.int)))
      ⟨sF.trans sN, none, rfl, sN _ _ upd_same, upd_same⟩ (fun i σ H' _ z => SqT.keep (Keep.of z.1) hx) ?_ ?_
    · rintro i y σ H1 hi ⟨s1, u, rfl, hF1, hN1⟩
      obtain ⟨j, hj, rfl⟩ : ∃ j, run[i]? = some j ∧ y = V.int j := by
        rw [List.getElem?_map] at hi
        cases z : run[i]? with
        | none => rw [z] at hi; cases hi
        | some n => rw [z] at hi; exact ⟨n, rfl, (Option.some.inj hi).symm⟩
      have tk := take_succ hj
      have il := (List.getElem?_eq_some_iff.mp hj).1
      have tl : (run.take i).length = i := by rw [List.length_take]; omega
      have lF := twF_len ev last (run.take i)
      have lN := twN_len ev (run.take i) 0
      have z1 : ((twF ev last (run.take i)).map V.int).length < sizeLine := by
        rw [List.length_map]
        exact Nat.lt_of_le_of_lt (show (twF ev last (run.take i)).length ≤ 2000 by omega) (by decide)
      have z2 : ((twF ev last (run.take i)).map V.int ++ [V.int j]).length < sizeLine := by
        rw [List.length_append, List.length_map]
        exact Nat.lt_of_le_of_lt (show (twF ev last (run.take i)).length + 1 ≤ 2001 by omega) (by decide)
      have z3 : ((twN ev 0 (run.take i)).map V.int).length < sizeLine := by
        rw [List.length_map]
        exact Nat.lt_of_le_of_lt (show (twN ev 0 (run.take i)).length ≤ 1000 by omega) (by decide)
      refine ⟨_, rfl, .inl ⟨rfl, _, SqL.lt hF1⟩, _, rfl, F, _, _, rfl, rfl, hF1, z1, ?_⟩
      have s2 := Same.chg (o := .lst ((twF ev last (run.take i)).map V.int ++ [V.int j])) s1 hF
      have hF2 := upd_same (H := H1) (a := F) (o := .lst ((twF ev last (run.take i)).map V.int ++ [V.int j]))
      have hN2 : upd H1 F (.lst ((twF ev last (run.take i)).map V.int ++ [V.int j])) N = some (.lst ((twN ev 0 (run.take i)).map V.int)) := by rw [upd_ne nFN.symm]; exact hN1
      generalize upd H1 F (.lst ((twF ev last (run.take i)).map V.int ++ [V.int j])) = H2 at s2 hF2 hN2 ⊢
      refine ⟨_, rfl, _, rfl, rfl, _, rfl, ?_⟩
      by_cases c : j = ev
      · subst c
        have e : decide (V.int j = V.int j) = true := decide_eq_true rfl
        rw [e]
        refine iteT ⟨_, rfl, .inl ⟨rfl, _, SqL.lt hN2⟩, _, rfl, _, _, rfl, .inl (SqL.lt hF2), _, _, rfl, rfl, N, _, _, rfl, rfl, hN2, z3, ?_⟩
        have hF3 : upd H2 N (.lst ((twN j 0 (run.take i)).map V.int ++ [V.int ((((twF j last (run.take i)).map V.int ++ [V.int j]).length : Int) - 1)])) F = some (.lst ((twF j last (run.take i)).map V.int ++ [V.int j])) := by rw [upd_ne nFN]; exact hF2
        have s3 := Same.chg (o := .lst ((twN j 0 (run.take i)).map V.int ++ [V.int ((((twF j last (run.take i)).map V.int ++ [V.int j]).length : Int) - 1)])) s2 hN0
        have hN3 := upd_same (H := H2) (a := N) (o := .lst ((twN j 0 (run.take i)).map V.int ++ [V.int ((((twF j last (run.take i)).map V.int ++ [V.int j]).length : Int) - 1)]))
        refine ⟨_, rfl, .inl ⟨rfl, _, SqL.lt hF3⟩, _, rfl, F, _, _, rfl, rfl, hF3, z2, ?_⟩
        refine ⟨Same.chg s3 hF, _, rfl, ?_, ?_⟩
        · rw [upd_same, tk, twF_app]
          have e1 : twF j last [j] = [j, last] := if_pos rfl
          rw [e1]
          simp
        · rw [upd_ne nFN.symm, hN3, tk, twN_app]
          have e1 : twN j (0 + ((twF j last (run.take i)).length : Int)) [j] = [0 + ((twF j last (run.take i)).length : Int)] := if_pos rfl
          rw [e1, List.map_append, List.length_append, List.length_map]
          have e2 : ((((twF j last (run.take i)).length + [V.int j].length : Nat) : Int) - 1) = 0 + ((twF j last (run.take i)).length : Int) := by simp
          rw [e2]
          rfl
      · have e : decide (V.int j = V.int ev) = false := decide_eq_false fun z => c (by injection z)
        rw [e]
        refine iteF ⟨s2, _, rfl, ?_, ?_⟩
        · rw [hF2, tk, twF_app]
          have e1 : twF ev last [j] = [j] := if_neg c
          rw [e1, List.map_append]
          rfl
        · rw [hN2, tk, twN_app]
          have e1 : twN ev (0 + ((twF ev last (run.take i)).length : Int)) [j] = [] := if_neg c
          rw [e1, List.append_nil]
    · rintro σ H1 ⟨s1, u, rfl, hF1, hN1⟩
      rw [List.length_map, List.take_length] at hF1 hN1
      refine ⟨_, rfl, F, _, rfl, .inl ⟨SqL.lt hF1, fun q hq => ⟨_, rfl, (by show 2 ≤ sizeLine; decide), fun z hz => ?_⟩⟩⟩
      have s2 := Same.new (o := .tup ((twF ev last run).map V.int)) hq
      have s3 := Same.new (o := .tup [.ref q, .ref N]) hz
      exact k z _ ((s1.trans s2).trans s3) ⟨q, N, SqT.lt upd_same, (IT.new rfl).keep (Keep.of s3), s3 _ _ (s2 _ _ hN1)⟩
end
end Myk09

namespace Myk09
open PySem L2 My EnT
-- Same from behind
local macro_rules | `(tactic| nest_cls) => `(tactic| first
  | exact Same.refl _
  | assumption
  | (refine Same.back (Same.new (by assumption)) ?_; nest_cls)
  | (refine Same.back (by assumption) ?_; nest_cls)
  | (refine Same.chg ?_ (by first | assumption | exact Free.flip (by assumption) (by nest_cls)); nest_cls))
-- Keep from behind
local macro_rules | `(tactic| mem_news) => `(tactic| first
  | exact Keep.refl _
  | assumption
  | (refine Keep.back (Keep.new (by assumption)) ?_; mem_news)
  | (refine Keep.back (Keep.lst (by assumption)) ?_; mem_news)
  | (refine Keep.back (Keep.lst (by kd_adr)) ?_; mem_news)
  | (refine Keep.back (Keep.of (by assumption)) ?_; mem_news)
  | (refine Keep.back (Keep.ofBut (by assumption) (by kba_ints)) ?_; mem_news)
  | (refine Keep.back (by assumption) ?_; mem_news))
-- the pot
local macro_rules | `(tactic| kba_ints) => `(tactic| first
  | assumption
  | (refine Pt.At.back (Same.new (by assumption)) ?_; kba_ints)
  | (refine Pt.At.back (by assumption) ?_; kba_ints)
  | exact Pt.At.flip (by assumption) (by nest_cls))
-- a fact of a heap, from behind
local macro_rules | `(tactic| kd_adr) => `(tactic| first
  | ((with_reducible show IT _ _ _ _); first
    | assumption
    | exact IT.new2
    | exact IT.new1
    | exact IT.new3
    | exact IT.new4
    | exact IT.flip (by assumption) (by mem_news)
    | exact IT.flip IT.new2 (by mem_news)
    | exact IT.flip IT.new3 (by mem_news)
    | exact IT.flip IT.new1 (by mem_news)
    | exact IT.flip IT.new4 (by mem_news))
  | ((with_reducible show ITs _ _ _ _); first
    | assumption
    | exact ITs.flip (by assumption) (by mem_news))
  | ((with_reducible show SqT _ _ _ _); first
    | assumption
    | exact SqT.lt upd_same
    | exact SqT.lt (by assumption)
    | exact IT.sq (by assumption)
    | exact SqT.flip (by assumption) (by mem_news)
    | exact SqT.flip (SqT.lt (by assumption)) (by mem_news)
    | exact SqT.flip (IT.sq (by assumption)) (by mem_news)
    | exact SqT.flip (SqT.lt upd_same) (by mem_news))
  | ((with_reducible show SqL _ _ _ _); first
    | assumption
    | exact SqL.lt upd_same
    | exact SqL.lt (by assumption)
    | exact SqL.flip (by assumption) (by nest_cls)
    | exact SqL.flip (SqL.lt (by assumption)) (by nest_cls)
    | exact SqL.flip (SqL.lt upd_same) (by nest_cls))
  | ((with_reducible show Parts _ _ _ _ _); first | assumption | exact Parts.flip (by assumption) (by mem_news))
  | ((with_reducible show MachAt _ _ _ _ _ _); first | assumption | exact MachAt.flip (by assumption) (by mem_news))
  | ((with_reducible show ShIs _ _ _ _ _); first | assumption | exact ShIs.flip (by assumption) (by mem_news))
  | ((with_reducible show RunIs _ _ _ _ _); first | assumption | exact RunIs.flip (by assumption) (by mem_news))
  | ((with_reducible show LTs _ _ _ _); first | assumption | exact LTs.flip (by assumption) (by nest_cls))
  | ((with_reducible show Pt.At _ _); kba_ints)
  | ((with_reducible show Same _ _); nest_cls)
  | ((with_reducible show Keep _ _); mem_news)
  | ((with_reducible show (_ : Hp) _ = some _); first
    | assumption
    | exact upd_same
    | exact At.flip (by assumption) (by nest_cls)
    | exact At.flip upd_same (by nest_cls)))
-- a side condition
local macro_rules | `(tactic| leaf_len) => `(tactic| first
  | (with_reducible rfl)
  | (with_reducible assumption)
  | kd_adr
  | omega
  | ((with_reducible show (_ : Nat) ≤ sizeLine); first | (show 1 ≤ sizeLine; decide) | (show 2 ≤ sizeLine; decide) | (show 3 ≤ sizeLine; decide) | (show 4 ≤ sizeLine; decide) | (show 5 ≤ sizeLine; decide) | (show 6 ≤ sizeLine; decide) | (show 7 ≤ sizeLine; decide) | (show 8 ≤ sizeLine; decide) | (show 0 ≤ sizeLine; decide))
  | exact rfl
  | ((with_reducible show _ ∨ _); first | exact Or.inl (by leaf_len) | exact Or.inr (by leaf_len))
  | exact List.cons_ne_nil _ _
  | exact mf_ev _ _
  | exact mf_st _ _
  | exact flat_ints _
  | ((with_reducible show tyV _ _ _ _); exact Or.inl ⟨rfl, _, by kd_adr⟩)
  | ((with_reducible show ClsV _ _); exact ClsV.ty _)
  | ((with_reducible show CDivW _ _); exact CDivW.of (by omega) (by omega))
  | (apply Exists.intro (α := List V); kd_adr)
  | assumption
  | ((with_reducible show small _); unfold small; omega)
  | ((with_reducible show CPow _ _); exact ⟨by decide, by decide, by decide⟩)
  | ((with_reducible show CMul _ _); first | exact CMul.l (by omega) (by omega) | exact CMul.r (by omega) (by omega))
  | ((with_reducible show CMulW _ _); exact CMulW.of (by omega) (by omega))
  | ((with_reducible show TyX _ _ _ _); first | exact TyX.base (.int _) | exact TyX.base (.str _) | exact TyX.base (.bl _) | exact tyT (by kd_adr) | exact TyX.base (.lst (by kd_adr)))
  | ((with_reducible show PySem.W.kitOne _ _ _ = some _); first | exact kit_ty (r := true) (by decide +kernel) | exact kit_ty (r := false) (by decide +kernel))
  | decide)
-- a step
local macro_rules | `(tactic| l_ints) => `(tactic| first
  | (intro (p : Addr) (hp : (_ : Hp) p = none))
  | (intro (H' : Hp) (s : Same _ H'))
  | (intro (p : Addr) (H' : Hp) (s : Same _ H'))
  | (intro (h : IT _ _ _ _))
  | (intro (h : SqT _ _ _ _))
  | (intro (h : (_ : Hp) _ = none))
  | (intro (h : (_ : Hp) _ = some _))
  | ((with_reducible show rCatA _ _ _ _ _); refine catJ (by kd_adr) (by kd_adr) (by leaf_len) ?_)
  | ((with_reducible show rSlA _ _ none (some _) _ _); refine slTake (by kd_adr) (by omega) ?_)
  | with_reducible refine tC_i ?_
  | with_reducible refine tNil_i ?_
  | with_reducible refine tCons_i ?_
  | with_reducible refine tCall_i ?_
  | with_reducible refine tOp_i ?_
  | ((with_reducible refine tVar_i ?_ ?_); · exact rfl)
  | with_reducible refine iteT ?_
  | with_reducible refine iteF ?_
  | (with_reducible refine iteNEq ?_ ?_; · assumption)
  | (with_reducible refine iteNb ?_ ?_; · assumption)
  | (with_reducible refine iteTb ?_ ?_; · assumption)
  | (with_reducible refine iteFb ?_ ?_; · assumption)
  | ((with_reducible refine iteFb ?_ ?_); · exact rfl)
  | ((with_reducible refine iteTb ?_ ?_); · exact rfl)
  | with_reducible refine iteST rfl ?_
  | with_reducible refine iteSF (by decide +kernel) ?_
  | (refine And.intro ?_ ?_; · leaf_len)
  | apply Exists.intro (α := V)
  | apply Exists.intro (α := Int)
  | apply Exists.intro (α := Addr)
  | apply Exists.intro (α := List V)
  | apply Exists.intro (α := Str)
  | apply Exists.intro (α := Nat)
  | apply Exists.intro (α := Bool)
  | apply Exists.intro (α := Value)
  | apply Exists.intro (α := List Int)
  | apply Exists.intro (α := List (List Int))
  | apply Exists.intro (α := List Bool)
  | apply Exists.intro (α := List (Str × V))
  | apply Exists.intro (α := Option (List (Option Int)))
  | apply Exists.intro (α := Option Int)
  | apply Exists.intro (α := Pt)
  | refine Or.inr ⟨_, rfl, ?_⟩
  | apply Or.inl)

section
variable {P : Program} {w : World} {K : PySem.W.Frag} {mg : Str → Option Value} {base : Heap} {A : Ad}
/-! ### data compared -/
structure Nice (n : Nat) (x : PyData) : Prop where
  c : x.canLay0 = true
  d : x.depth ≤ n
  r : PyData.eqv x x = true
theorem Nice.all {n : Nat} : ∀ {ds : List PyData}, (∀ d ∈ ds, Nice n d) → PyData.canLayAll0 ds = true ∧ PyData.depthAll ds ≤ n ∧ PyData.eqvAll ds ds = true
  | [], _ => ⟨rfl, Nat.zero_le _, rfl⟩
  | d :: ds, h => by
    obtain ⟨h1, h2, h3⟩ := h d (by simp)
    obtain ⟨i1, i2, i3⟩ := Nice.all (ds := ds) fun e he => h e (by simp [he])
    refine ⟨?_, ?_, ?_⟩
    · rw [PyData.canLayAll0, h1, i1]; rfl
    · rw [PyData.depthAll]; exact Nat.max_le.mpr ⟨h2, i2⟩
    · rw [PyData.eqvAll, h3, i3]; rfl
theorem Nice.tup {n : Nat} {ds : List PyData} (h : ∀ d ∈ ds, Nice n d) : Nice (n + 1) (.tuple ds) := by
  obtain ⟨h1, h2, h3⟩ := Nice.all h
  exact ⟨by rw [PyData.canLay0]; exact h1, by rw [PyData.depth]; omega, by rw [PyData.eqv]; exact h3⟩
theorem Nice.lst {n : Nat} {ds : List PyData} (h : ∀ d ∈ ds, Nice n d) : Nice (n + 1) (.list ds) := by
  obtain ⟨h1, h2, h3⟩ := Nice.all h
  exact ⟨by rw [PyData.canLay0]; exact h1, by rw [PyData.depth]; omega, by rw [PyData.eqv]; exact h3⟩
theorem Nice.int {n : Nat} (i : Int) : Nice n (.int i) := ⟨by rw [PyData.canLay0], by rw [PyData.depth]; omega, by rw [PyData.eqv]; exact beq_self_eq_true i⟩
theorem Nice.shaped {n : Nat} {d : PyData} (h : Nice n d) (hn : n ≤ 64) : SeqAt.shaped d = true := by
  unfold SeqAt.shaped
  rw [h.c, decide_eq_true (Nat.le_trans h.d hn)]
  rfl
def dI (ns : List Int) : PyData := .tuple (ns.map .int)
def dIs (nss : List (List Int)) : PyData := .list (nss.map dI)
theorem nice_dI (ns : List Int) : Nice 1 (dI ns) := Nice.tup fun d hd => by
  obtain ⟨i, _, rfl⟩ := List.mem_map.mp hd
  exact Nice.int i
theorem nice_dIs (nss : List (List Int)) : Nice 2 (dIs nss) := Nice.lst fun d hd => by
  obtain ⟨i, _, rfl⟩ := List.mem_map.mp hd
  exact nice_dI i
theorem dp_ints {K : PySem.W.Frag} {H : Hp} : ∀ ns : List Int, DpAll K H (ns.map V.int) (ns.map .int)
  | [] => .nil
  | n :: ns => .cons (.int n) (dp_ints ns)
theorem IT.dp {K : PySem.W.Frag} {H : Hp} {v : V} {ns : List Int} (h : IT K H v ns) : Dp K H v (dI ns) := by
  obtain ⟨q, rfl, s⟩ := h
  exact .tup s (dp_ints ns)
theorem dp_its {K : PySem.W.Frag} {H : Hp} {xs : List V} {nss : List (List Int)} (h : All2 (IT K H) xs nss) : DpAll K H xs (nss.map dI) := by
  induction h with
  | nil => exact .nil
  | cons r _ ih => exact .cons (IT.dp r) ih
theorem LTs.dp {K : PySem.W.Frag} {H : Hp} {D : Addr} {nss : List (List Int)} (h : LTs K H D nss) : Dp K H (.ref D) (dIs nss) := by
  obtain ⟨xs, h1, h2⟩ := h
  exact .lst (SqL.lt h1) (dp_its h2)
theorem LTs.same {K : PySem.W.Frag} {H H' : Hp} {D : Addr} {nss : List (List Int)} (h : LTs K H D nss) (s : Same H H') : LTs K H' D nss := h.but (But.of (l := []) s) (Keep.of s) (by simp)
/-- the two are alike: x != y -/
theorem neL {K : PySem.W.Frag} {H : Hp} {D E : Addr} {nss : List (List Int)} {Q : VK} (h : LTs K H D nss) (g : LTs K H E nss) (q : Q (.bl false) H) : rNeD K (.ref D) (.ref E) H Q := by
  have n := nice_dIs nss
  refine ⟨_, _, LTs.dp h, LTs.dp g, n.shaped (by decide), n.shaped (by decide), ?_⟩
  rw [n.r]
  exact q
/-! ### comprehensions by a property of each value -/
theorem all2_unit {P : V → Prop} : ∀ {acc : List V} {us : List Unit}, All2 (fun v _ => P v) acc us → ∀ v ∈ acc, P v
  | _, _, .nil, v, h => by cases h
  | _, _, .cons r t, v, h => by
    rcases List.mem_cons.mp h with e | h
    · rw [e]; exact r
    · exact all2_unit t v h
theorem lcPL {K : PySem.W.Frag} {a D : Addr} {xs : List V} {Pr : Hp → V → Prop} {g : TG} {tt : L2.TT} {te : TE} {vs : List Nat} {σ : L2.St} {H1 : Hp} {Qd : Hp → Prop}
    (hS : SqL K H1 a xs) (hD : H1 D = none) (hl : xs.length < sizeLine) (mono : ∀ H H' v, Keep H H' → Pr H v → Pr H' v)
    (hs : ∀ (i : Nat) (x : V) (H : Hp) (Q1 : Hp → Prop) (Q2 : V → Hp → Prop), xs[i]? = some x → Same H1 H → (∀ y H', Same H H' → Pr H' y → Q2 y H') →
      g x (wipe σ vs) H fun σ2 H2 => wipe σ2 vs = wipe σ vs ∧ tt σ2 H2 fun b H3 => if b = true then te σ2 H3 Q2 else Q1 H3)
    (hd : ∀ H acc, Same H1 H → H D = some (.lst acc) → acc.length = xs.length → (∀ v ∈ acc, Pr H v) → Qd H) :
    ∃ W : Nat → Nat → Hp → Prop, (∃ m, W 0 m (upd H1 D (.lst []))) ∧ ∀ i m H, W i m H →
      ((Itl K a).stop i H ∧ Qd H) ∨ ((Itl K a).go i H ∧ ∃ Nx : Hp → Prop, (∀ H', Nx H' → ∃ m', m' < m ∧ W (i + 1) m' H') ∧ ∀ x H', (Itl K a).yld i H x H' → g x (wipe σ vs) H' fun σ2 H2 => wipe σ2 vs = wipe σ vs ∧ tt σ2 H2 fun b H3 =>
        if b = true then te σ2 H3 fun y H4 => ∃ acc, H4 D = some (.lst acc) ∧ acc.length < sizeLine ∧ Nx (upd H4 D (.lst (acc ++ [y]))) else Nx H3) :=
  lcGL (K := K) (a := a) (xs := xs) (bs := List.replicate xs.length ()) (R := fun H v _ => Pr H v) hS hD (by rw [List.length_replicate]; exact hl) (by rw [List.length_replicate]) (fun H H' v _ => mono H H' v)
    (fun i x b H Q1 Q2 hi _ s k => hs i x H Q1 Q2 hi s k) (fun H acc s hA al => hd H acc s hA (by rw [al.len, List.length_replicate]) (all2_unit al))
/-- over a range, where the pot is drawn from -/
theorem lcBR {p : Pt} {D : Addr} {lo : Int} {n : Nat} {Pr : Hp → V → Prop} {g : TG} {tt : L2.TT} {te : TE} {vs : List Nat} {σ : L2.St} {H1 : Hp} {Qd : Hp → Prop}
    (hp : p.At H1) (hD : H1 D = none) (hl : n < sizeLine) (mono : ∀ H H' v, Keep H H' → Pr H v → Pr H' v)
    (hs : ∀ (i : Nat) (H : Hp) (Q1 : Hp → Prop) (Q2 : V → Hp → Prop), i < n → p.At H → But p.l H1 H → (∀ y H', p.At H' → But p.l H H' → Pr H' y → Q2 y H') →
      g (.int (lo + i)) (wipe σ vs) H fun σ2 H2 => wipe σ2 vs = wipe σ vs ∧ tt σ2 H2 fun b H3 => if b = true then te σ2 H3 Q2 else Q1 H3)
    (hd : ∀ H acc, p.At H → But p.l H1 H → H D = some (.lst acc) → acc.length = n → (∀ v ∈ acc, Pr H v) → Qd H) :
    ∃ W : Nat → Nat → Hp → Prop, (∃ m, W 0 m (upd H1 D (.lst []))) ∧ ∀ i m H, W i m H →
      ((Itr lo n).stop i H ∧ Qd H) ∨ ((Itr lo n).go i H ∧ ∃ Nx : Hp → Prop, (∀ H', Nx H' → ∃ m', m' < m ∧ W (i + 1) m' H') ∧ ∀ x H', (Itr lo n).yld i H x H' → g x (wipe σ vs) H' fun σ2 H2 => wipe σ2 vs = wipe σ vs ∧ tt σ2 H2 fun b H3 =>
        if b = true then te σ2 H3 fun y H4 => ∃ acc, H4 D = some (.lst acc) ∧ acc.length < sizeLine ∧ Nx (upd H4 D (.lst (acc ++ [y]))) else Nx H3) := by
  have fD := hp.fresh hD
  refine lc_range (fun i H => p.At H ∧ But p.l H1 H ∧ ∃ acc, H D = some (.lst acc) ∧ acc.length = i ∧ ∀ v ∈ acc, Pr H v) ⟨hp.same (Same.new hD), But.new hD, [], upd_same, rfl, fun _ h => by cases h⟩ ?_ (fun H ⟨h1, h2, acc, h3, h4, h5⟩ => hd H acc h1 h2 h3 h4 h5)
  rintro i H hi ⟨h1, h2, acc, h3, h4, h5⟩
  refine hs i H _ _ hi h1 h2 fun y H' h1' b r => ⟨acc, b _ _ (Pt.out fD) h3, by omega, ?_⟩
  have kp : Keep H' (upd H' D (.lst (acc ++ [y]))) := Keep.lst (b _ _ (Pt.out fD) h3)
  refine ⟨h1'.but (l := [D]) (But.at (by simp)) (by simp; exact fD.1.symm) (by simp; exact fD.2.1.symm) (by simp; exact fD.2.2.symm), (h2.trans b).chg hD, acc ++ [y], upd_same, by rw [List.length_append, h4]; rfl, fun v hv => ?_⟩
  rcases List.mem_append.mp hv with z | z
  · exact mono _ _ _ kp (mono _ _ _ (h1.keep b) (h5 v z))
  · rw [List.mem_singleton.mp z]; exact mono _ _ _ kp r
theorem walk_last {evs : List (List Int)} {run : List Int} {s : Int} {n : Nat} (h : walkTo evs 0 run = some s) (hn : run.length = n + 1) : ∃ k, run[n]? = some k ∧ s = evA (evs.getD k.toNat []) := by
  have hk := List.getElem?_eq_getElem (show n < run.length by omega)
  refine ⟨_, hk, ?_⟩
  have tk := take_succ hk
  rw [List.take_of_length_le (by omega)] at tk
  rw [tk, walkTo_app] at h
  cases z : walkTo evs 0 (run.take n) with
  | none => rw [z] at h; cases h
  | some t =>
    rw [z] at h
    have h' : (if _ then some _ else none) = some s := h
    split at h'
    · exact (Option.some.inj h').symm
    · cases h'

/-- a comprehension over the places of a list, with a test of the place -/
theorem lcSF {β : Type} {D : Addr} {bs : List β} {f : Int → Bool} {R : Hp → V → β → Prop} {g : TG} {tt : L2.TT} {te : TE} {vs : List Nat} {σ : L2.St} {H1 : Hp} {Qd : Hp → Prop}
    (hD : H1 D = none) (hl : bs.length < sizeLine) (mono : ∀ H H' v b, Keep H H' → R H v b → R H' v b)
    (hs : ∀ (i : Nat) (b : β) (H : Hp) (Q1 : Hp → Prop) (Q2 : V → Hp → Prop), bs[i]? = some b → Same H1 H → (f (0 + (i : Int)) = true → ∀ y H', Same H H' → R H' y b → Q2 y H') → (f (0 + (i : Int)) = false → Q1 H) →
      g (.int (0 + (i : Int))) (wipe σ vs) H fun σ2 H2 => wipe σ2 vs = wipe σ vs ∧ tt σ2 H2 fun b H3 => if b = true then te σ2 H3 Q2 else Q1 H3)
    (hd : ∀ H acc, Same H1 H → H D = some (.lst acc) → All2 (R H) acc (selF f 0 bs) → Qd H) :
    ∃ W : Nat → Nat → Hp → Prop, (∃ m, W 0 m (upd H1 D (.lst []))) ∧ ∀ i m H, W i m H →
      ((Itr 0 bs.length).stop i H ∧ Qd H) ∨ ((Itr 0 bs.length).go i H ∧ ∃ Nx : Hp → Prop, (∀ H', Nx H' → ∃ m', m' < m ∧ W (i + 1) m' H') ∧ ∀ x H', (Itr 0 bs.length).yld i H x H' → g x (wipe σ vs) H' fun σ2 H2 => wipe σ2 vs = wipe σ vs ∧ tt σ2 H2 fun b H3 =>
        if b = true then te σ2 H3 fun y H4 => ∃ acc, H4 D = some (.lst acc) ∧ acc.length < sizeLine ∧ Nx (upd H4 D (.lst (acc ++ [y]))) else Nx H3) := by
  refine lc_range (fun i H => Same H1 H ∧ ∃ acc, H D = some (.lst acc) ∧ All2 (R H) acc (selF f 0 (bs.take i))) ⟨Same.new hD, [], upd_same, .nil⟩ ?_ (fun H q => ?_)
  · rintro i H hi ⟨s1, acc, hA, al⟩
    have tk := take_succ (List.getElem?_eq_getElem hi)
    have la := al.len
    have lt := selF_len f (bs.take i) 0
    have ll : (bs.take i).length = i := by rw [List.length_take]; omega
    have ap : selF f 0 (bs.take (i + 1)) = selF f 0 (bs.take i) ++ selF f (0 + (i : Int)) [bs[i]] := by rw [tk, selF_app, ll]
    refine hs i (bs[i]) H _ _ (List.getElem?_eq_getElem hi) s1 (fun c y H' s2 r => ⟨acc, s2 _ _ hA, by omega, Same.chg (s1.trans s2) hD, acc ++ [y], upd_same, ?_⟩) (fun c => ⟨s1, acc, hA, ?_⟩)
    · have e : selF f (0 + (i : Int)) [bs[i]] = [bs[i]] := if_pos c
      rw [ap, e]
      have kp : Keep H' (upd H' D (.lst (acc ++ [y]))) := Keep.lst (s2 _ _ hA)
      exact (al.imp fun v b z => mono _ _ _ _ kp (mono _ _ _ _ (Keep.of s2) z)).snoc (mono _ _ _ _ kp r)
    · have e : selF f (0 + (i : Int)) [bs[i]] = [] := if_neg (by rw [c]; decide)
      rw [ap, e, List.append_nil]
      exact al
  · obtain ⟨s1, acc, hA, al⟩ := q
    rw [List.take_length] at al
    exact hd H acc s1 hA al
def dTs (nss : List (List Int)) : PyData := .tuple (nss.map dI)
theorem nice_dTs (nss : List (List Int)) : Nice 2 (dTs nss) := Nice.tup fun d hd => by
  obtain ⟨i, _, rfl⟩ := List.mem_map.mp hd
  exact nice_dI i
theorem ITs.dp {K : PySem.W.Frag} {H : Hp} {v : V} {nss : List (List Int)} (h : ITs K H v nss) : Dp K H v (dTs nss) := by
  obtain ⟨q, xs, rfl, s, al⟩ := h
  exact .tup s (dp_its al)
/-- the two are alike: x != y -/
theorem neT {K : PySem.W.Frag} {H : Hp} {x y : V} {nss : List (List Int)} {Q : VK} (h : ITs K H x nss) (g : ITs K H y nss) (q : Q (.bl false) H) : rNeD K x y H Q := by
  have n := nice_dTs nss
  refine ⟨_, _, ITs.dp h, ITs.dp g, n.shaped (by decide), n.shaped (by decide), ?_⟩
  rw [n.r]
  exact q
theorem slA {K : PySem.W.Frag} {q : Addr} {nss : List (List Int)} {i : Nat} {z : Int} {H : Hp} {Q : VK} (ez : z = (i : Int)) (h : ITs K H (.ref q) nss) (k : ∀ v H', Same H H' → ITs K H' (.ref v) (nss.take i) → Q (.ref v) H') :
    rSlA K (.ref q) none (some z) H Q := by
  subst ez
  obtain ⟨_, xs, e, hx, al⟩ := h
  cases e
  have lx := al.len
  have cut : cutV xs none (some (i : Int)) = xs.take i := by
    unfold cutV
    rw [HT.sIx_none, HT.sIx_nat, List.drop_zero, Nat.sub_zero]
    by_cases c : i ≤ xs.length
    · rw [Nat.min_eq_left c]
    · rw [Nat.min_eq_right (by omega), List.take_of_length_le (Nat.le_refl _), List.take_of_length_le (by omega)]
  refine ⟨q, _, rfl, hx, fun e => ?_, fun _ p hp => ?_⟩
  · rw [HT.sIx_nat] at e
    have le : xs.length ≤ i := by omega
    refine k q H (Same.refl H) ⟨q, xs, rfl, hx, ?_⟩
    rw [List.take_of_length_le (by omega)]
    exact al
  · rw [cut]
    have s := Same.new (o := .tup (xs.take i)) hp
    exact k p _ s ⟨p, _, rfl, SqT.lt upd_same, (al.take i).imp fun _ _ y => y.keep (Keep.of s)⟩
theorem slB {K : PySem.W.Frag} {q : Addr} {nss : List (List Int)} {i : Nat} {z : Int} {H : Hp} {Q : VK} (ez : z = (i : Int)) (h : ITs K H (.ref q) nss) (k : ∀ v H', Same H H' → ITs K H' (.ref v) (nss.drop i) → Q (.ref v) H') :
    rSlA K (.ref q) (some z) none H Q := by
  subst ez
  obtain ⟨_, xs, e, hx, al⟩ := h
  cases e
  have lx := al.len
  have cut : cutV xs (some (i : Int)) none = xs.drop i := by
    unfold cutV
    rw [HT.sIx_none, HT.sIx_nat]
    by_cases c : i ≤ xs.length
    · rw [Nat.min_eq_left c, List.take_of_length_le (by rw [List.length_drop]; exact Nat.le_refl _)]
    · rw [Nat.min_eq_right (by omega), Nat.sub_self, List.take_zero, List.drop_of_length_le (by omega)]
  refine ⟨q, _, rfl, hx, fun e => ?_, fun _ p hp => ?_⟩
  · rw [HT.sIx_nat] at e
    have le : i = 0 ∨ xs.length = 0 := by omega
    refine k q H (Same.refl H) ⟨q, xs, rfl, hx, ?_⟩
    rcases le with z | z
    · subst z
      exact al
    · have e1 : xs = [] := List.length_eq_zero_iff.mp z
      have e2 : nss = [] := List.length_eq_zero_iff.mp (by omega)
      subst e1 e2
      rw [List.drop_nil]
      exact .nil
  · rw [cut]
    have s := Same.new (o := .tup (xs.drop i)) hp
    exact k p _ s ⟨p, _, rfl, SqT.lt upd_same, (al.drop i).imp fun _ _ y => y.keep (Keep.of s)⟩
theorem catTs {K : PySem.W.Frag} {x y : V} {as bs : List (List Int)} {H : Hp} {Q : VK} (h : ITs K H x as) (g : ITs K H y bs) (la : as.length ≤ 10000) (lb : bs.length ≤ 10000) (k : ∀ v H', Same H H' → ITs K H' (.ref v) (as ++ bs) → Q (.ref v) H') :
    rCatA K x y H Q := by
  obtain ⟨a, xs, rfl, hx, ax⟩ := h
  obtain ⟨b, ys, rfl, hy, ay⟩ := g
  have lx := ax.len
  have ly := ay.len
  refine ⟨a, b, xs, ys, rfl, rfl, hx, hy, Nat.le_trans (show xs.length + ys.length ≤ 20000 by omega) (by decide), fun e => ?_, fun _ e => ?_, fun _ _ p hp => ?_⟩
  · subst e
    have e2 : as = [] := List.length_eq_zero_iff.mp (by rw [← lx]; rfl)
    subst e2
    exact k b H (Same.refl _) ⟨b, ys, rfl, hy, ay⟩
  · subst e
    have e2 : bs = [] := List.length_eq_zero_iff.mp (by rw [← ly]; rfl)
    subst e2
    rw [List.append_nil] at k
    exact k a H (Same.refl _) ⟨a, xs, rfl, hx, ax⟩
  · have s := Same.new (o := .tup (xs ++ ys)) hp
    exact k p _ s ⟨p, _, rfl, SqT.lt upd_same, (ax.app ay).imp fun _ _ y => y.keep (Keep.of s)⟩
theorem inV_ints (x : Int) : ∀ ns : List Int, inV (.int x) (ns.map V.int) = decide (x ∈ ns)
  | [] => by simp [inV]
  | n :: ns => by
    have ih := inV_ints x ns
    unfold inV at ih ⊢
    rw [List.map_cons, List.any_cons, ih]
    show ((n == x) || decide (x ∈ ns)) = decide (x ∈ n :: ns)
    by_cases c : x = n
    · subst c; simp
    · have c' : ¬ n = x := fun z => c z.symm
      simp [c, c']
theorem flat_ints : ∀ ns : List Int, (ns.map V.int).all flatV = true
  | [] => rfl
  | n :: ns => by rw [List.map_cons, List.all_cons, flat_ints ns]; rfl
theorem set_cut {α : Type} {l : List α} {i : Nat} {x y : α} (h : l[i]? = some y) : l.set i x = l.take i ++ [x] ++ l.drop (i + 1) := by
  have hi := (List.getElem?_eq_some_iff.mp h).1
  rw [List.set_eq_take_append_cons_drop, if_pos hi, List.append_assoc]
  rfl

end
end Myk09

namespace Myk09
open PySem L2 My EnT
-- Same from behind
local macro_rules | `(tactic| nest_cls) => `(tactic| first
  | exact Same.refl _
  | assumption
  | (refine Same.back (Same.new (by assumption)) ?_; nest_cls)
  | (refine Same.back (by assumption) ?_; nest_cls)
  | (refine Same.chg ?_ (by first | assumption | exact Free.flip (by assumption) (by nest_cls)); nest_cls))
-- Keep from behind
local macro_rules | `(tactic| mem_news) => `(tactic| first
  | exact Keep.refl _
  | assumption
  | (refine Keep.back (Keep.new (by assumption)) ?_; mem_news)
  | (refine Keep.back (Keep.lst (by assumption)) ?_; mem_news)
  | (refine Keep.back (Keep.lst (by kd_adr)) ?_; mem_news)
  | (refine Keep.back (Keep.of (by assumption)) ?_; mem_news)
  | (refine Keep.back (Keep.ofBut (by assumption) (by kba_ints)) ?_; mem_news)
  | (refine Keep.back (by assumption) ?_; mem_news))
-- the pot
local macro_rules | `(tactic| kba_ints) => `(tactic| first
  | assumption
  | (refine Pt.At.back (Same.new (by assumption)) ?_; kba_ints)
  | (refine Pt.At.back (by assumption) ?_; kba_ints)
  | exact Pt.At.flip (by assumption) (by nest_cls))
-- a fact of a heap, from behind
local macro_rules | `(tactic| kd_adr) => `(tactic| first
  | ((with_reducible show IT _ _ _ _); first
    | assumption
    | exact IT.new2
    | exact IT.new1
    | exact IT.new3
    | exact IT.new4
    | exact IT.flip (by assumption) (by mem_news)
    | exact IT.flip IT.new2 (by mem_news)
    | exact IT.flip IT.new3 (by mem_news)
    | exact IT.flip IT.new1 (by mem_news)
    | exact IT.flip IT.new4 (by mem_news))
  | ((with_reducible show ITs _ _ _ _); first
    | assumption
    | exact ITs.flip (by assumption) (by mem_news))
  | ((with_reducible show SqT _ _ _ _); first
    | assumption
    | exact SqT.lt upd_same
    | exact SqT.lt (by assumption)
    | exact IT.sq (by assumption)
    | exact SqT.flip (by assumption) (by mem_news)
    | exact SqT.flip (SqT.lt (by assumption)) (by mem_news)
    | exact SqT.flip (IT.sq (by assumption)) (by mem_news)
    | exact SqT.flip (SqT.lt upd_same) (by mem_news))
  | ((with_reducible show SqL _ _ _ _); first
    | assumption
    | exact SqL.lt upd_same
    | exact SqL.lt (by assumption)
    | exact SqL.flip (by assumption) (by nest_cls)
    | exact SqL.flip (SqL.lt (by assumption)) (by nest_cls)
    | exact SqL.flip (SqL.lt upd_same) (by nest_cls))
  | ((with_reducible show Parts _ _ _ _ _); first | assumption | exact Parts.flip (by assumption) (by mem_news))
  | ((with_reducible show MachAt _ _ _ _ _ _); first | assumption | exact MachAt.flip (by assumption) (by mem_news))
  | ((with_reducible show ShIs _ _ _ _ _); first | assumption | exact ShIs.flip (by assumption) (by mem_news))
  | ((with_reducible show RunIs _ _ _ _ _); first | assumption | exact RunIs.flip (by assumption) (by mem_news))
  | ((with_reducible show LTs _ _ _ _); first | assumption | exact LTs.flip (by assumption) (by nest_cls))
  | ((with_reducible show Pt.At _ _); kba_ints)
  | ((with_reducible show Same _ _); nest_cls)
  | ((with_reducible show Keep _ _); mem_news)
  | ((with_reducible show (_ : Hp) _ = some _); first
    | assumption
    | exact upd_same
    | exact At.flip (by assumption) (by nest_cls)
    | exact At.flip upd_same (by nest_cls)))
-- a side condition
local macro_rules | `(tactic| leaf_len) => `(tactic| first
  | (with_reducible rfl)
  | (with_reducible assumption)
  | kd_adr
  | omega
  | ((with_reducible show (_ : Nat) ≤ sizeLine); first | (show 1 ≤ sizeLine; decide) | (show 2 ≤ sizeLine; decide) | (show 3 ≤ sizeLine; decide) | (show 4 ≤ sizeLine; decide) | (show 5 ≤ sizeLine; decide) | (show 6 ≤ sizeLine; decide) | (show 7 ≤ sizeLine; decide) | (show 8 ≤ sizeLine; decide) | (show 0 ≤ sizeLine; decide))
  | exact rfl
  | ((with_reducible show _ ∨ _); first | exact Or.inl (by leaf_len) | exact Or.inr (by leaf_len))
  | exact List.cons_ne_nil _ _
  | exact mf_ev _ _
  | exact mf_st _ _
  | exact flat_ints _
  | ((with_reducible show tyV _ _ _ _); exact Or.inl ⟨rfl, _, by kd_adr⟩)
  | ((with_reducible show ClsV _ _); exact ClsV.ty _)
  | ((with_reducible show CDivW _ _); exact CDivW.of (by omega) (by omega))
  | (apply Exists.intro (α := List V); kd_adr)
  | assumption
  | ((with_reducible show small _); unfold small; omega)
  | ((with_reducible show CPow _ _); exact ⟨by decide, by decide, by decide⟩)
  | ((with_reducible show CMul _ _); first | exact CMul.l (by omega) (by omega) | exact CMul.r (by omega) (by omega))
  | ((with_reducible show CMulW _ _); exact CMulW.of (by omega) (by omega))
  | ((with_reducible show TyX _ _ _ _); first | exact TyX.base (.int _) | exact TyX.base (.str _) | exact TyX.base (.bl _) | exact tyT (by kd_adr) | exact TyX.base (.lst (by kd_adr)))
  | ((with_reducible show PySem.W.kitOne _ _ _ = some _); first | exact kit_ty (r := true) (by decide +kernel) | exact kit_ty (r := false) (by decide +kernel))
  | decide)
-- a step
local macro_rules | `(tactic| l_ints) => `(tactic| first
  | (intro (p : Addr) (hp : (_ : Hp) p = none))
  | (intro (H' : Hp) (s : Same _ H'))
  | (intro (p : Addr) (H' : Hp) (s : Same _ H'))
  | (intro (h : IT _ _ _ _))
  | (intro (h : SqT _ _ _ _))
  | (intro (h : (_ : Hp) _ = none))
  | (intro (h : (_ : Hp) _ = some _))
  | ((with_reducible show rCatA _ _ _ _ _); refine catJ (by kd_adr) (by kd_adr) (by leaf_len) ?_)
  | ((with_reducible show rSlA _ _ none (some _) _ _); refine slTake (by kd_adr) (by omega) ?_)
  | with_reducible refine tC_i ?_
  | with_reducible refine tNil_i ?_
  | with_reducible refine tCons_i ?_
  | with_reducible refine tCall_i ?_
  | with_reducible refine tOp_i ?_
  | ((with_reducible refine tVar_i ?_ ?_); · exact rfl)
  | with_reducible refine iteT ?_
  | with_reducible refine iteF ?_
  | (with_reducible refine iteNEq ?_ ?_; · assumption)
  | (with_reducible refine iteNb ?_ ?_; · assumption)
  | (with_reducible refine iteTb ?_ ?_; · assumption)
  | (with_reducible refine iteFb ?_ ?_; · assumption)
  | ((with_reducible refine iteFb ?_ ?_); · exact rfl)
  | ((with_reducible refine iteTb ?_ ?_); · exact rfl)
  | with_reducible refine iteST rfl ?_
  | with_reducible refine iteSF (by decide +kernel) ?_
  | (refine And.intro ?_ ?_; · leaf_len)
  | apply Exists.intro (α := V)
  | apply Exists.intro (α := Int)
  | apply Exists.intro (α := Addr)
  | apply Exists.intro (α := List V)
  | apply Exists.intro (α := Str)
  | apply Exists.intro (α := Nat)
  | apply Exists.intro (α := Bool)
  | apply Exists.intro (α := Value)
  | apply Exists.intro (α := List Int)
  | apply Exists.intro (α := List (List Int))
  | apply Exists.intro (α := List Bool)
  | apply Exists.intro (α := List (Str × V))
  | apply Exists.intro (α := Option (List (Option Int)))
  | apply Exists.intro (α := Option Int)
  | apply Exists.intro (α := Pt)
  | refine Or.inr ⟨_, rfl, ?_⟩
  | apply Or.inl)

section
variable {P : Program} {w : World} {K : PySem.W.Frag} {mg : Str → Option Value} {base : Heap} {A : Ad}
/-- tries turned round -/
def flT (e : List Int) : List Int := [evB e, evA e, 40 - evT e, evP e]
theorem drawnEv.fl {n : Int} {e : List Int} (h : drawnEv n e) : okEv n (flT e) := by
  obtain ⟨b, a, t, p, rfl, h1, h2, h3, h4, h5, h6, h7, h8⟩ := h
  exact ⟨b, a, 40 - t, p, rfl, h1, h2, h3, h4, by omega, by omega, by omega, by omega⟩
theorem evT_le {n : Int} {e : List Int} (h : okEv n e) : evT e ≤ 40 := by
  obtain ⟨b, a, t, p, rfl, _, _, _, _, _, h, _, _⟩ := h
  exact h
/-- the events that may be parted -/
def manyT (evs : List (List Int)) : List Int := ((List.range evs.length).filter fun i => decide (1 < evT (evs.getD i []))).map fun (i : Nat) => 0 + (i : Int)
theorem manyT_in {evs : List (List Int)} {k : Int} (h : k ∈ manyT evs) : 0 ≤ k ∧ k < (evs.length : Int) ∧ 1 < evT (evs.getD k.toNat []) := by
  obtain ⟨i, h1, h2⟩ := List.mem_map.mp h
  obtain ⟨h3, h4⟩ := List.mem_filter.mp h1
  have h3 := List.mem_range.mp h3
  have h4 := of_decide_eq_true h4
  have ek : k.toNat = i := by omega
  rw [ek]
  exact ⟨by omega, by omega, h4⟩
theorem manyT_len (evs : List (List Int)) : (manyT evs).length ≤ evs.length := by
  unfold manyT
  rw [List.length_map]
  have := List.length_filter_le (fun i => decide (1 < evT (evs.getD i []))) (List.range evs.length)
  rw [List.length_range] at this
  exact this
/-- lcFR with its values named -/
theorem lcFRe {D : Addr} {lo : Int} {n : Nat} {g : TG} {tt : L2.TT} {te : TE} {vs : List Nat} {σ : L2.St} {H1 : Hp} {Qd : Hp → Prop} (f : Nat → Bool) (e : Nat → Int) (L : List Int) (eL : ((List.range n).filter f).map e = L) (hD : H1 D = none) (hl : n < sizeLine)
    (hs : ∀ (i : Nat) (H : Hp) (Q1 : Hp → Prop) (Q2 : V → Hp → Prop), i < n → Same H1 H → (f i = true → Q2 (.int (e i)) H) → (f i = false → Q1 H) →
      g (.int (lo + i)) (wipe σ vs) H fun σ2 H2 => wipe σ2 vs = wipe σ vs ∧ tt σ2 H2 fun b H3 => if b = true then te σ2 H3 Q2 else Q1 H3)
    (hd : Qd (upd H1 D (.lst (L.map V.int)))) :
    ∃ W : Nat → Nat → Hp → Prop, (∃ m, W 0 m (upd H1 D (.lst []))) ∧ ∀ i m H, W i m H →
      ((Itr lo n).stop i H ∧ Qd H) ∨ ((Itr lo n).go i H ∧ ∃ Nx : Hp → Prop, (∀ H', Nx H' → ∃ m', m' < m ∧ W (i + 1) m' H') ∧ ∀ x H', (Itr lo n).yld i H x H' → g x (wipe σ vs) H' fun σ2 H2 => wipe σ2 vs = wipe σ vs ∧ tt σ2 H2 fun b H3 =>
        if b = true then te σ2 H3 fun y H4 => ∃ acc, H4 D = some (.lst acc) ∧ acc.length < sizeLine ∧ Nx (upd H4 D (.lst (acc ++ [y]))) else Nx H3) := by
  subst eL
  exact lcFR f e hD hl hs hd

theorem sc_law : FnScope ["script", "pot", "turn", "great", "standings", "events", "before", "after", "tries", "points", "machine", "number", "some", "event", "first", "part", "other", "due", "again", "run", "longer", "new", "shown", "at"] ["script"] (defScope s_law) := ⟨rfl, rfl, rfl, by decide +kernel, rfl, by decide +kernel, by decide +kernel⟩
theorem ok_law (T : Txt K mg A) : FnOk P w K mg base CX0 9 A.f_law A.d_law ["script"] (spLaw K) := by
  refine T.F_law.ok sc_law (fun vs H Q E h => ?_) (fun cdv A1 outer s H vs Q E hr h => ?_)
  · obtain ⟨a, ns, rfl, _⟩ := h
    rfl
  · obtain ⟨a, ns, rfl, hS, hlen, k⟩ := h
    refine ⟨_, (pss_cons (ps_set (i := 1) sc_law.nd rfl (Or.inl rfl) (pe_call (ok_law_pot T) (hr.mono (by decide)) rfl T.m_law_pot T.F_law_pot.kp T.B_law_pot .nil pass0 (pa_cons (pv 0) pa_nil)))
      (pss_cons (ps_for PassesOwn.never rfl (pi_range1 rfl T.z_range (pa_cons pe_int pa_nil)) (pg_name (i := 2) sc_law.nd rfl (Or.inl rfl))
        (pss_cons (ps_set (i := 3) sc_law.nd rfl (Or.inl rfl) (pe_cmpR op_eq (pe_call (ok_law_draw T) (hr.mono (by decide)) rfl T.m_law_draw T.F_law_draw.kp T.B_law_draw .nil pass0 (pa_cons (pv 1) (pa_cons pe_int pa_nil))) pe_int (nomark _)))
      (pss_cons (ps_asg (pe_call (ok_law_parts T) (hr.mono (by decide)) rfl T.m_law_parts T.F_law_parts.kp T.B_law_parts .nil pass0 (pa_cons (pv 1) (pa_cons (pe_ifExp (pt_val (pv 3)) pe_int pe_int) (pa_cons (pe_ifExp (pt_val (pv 3)) pe_int pe_int) pa_nil)))) (pg_tupK K rfl 2 rfl (pgs_cons (pg_name (i := 4) sc_law.nd rfl (Or.inl rfl)) (pgs_cons (pg_name (i := 5) sc_law.nd rfl (Or.inr rfl)) pgs_nil)) rfl rfl))
      (Evl.pss_cut (ps_if (pt_cmpR op_eq (pe_call (ok_law_draw T) (hr.mono (by decide)) rfl T.m_law_draw T.F_law_draw.kp T.B_law_draw .nil pass0 (pa_cons (pv 1) (pa_cons pe_int pa_nil))) pe_int (nomark _)) (pss_one (ps_set (i := 5) sc_law.nd rfl (Or.inr rfl) (pe_callTy (call_tupleK K rfl) (by rfl) T.z_tuple (by decide +kernel) (pa_cons (pe_lc (own := [("before", 6), ("after", 7), ("tries", 8), ("points", 9)]) rfl sc_law.nd (pi_tup (pv 5)) (blkOk_by (N := ["script", "pot", "turn", "great", "standings", "events", "before", "after", "tries", "points", "machine", "number", "some", "event", "first", "part", "other", "due", "again", "run", "longer", "new", "shown", "at"]) (sc := defScope s_law) (by decide +kernel)) (fun _ _ _ _ _ => by exact (pg_tupK K rfl 4 rfl (pgs_cons (pg_name (i := 6) sc_law.nd rfl (Or.inl rfl)) (pgs_cons (pg_name (i := 7) sc_law.nd rfl (Or.inl rfl)) (pgs_cons (pg_name (i := 8) sc_law.nd rfl (Or.inl rfl)) (pgs_cons (pg_name (i := 9) sc_law.nd rfl (Or.inl rfl)) pgs_nil)))) rfl rfl)) (fun _ _ _ _ _ => by exact pts_nil) (fun _ _ _ _ _ => by exact (pe_tup (pa_cons (pv 6) (pa_cons (pv 7) (pa_cons (pe_op op_sub pe_int (pv 8)) (pa_cons (pv 9) pa_nil))))))) pa_nil)))) pss_nil)
      (pss_cons (ps_set (i := 10) sc_law.nd rfl (Or.inl rfl) (pe_make T.mk_Machine (ok_Machine___init__ T) (hr.mono (by decide)) rfl T.m_Machine T.B_Machine___init__ .nil pass0 (pa_cons (pv 4) (pa_cons (pv 5) pa_nil))))
      (pss_cons (ps_setLc (i := 12) (own := [("number", 11)]) rfl sc_law.nd rfl rfl (sw_true rfl rfl rfl (by decide +kernel)) (pi_range1 rfl T.z_range (pa_cons (pe_callB (call_lenK K rfl) (by rfl) T.z_len (by decide +kernel) (pa_cons (pv 5) pa_nil)) pa_nil)) (blkOk_by (N := ["script", "pot", "turn", "great", "standings", "events", "before", "after", "tries", "points", "machine", "number", "some", "event", "first", "part", "other", "due", "again", "run", "longer", "new", "shown", "at"]) (sc := defScope s_law) (by decide +kernel)) (fun _ _ _ _ _ => by exact (pg_name (i := 11) sc_law.nd rfl (Or.inl rfl))) (fun _ _ _ _ _ => by exact (pts_one (pt_cmpR op_gt (pe_ix (ix_tupK K rfl) (pe_ix (ix_tupK K rfl) (pv 5) (pv 11) (fun _ _ => rfl)) pe_int (fun _ _ => rfl)) pe_int (nomark _)))) (fun _ _ _ _ _ => by exact (pv 11)))
      (pss_one (ps_if (pt_cmpR op_gt (pe_callB (call_lenK K rfl) (by rfl) T.z_len (by decide +kernel) (pa_cons (pv 12) pa_nil)) pe_int (nomark _)) (pss_cons (ps_set (i := 13) sc_law.nd rfl (Or.inl rfl) (pe_ix (ix_listK K rfl) (pv 12) (pe_call (ok_law_draw T) (hr.mono (by decide)) rfl T.m_law_draw T.F_law_draw.kp T.B_law_draw .nil pass0 (pa_cons (pv 1) (pa_cons (pe_callB (call_lenK K rfl) (by rfl) T.z_len (by decide +kernel) (pa_cons (pv 12) pa_nil)) pa_nil))) (fun _ _ => rfl)))
      (pss_cons (ps_asg (pe_ix (ix_tupK K rfl) (pv 5) (pv 13) (fun _ _ => rfl)) (pg_tupK K rfl 4 rfl (pgs_cons (pg_name (i := 6) sc_law.nd rfl (Or.inl rfl)) (pgs_cons (pg_name (i := 7) sc_law.nd rfl (Or.inl rfl)) (pgs_cons (pg_name (i := 8) sc_law.nd rfl (Or.inl rfl)) (pgs_cons (pg_name (i := 9) sc_law.nd rfl (Or.inl rfl)) pgs_nil)))) rfl rfl))
      (pss_cons (ps_set (i := 14) sc_law.nd rfl (Or.inl rfl) (pe_op op_add pe_int (pe_call (ok_law_draw T) (hr.mono (by decide)) rfl T.m_law_draw T.F_law_draw.kp T.B_law_draw .nil pass0 (pa_cons (pv 1) (pa_cons (pe_op op_sub (pv 8) pe_int) pa_nil)))))
      (pss_cons (ps_set (i := 15) sc_law.nd rfl (Or.inl rfl) (pe_call (ok_law_any T) (hr.mono (by decide)) rfl T.m_law_any T.F_law_any.kp T.B_law_any .nil pass0 (pa_cons (pv 1) (pa_cons (pe_tup (pa_cons pe_int (pa_cons (pv 9) (pa_cons (pe_un un_neg pe_int) (pa_cons (pe_op op_pow pe_int pe_int) (pa_cons (pe_op op_sub (pe_call (ok_law_draw T) (hr.mono (by decide)) rfl T.m_law_draw T.F_law_draw.kp T.B_law_draw .nil pass0 (pa_cons (pv 1) (pa_cons pe_int pa_nil))) pe_int) pa_nil)))))) pa_nil))))
      (pss_cons (ps_set (i := 16) sc_law.nd rfl (Or.inl rfl) (pe_call (ok_parted T) (hr.mono (by decide)) rfl T.m_parted T.F_parted.kp T.B_parted .nil pass0 (pa_cons (pv 10) (pa_cons (pv 13) (pa_cons (pv 14) (pa_cons (pv 15) pa_nil))))))
      (pss_cons (ps_set (i := 17) sc_law.nd rfl (Or.inl rfl) (pe_op (op_catTK K rfl) (pe_op (op_catTK K rfl) (pe_slice (sl_tupK K rfl) (pv 5) po_none (po_some (pv 13))) (pe_tup (pa_cons (pe_tup (pa_cons (pv 6) (pa_cons (pv 4) (pa_cons (pv 14) (pa_cons (pv 15) pa_nil))))) pa_nil))) (pe_slice (sl_tupK K rfl) (pv 5) (po_some (pe_op op_add (pv 13) pe_int)) po_none)))
      (pss_cons (ps_set (i := 17) sc_law.nd rfl (Or.inl rfl) (pe_op (op_catTK K rfl) (pv 17) (pe_tup (pa_cons (pe_tup (pa_cons (pv 4) (pa_cons (pv 7) (pa_cons (pe_op op_sub (pv 8) (pv 14)) (pa_cons (pe_op op_sub (pv 9) (pv 15)) pa_nil))))) pa_nil))))
      (pss_cons (ps_if (PW.pt (pw_or (pt_not (pt_val (pe_callB (call_isK K rfl) (by rfl) T.z_isinstance (by decide +kernel) (pa_cons (pv 16) (pa_cons (pe_glob (v := .ref A.C_Machine) rfl T.m_Machine rfl) pa_nil))))) (pw_or (pt_cmpR op_ne (pe_fldK K rfl (pv 16) (by rfl)) (pe_op op_add (pv 4) pe_int) (nomark _)) (pw_or1 (pt_cmpR (op_neDK K rfl (hu64 hr)) (pe_fldK K rfl (pv 16) (by rfl)) (pv 17) (nomark _)))))) (pss_one (ps_ret pe_bl)) pss_nil)
      (pss_one (ps_for PassesOwn.never rfl (pi_range1 rfl T.z_range (pa_cons pe_int pa_nil)) (pg_name (i := 18) sc_law.nd rfl (Or.inl rfl))
        (pss_cons (ps_set (i := 19) sc_law.nd rfl (Or.inl rfl) (pe_call (ok_law_walk T) (hr.mono (by decide)) rfl T.m_law_walk T.F_law_walk.kp T.B_law_walk .nil pass0 (pa_cons (pv 1) (pa_cons (pe_tup (pa_cons (pv 4) (pa_cons (pv 5) pa_nil))) (pa_cons pe_int pa_nil)))))
      (pss_cons (ps_asg (pe_call (ok_law_twice T) (hr.mono (by decide)) rfl T.m_law_twice T.F_law_twice.kp T.B_law_twice .nil pass0 (pa_cons (pv 19) (pa_cons (pv 13) (pa_cons (pe_callB (call_lenK K rfl) (by rfl) T.z_len (by decide +kernel) (pa_cons (pv 5) pa_nil)) pa_nil)))) (pg_tupK K rfl 2 rfl (pgs_cons (pg_name (i := 20) sc_law.nd rfl (Or.inl rfl)) (pgs_cons (pg_name (i := 21) sc_law.nd rfl (Or.inr rfl)) pgs_nil)) rfl rfl))
      (pss_cons (ps_if (pt_cmpR op_notBl (pe_call (ok_is_run T) (hr.mono (by decide)) rfl T.m_is_run T.F_is_run.kp T.B_is_run .nil pass0 (pa_cons (pv 16) (pa_cons (pv 20) pa_nil))) pe_bl (by with_unfolding_all rfl)) (pss_one (ps_ret pe_bl)) pss_nil)
      (pss_cons (ps_set (i := 22) sc_law.nd rfl (Or.inr rfl) (pe_call (ok_boards T) (hr.mono (by decide)) rfl T.m_boards T.F_boards.kp T.B_boards .nil pass0 (pa_cons (pv 16) (pa_cons (pv 20) pa_nil))))
      (pss_one (ps_if (pt_cmpR (op_neDK K rfl (hu64 hr)) (pe_lc (own := [("at", 23)]) rfl sc_law.nd (pi_range1 rfl T.z_range (pa_cons (pe_callB (call_lenK K rfl) (by rfl) T.z_len (by decide +kernel) (pa_cons (pv 22) pa_nil)) pa_nil)) (blkOk_by (N := ["script", "pot", "turn", "great", "standings", "events", "before", "after", "tries", "points", "machine", "number", "some", "event", "first", "part", "other", "due", "again", "run", "longer", "new", "shown", "at"]) (sc := defScope s_law) (by decide +kernel)) (fun _ _ _ _ _ => by exact (pg_name (i := 23) sc_law.nd rfl (Or.inl rfl))) (fun _ _ _ _ _ => by exact (pts_one (pt_cmpR (op_notInK K rfl) (pv 23) (pv 21) (by with_unfolding_all rfl)))) (fun _ _ _ _ _ => by exact (pe_ix (ix_listK K rfl) (pv 22) (pv 23) (fun _ _ => rfl)))) (pe_call (ok_boards T) (hr.mono (by decide)) rfl T.m_boards T.F_boards.kp T.B_boards .nil pass0 (pa_cons (pv 10) (pa_cons (pv 19) pa_nil))) (nomark _)) (pss_one (ps_ret pe_bl)) pss_nil)))))))))))))))) pss_nil))))))))
      (pss_one (ps_ret pe_bl)))), ?_⟩
    refine ⟨_, rfl, a, ns, rfl, hS, hlen, fun p H1 hp1 s1 _ => ?_⟩
    refine ⟨4, rfl, by decide, by decide, ?_⟩
    refine for_range (lo := 0) (n := (4 : Int).toNat) (fun i σ H => p.At H ∧ ∃ u2 u3 u4 u5 u6 u7 u8 u9 u10 u12 u13 u14 u15 u16 u17 u18 u19 u20 u21 u22, σ = [some (.ref a), some (.ref p.a), u2, u3, u4, u5, u6, u7, u8, u9, u10, none, u12, u13, u14, u15, u16, u17, u18, u19, u20, u21, u22, none])
      ⟨hp1, none, none, none, none, none, none, none, none, none, none, none, none, none, none, none, none, none, none, none, none, rfl⟩ ?_ (fun σ H _ => k H)
    rintro i σ H2 hi ⟨hp2, u2, u3, u4, u5, u6, u7, u8, u9, u10, u12, u13, u14, u15, u16, u17, u18, u19, u20, u21, u22, rfl⟩
    refine ⟨_, rfl, p, 10, rfl, hp2, by decide, small_of (by decide), fun r H3 r0 r1 hp3 b3 => ⟨rfl, ?_⟩⟩
    generalize decide (V.int r = V.int 0) = great
    refine ⟨_, rfl, ?_⟩
    cases great
    all_goals
      refine ⟨_, rfl, _, rfl, ?_⟩
      first | refine iteT ?_ | refine iteF ?_
      refine ⟨_, rfl, _, rfl, ?_⟩
      first | refine iteT ?_ | refine iteF ?_
      refine ⟨p, _, _, rfl, hp3, by decide, by decide, by decide, by decide, fun v H4 n evs0 hp4 b4 hv n0 n1 l0 l1 all0 => ?_⟩
      obtain ⟨q0, w0, e0, hq0, hw0⟩ := hv
      cases e0
      refine ⟨v, _, rfl, hq0, rfl, _, _, rfl, _, _, rfl, rfl, ?_⟩
      dsimp only
      -- the events, their tries turned round or not
      refine ⟨fun σ' H8 => ∃ (gb : Bool) (w : V) (evs : List (List Int)), σ' = [some (.ref a), some (.ref p.a), some (.int (0 + (i : Int))), some (.bl gb), some (.int n), some w, u6, u7, u8, u9, u10, none, u12, u13, u14, u15, u16, u17, u18, u19, u20, u21, u22, none] ∧ p.At H8 ∧ ITs K H8 w evs ∧ evs.length ≤ 30 ∧ (∀ e ∈ evs, okEv n e), ?_, ?_⟩
      · refine ⟨_, rfl, p, 3, rfl, hp4, by decide, small_of (by decide), fun r2 H5 q1 q2 hp5 b5 => ⟨rfl, _, rfl, ?_⟩⟩
        have hw5 := hw0.keep (hp4.keep b5)
        refine ite2 (fun c => ?_) (fun c => ⟨_, w0, evs0, rfl, hp5, hw5, by omega, fun e he => (all0 e he).ok⟩)
        obtain ⟨x, xs, rfl, hx, al⟩ := hw5
        refine ⟨_, rfl, x, rfl, ⟨_, hx⟩, fun D hD => ?_⟩
        refine lcGT (K := K) (a := x) (xs := xs) (bs := evs0.map flT) (R := fun H v b => IT K H v b) hx hD (by rw [List.length_map]; exact Nat.lt_of_le_of_lt (show evs0.length ≤ 30 by omega) (by decide)) (by rw [List.length_map]; exact al.len) (fun _ _ _ _ kp z => z.keep kp) ?_ ?_
        · intro j y bb H6 Q1 Q2 hj hb s6 hq
          obtain ⟨e, he, hI⟩ := al.getL hj
          rw [List.getElem?_map, he] at hb
          have hb' : flT e = bb := Option.some.inj hb
          subst hb'
          obtain ⟨b, a', t, q, rfl, _⟩ := all0 e (List.mem_of_getElem? he)
          obtain ⟨z, rfl, hz⟩ := hI.keep (Keep.of s6)
          refine ⟨z, _, rfl, hz, rfl, .int b, _, rfl, .int a', _, rfl, .int t, _, rfl, .int q, _, rfl, rfl, rfl, ?_⟩
          exact ⟨_, rfl, _, rfl, _, rfl, _, _, rfl, rfl, _, rfl, (by show 4 ≤ sizeLine; decide), fun z2 hz2 => hq _ _ (Same.new hz2) (IT.new rfl)⟩
        · intro H6 acc s6 hA al6
          refine ⟨D, acc, rfl, .inl ⟨SqL.lt hA, fun q hq => ?_⟩⟩
          have s7 := Same.new (o := .tup acc) hq
          refine ⟨_, .ref q, evs0.map flT, rfl, (hp5.same s6).same s7, ⟨q, acc, rfl, SqT.lt upd_same, al6.imp fun _ _ z => z.keep (Keep.of s7)⟩, by rw [List.length_map]; omega, fun e he => ?_⟩
          obtain ⟨e0, h0, rfl⟩ := List.mem_map.mp he
          exact (all0 e0 h0).fl
      · rintro σ' H8 ⟨gb, w, evs, rfl, hp8, hw8, le30, oks⟩
        have f4 : ∀ e ∈ evs, Four e := fun e he => (oks e he).four
        refine ⟨_, rfl, _, rfl, fun x dx nx ndx nex => made_ok nx ndx n0 (by omega) hw8 le30 oks fun H9 s9 hM => ?_⟩
        have hp9 := hp8.same s9
        have hw9 := hw8.keep (Keep.of s9)
        refine ⟨_, rfl, lenT hw9 fun ys e => ?_⟩
        rw [e]
        refine ⟨_, rfl, by omega, by omega, fun D hD => ?_⟩
        have en : ((evs.length : Nat) : Int).toNat = evs.length := by omega
        rw [en]
        refine lcFRe (fun i => decide (1 < evT (evs.getD i []))) (fun i => 0 + (i : Int)) (manyT evs) rfl hD (Nat.lt_of_le_of_lt le30 (by decide)) (fun j H2 Q1 Q2 hj s2 h1 h2 => ⟨rfl, ?_⟩) ?_
        · obtain ⟨b, a', t, q, e1, e2⟩ := ev_at (k := 0 + (j : Int)) f4 (by omega) (by omega)
          refine ⟨_, rfl, _, rfl, ixT (hw9.keep (Keep.of s2)) (by omega) e1 fun z hz => ixI hz (by decide) rfl ⟨_, _, rfl, rfl, _, rfl, ?_⟩⟩
          have ej : (0 + (j : Int)).toNat = j := by omega
          rw [ej] at e2
          have eb : evT (evs.getD j []) = t := by rw [e2]; rfl
          rw [eb] at h1 h2
          cases c : decide (1 < t) with
          | true => exact iteT ⟨_, rfl, h1 c⟩
          | false => exact iteF (h2 c)
        · have fD : D ∉ p.l := Pt.out (hp9.fresh hD)
          have sD := Same.new (o := .lst ((manyT evs).map V.int)) hD
          have hDs := upd_same (H := H9) (a := D) (o := .lst ((manyT evs).map V.int))
          have hpA := hp9.same sD
          have hwA := hw9.keep (Keep.of sD)
          have hMA := hM.keep (Keep.of sD)
          have lm := manyT_len evs
          generalize upd H9 D (.lst ((manyT evs).map V.int)) = HA at hDs hpA hwA hMA sD ⊢
          refine ⟨_, rfl, D, _, rfl, .inl (SqL.lt hDs), _, _, rfl, rfl, _, rfl, ?_⟩
          refine ite2 (fun c => ?_) (fun c => ⟨hpA, _, _, _, _, _, _, _, _, _, _, _, _, _, _, _, _, _, _, _, _, rfl⟩)
          -- the event that is parted
          have len0 : 0 < (manyT evs).length := by
            have c := of_decide_eq_true c
            rw [List.length_map] at c
            omega
          refine ⟨_, rfl, _, rfl, _, rfl, D, _, rfl, .inl (SqL.lt hDs), p, _, rfl, hpA, ?_, small_of ?_, fun r3 H10 r30 r31 hp10 b10 => ?_⟩
          · rw [List.length_map]; omega
          · rw [List.length_map]; omega
          rw [List.length_map] at r31
          have hr3 : r3.toNat < (manyT evs).length := by omega
          have hD10 := b10 _ _ fD hDs
          have hev := List.getElem?_eq_getElem hr3
          obtain ⟨ev0, ev1, evt⟩ := manyT_in (List.getElem_mem hr3)
          generalize (manyT evs)[r3.toNat] = ev at hev ev0 ev1 evt
          refine ⟨D, _, r3, .int ev, rfl, rfl, SqL.lt hD10, at_ge r30 (by rw [List.getElem?_map, hev]; rfl), ?_⟩
          dsimp only
          have k10 := hpA.keep b10
          have hw10 := hwA.keep k10
          have hM10 := hMA.keep k10
          obtain ⟨b, a', t, q, e1, e2⟩ := ev_at f4 ev0 ev1
          have et : 1 < t := by rw [e2] at evt; exact evt
          have t40 : t ≤ 40 := evT_le (oks _ (List.mem_of_getElem? e1))
          refine ⟨_, rfl, _, rfl, ixT hw10 ev0 e1 fun z hz => ?_⟩
          obtain ⟨ze, rfl, hze⟩ := hz
          refine ⟨ze, _, rfl, hze, rfl, .int b, _, rfl, .int a', _, rfl, .int t, _, rfl, .int q, _, rfl, rfl, ?_⟩
          dsimp only
          refine ⟨_, rfl, _, rfl, _, _, rfl, rfl, p, t - 1, rfl, hp10, by omega, small_of (by omega), fun r4 H11 r40 r41 hp11 b11 => ⟨_, _, rfl, rfl, ?_⟩⟩
          dsimp only
          refine ⟨_, rfl, _, rfl, _, rfl, _, _, rfl, rfl, ⟨by decide, by decide, by decide⟩, _, rfl, p, 9, rfl, hp11, by decide, small_of (by decide), fun r5 H12 r50 r51 hp12 b12 => ⟨_, _, rfl, rfl, (by show 5 ≤ sizeLine; decide), fun z hz => ?_⟩⟩
          have sz := Same.new (o := .tup [.int 0, .int q, .int (-7), .int ((10 : Int) ^ (20 : Int).toNat), .int (r5 - 4)]) hz
          have hI : IT K (upd H12 z (.tup [.int 0, .int q, .int (-7), .int ((10 : Int) ^ (20 : Int).toNat), .int (r5 - 4)])) (.ref z) [0, q, -7, (10 : Int) ^ (20 : Int).toNat, r5 - 4] := IT.new rfl
          refine ⟨p, .ref z, _, rfl, hp12.same sz, hI, (fun y => by cases y), (by show 5 ≤ 1000; decide), fun part H13 _ hp13 b13 => ?_⟩
          have k13 : Keep H10 H13 := (hp10.keep b11).trans ((hp11.keep b12).trans ((Keep.of sz).trans ((hp12.same sz).keep b13)))
          have hw13 := hw10.keep k13
          have hM13 := hM10.keep k13
          -- the parted machine
          refine ⟨_, rfl, _, rfl, _, rfl, _, rfl, .ref x, ev, 1 + r4, part, n, evs, b, a', t, q, rfl, hM13, ev0, ev1, e1, by omega, by omega, by omega, fun xo H14 s14 hMo => ?_⟩
          have hp14 := hp13.same s14
          have hw14 := hw13.keep (Keep.of s14)
          have hM14 := hM13.keep (Keep.of s14)
          obtain ⟨wq, xs, rfl, hxs, alw⟩ := id hw14
          -- what is due
          refine ⟨_, rfl, _, rfl, _, rfl, ?_⟩
          refine slA (i := ev.toNat) (by omega) hw14 fun v1 H15 s15 d1 => ?_
          refine ⟨_, rfl, _, rfl, _, rfl, _, rfl, (by show 4 ≤ sizeLine; decide), fun z1 hz1 => ⟨(by show 1 ≤ sizeLine; decide), fun z2 hz2 => ?_⟩⟩
          have s16 := Same.new (o := .tup [.int b, .int n, .int (1 + r4), .int part]) hz1
          have s17 := Same.new (o := .tup [.ref z1]) hz2
          have d1 := d1.keep (Keep.of (s16.trans s17))
          have o1 : ITs K (upd (upd H15 z1 (.tup [.int b, .int n, .int (1 + r4), .int part])) z2 (.tup [.ref z1])) (.ref z2) [[b, n, 1 + r4, part]] := ⟨z2, _, rfl, SqT.lt upd_same, .cons ((IT.new (K := K) (H := H15) (p := z1) (xs := [.int b, .int n, .int (1 + r4), .int part]) (ns := [b, n, 1 + r4, part]) rfl).keep (Keep.of s17)) .nil⟩
          have ltk : (evs.take ev.toNat).length ≤ 30 := by rw [List.length_take]; omega
          have ldr : (evs.drop (ev.toNat + 1)).length ≤ 30 := by rw [List.length_drop]; omega
          refine catTs d1 o1 (by omega) (by show 1 ≤ 10000; decide) fun v2 H18 s18 d2 => ?_
          have s18 := (s15.trans (s16.trans s17)).trans s18
          refine ⟨_, rfl, _, rfl, _, _, rfl, rfl, _, rfl, ?_⟩
          dsimp only [tNoPart]
          refine slB (z := ev + 1) (i := ev.toNat + 1) (by omega) (hw14.keep (Keep.of s18)) fun v3 H19 s19 d3 => ?_
          refine catTs (d2.keep (Keep.of s19)) d3 (by rw [List.length_append]; show (evs.take ev.toNat).length + 1 ≤ 10000; omega) (by omega) fun v4 H20 s20 d4 => ?_
          have s20 := s18.trans (s19.trans s20)
          refine ⟨_, rfl, _, rfl, _, rfl, _, rfl, _, rfl, _, _, rfl, rfl, _, rfl, _, rfl, _, _, rfl, rfl, (by show 4 ≤ sizeLine; decide), fun z3 hz3 => ⟨(by show 1 ≤ sizeLine; decide), fun z4 hz4 => ?_⟩⟩
          have s21 := Same.new (o := .tup [.int n, .int a', .int (t - (1 + r4)), .int (q - part)]) hz3
          have s22 := Same.new (o := .tup [.ref z3]) hz4
          have o2 : ITs K (upd (upd H20 z3 (.tup [.int n, .int a', .int (t - (1 + r4)), .int (q - part)])) z4 (.tup [.ref z3])) (.ref z4) [[n, a', t - (1 + r4), q - part]] := ⟨z4, _, rfl, SqT.lt upd_same, .cons ((IT.new (K := K) (H := H20) (p := z3) (xs := [.int n, .int a', .int (t - (1 + r4)), .int (q - part)]) (ns := [n, a', t - (1 + r4), q - part]) rfl).keep (Keep.of s22)) .nil⟩
          refine catTs (d4.keep (Keep.of (s21.trans s22))) o2 (by rw [List.length_append, List.length_append]; show (evs.take ev.toNat).length + 1 + _ ≤ 10000; omega) (by show 1 ≤ 10000; decide) fun v5 H23 s23 d5 => ?_
          have s23 := s20.trans ((s21.trans s22).trans s23)
          have ed : evs.take ev.toNat ++ [[b, n, 1 + r4, part]] ++ evs.drop (ev.toNat + 1) ++ [[n, a', t - (1 + r4), q - part]] = parEv evs ev.toNat n b a' t q (1 + r4) part := by
            unfold parEv
            rw [set_cut e1]
          rw [ed] at d5
          have hp := hp14.same s23
          have hw := hw14.keep (Keep.of s23)
          have hM := hM14.keep (Keep.of s23)
          have hMo := hMo.keep (Keep.of s23)
          clear ed o2 d4 d3 d2 o1 d1 s20 s18 s19 s15 s16 s17 s21 s22 s23 hxs alw
          refine ⟨_, rfl, T.is_Machine.is hMo ⟨true, rfl, iteF ?_⟩⟩
          refine ⟨_, rfl, fldS hMo T.cl_Machine T.n_standings ⟨_, rfl, _, _, rfl, rfl, rfl, _, rfl, iteNS rfl ?_⟩⟩
          refine ⟨_, rfl, fldE hMo T.cl_Machine T.n_events fun wo hwo => ⟨_, rfl, neT hwo d5 ⟨_, rfl, iteF ?_⟩⟩⟩
          clear d5
          -- runs of both
          have f4' : ∀ e ∈ parEv evs ev.toNat n b a' t q (1 + r4) part, Four e := par_four f4
          refine ⟨3, rfl, by decide, by decide, ?_⟩
          refine for_range (lo := 0) (n := (3 : Int).toNat) (fun j σ H' => (p.At H' ∧ But p.l H23 H') ∧ ∃ u18 u19 u20 u21 u22, σ = [some (.ref a), some (.ref p.a), some (.int (0 + (i : Int))), some (.bl gb), some (.int n), some (.ref wq), some (.int b), some (.int a'), some (.int t), some (.int q), some (.ref x), none, some (.ref D), some (.int ev), some (.int (1 + r4)), some (.int part), some (.ref xo), some (.ref v5), u18, u19, u20, u21, u22, none])
            ⟨⟨hp, But.refl _ _⟩, u18, u19, u20, u21, u22, rfl⟩ ?_ ?_
          · rintro j σ H24 hj ⟨⟨hp24, b24⟩, u18, u19, u20, u21, u22, rfl⟩
            have k24 := hp.keep b24
            have hw24 := hw.keep k24
            have hM24 := hM.keep k24
            have hMo24 := hMo.keep k24
            refine ⟨_, rfl, _, rfl, _, rfl, (by show 2 ≤ sizeLine; decide), fun z hz => ?_⟩
            have sz := Same.new (o := .tup [.int n, .ref wq]) hz
            refine ⟨p, .ref z, 8, n, evs, rfl, hp24.same sz, ⟨z, _, rfl, SqT.lt upd_same, hw24.keep (Keep.of sz)⟩, f4, by omega, by decide, by decide, fun rq H25 run hp25 b25 hrun hw2 hin hl => ?_⟩
            have k25 := (Keep.of sz).trans ((hp24.same sz).keep b25)
            have b25 := (b24.trans (But.of sz)).trans b25
            refine ⟨_, rfl, _, rfl, _, rfl, lenT (hw24.keep k25) fun ys e => ?_⟩
            rw [e]
            refine ⟨.ref rq, run, ev, evs.length, rfl, hrun, by omega, fun x2 H26 s26 hh => ?_⟩
            obtain ⟨f, nw, hx2, hf, hnw⟩ := hh
            have hMo26 := (hMo24.keep k25).keep (Keep.of s26)
            refine ⟨x2, _, rfl, hx2, rfl, _, _, rfl, _, _, rfl, rfl, ?_⟩
            dsimp only
            have hwk : (walkTo (parEv evs ev.toNat n b a' t q (1 + r4) part) 0 (twF ev evs.length run)).isSome = true := by rw [par_walk ev0 ev1 e2 run 0 hin, hw2]
            have lf := twF_len ev evs.length run
            refine ⟨_, rfl, _, rfl, .ref xo, .ref f, n + 1, _, _, rfl, hMo26, f4', hf, ?_⟩
            rw [hwk]
            refine ⟨true, true, rfl, rfl, _, rfl, iteF ?_⟩
            refine ⟨_, rfl, _, rfl, .ref xo, .ref f, n + 1, _, _, rfl, hMo26, f4', hf, hwk, par_in ev0 run hin, by omega, fun D2 H27 s27 hD2 L2 => ?_⟩
            have es : selF (fun z => decide (z ∉ twN ev 0 run)) 0 (boardsTo (parEv evs ev.toNat n b a' t q (1 + r4) part) (twF ev evs.length run) (twF ev evs.length run).length) = boardsTo evs run run.length := by
              rw [boards_all, boards_all]
              exact par_boards ev0 ev1 e2 _ run 0 0 0 hin (fun x _ => rfl)
            have lb : (boardsTo (parEv evs ev.toNat n b a' t q (1 + r4) part) (twF ev evs.length run) (twF ev evs.length run).length).length ≤ 100 := by
              unfold boardsTo
              rw [List.length_map, List.length_range]
              omega
            generalize boardsTo (parEv evs ev.toNat n b a' t q (1 + r4) part) (twF ev evs.length run) (twF ev evs.length run).length = bds at L2 es lb
            obtain ⟨xs2, hx2, al2⟩ := L2
            have l2 := al2.len
            have hnw := s27 _ _ hnw
            refine ⟨_, rfl, D2, xs2, rfl, .inl (SqL.lt hx2), _, rfl, by omega, by omega, fun D3 hD3 => ?_⟩
            have en : ((xs2.length : Nat) : Int).toNat = bds.length := by omega
            rw [en]
            refine lcSF (bs := bds) (f := fun z => decide (z ∉ twN ev 0 run)) (R := fun H v b => IT K H v b) hD3 (Nat.lt_of_le_of_lt lb (by decide)) (fun _ _ _ _ kp z => z.keep kp) ?_ ?_
            · intro j2 bb H28 Q1 Q2 hb s28 h1 h2
              obtain ⟨y, hy, hI⟩ := al2.get hb
              refine ⟨rfl, ?_⟩
              refine ⟨_, rfl, _, rfl, nw, _, rfl, .inl (SqL.lt (s28 _ _ hnw)), rfl, flat_ints _, _, rfl, ?_⟩
              cases c : decide ((0 + (j2 : Int)) ∈ twN ev 0 run) with
              | true =>
                have e : inV (.int (0 + (j2 : Int))) ((twN ev 0 run).map V.int) = true := (inV_ints _ _).trans c
                rw [e]
                exact iteF (h2 (decide_eq_false fun z => z (of_decide_eq_true c)))
              | false =>
                have e : inV (.int (0 + (j2 : Int))) ((twN ev 0 run).map V.int) = false := (inV_ints _ _).trans c
                rw [e]
                have := of_decide_eq_false c
                exact iteT ⟨_, rfl, _, rfl, D2, xs2, _, y, rfl, rfl, SqL.lt (s28 _ _ hx2), at_ge (by omega) (by rw [show (0 + (j2 : Int)).toNat = j2 by omega]; exact hy), h1 (decide_eq_true this) y _ (Same.refl _) (hI.keep (Keep.of s28))⟩
            · intro H29 acc s29 hA al
              have L3 : LTs K H29 D3 (boardsTo evs run run.length) := ⟨acc, hA, by rw [← es]; exact al⟩
              have s29 := s26.trans (s27.trans s29)
              refine ⟨_, rfl, _, rfl, .ref x, .ref rq, n, evs, run, rfl, (hM24.keep k25).keep (Keep.of s29), f4, hrun.keep (Keep.of s29), hw2, hin, by omega, fun D4 H30 s30 hD4 L4 => neL (L3.same s30) L4 ⟨_, rfl, iteF ?_⟩⟩
              exact ⟨⟨(hp25.same s29).same s30, b25.trans (But.of (s29.trans s30))⟩, _, _, _, _, _, rfl⟩
          · rintro σ H24 ⟨⟨hp24, b24⟩, u18, u19, u20, u21, u22, rfl⟩
            exact ⟨hp24, _, _, _, _, _, _, _, _, _, _, _, _, _, _, _, _, _, _, _, _, rfl⟩
end
end Myk09

namespace Myk09
open PySem L2 My EnT
theorem all_mk {l : PySem.W.OpenLaw} {w : World} {K : PySem.W.Frag} {h : Heap} {mg : Str → Option Value} {fa : Addr} (X : K.In h) (G : h.Ns mainGlobals mg) (hfa : mg "law" = some (.ref fa))
    {f1 f2 f3 f4 f5 f6 f7 f8 f9 f10 f11 f12 f13 f14 f15 f16 f17 f18 C_Machine : Addr} {od1 an1 od2 an2 od3 an3 od4 an4 od5 an5 od6 an6 od7 an7 od8 an8 od9 an9 od10 an10 od11 an11 od12 an12 od13 an13 od14 an14 od15 an15 od16 an16 od17 an17 od18 an18 : Option Addr} {sl1 sl2 sl3 sl4 sl5 sl6 sl7 sl8 sl9 sl10 sl11 sl12 sl13 sl14 sl15 sl16 sl17 sl18 : Array (Option Value)}
    {oc1 kV1 dc1 pm1 cd1 ct1 oc2 kV2 dc2 pm2 cd2 ct2 oc3 kV3 dc3 pm3 cd3 ct3 oc4 kV4 dc4 pm4 cd4 ct4 oc5 kV5 dc5 pm5 cd5 ct5 oc6 kV6 dc6 pm6 cd6 ct6 oc7 kV7 dc7 pm7 cd7 ct7 oc8 kV8 dc8 pm8 cd8 ct8 oc9 kV9 dc9 pm9 cd9 ct9 oc10 kV10 dc10 pm10 cd10 ct10 oc11 kV11 dc11 pm11 cd11 ct11 oc12 kV12 dc12 pm12 cd12 ct12 oc13 kV13 dc13 pm13 cd13 ct13 oc14 kV14 dc14 pm14 cd14 ct14 oc15 kV15 dc15 pm15 cd15 ct15 oc16 kV16 dc16 pm16 cd16 ct16 oc17 kV17 dc17 pm17 cd17 ct17 oc18 kV18 dc18 pm18 cd18 ct18 : Value} {t_MOST_EVENTS t_MOST_POINTS t_MOST_STANDINGS t_MOST_TRIES : Tok}
    (aC_Machine : PySem.W.nsIn K mainGlobals "Machine" = some (some (.ref C_Machine)))
    (a1 : PySem.W.nsIn K mainGlobals "is_whole" = some (some (.ref f1)))
    (l1 : K.lookup f1 = some ⟨oc1, od1, .func (PySem.W.fnOf "is_whole" "is_whole" (defArgs s_is_whole) (defBody s_is_whole) (defScope s_is_whole) .none kV1 dc1 pm1 an1 cd1 ct1), sl1⟩)
    (c1 : PySem.W.codeIn K cd1 "is_whole" = true) (k1 : PySem.W.keepIn K (.ref f1) = true)
    (a2 : PySem.W.nsIn K mainGlobals "_law_pot" = some (some (.ref f2)))
    (l2 : K.lookup f2 = some ⟨oc2, od2, .func (PySem.W.fnOf "_law_pot" "_law_pot" (defArgs s_law_pot) (defBody s_law_pot) (defScope s_law_pot) .none kV2 dc2 pm2 an2 cd2 ct2), sl2⟩)
    (c2 : PySem.W.codeIn K cd2 "_law_pot" = true) (k2 : PySem.W.keepIn K (.ref f2) = true)
    (a3 : PySem.W.nsIn K mainGlobals "_law_draw" = some (some (.ref f3)))
    (l3 : K.lookup f3 = some ⟨oc3, od3, .func (PySem.W.fnOf "_law_draw" "_law_draw" (defArgs s_law_draw) (defBody s_law_draw) (defScope s_law_draw) .none kV3 dc3 pm3 an3 cd3 ct3), sl3⟩)
    (c3 : PySem.W.codeIn K cd3 "_law_draw" = true) (k3 : PySem.W.keepIn K (.ref f3) = true)
    (a4 : PySem.W.nsIn K mainGlobals "_law_out" = some (some (.ref f4)))
    (l4 : K.lookup f4 = some ⟨oc4, od4, .func (PySem.W.fnOf "_law_out" "_law_out" (defArgs s_law_out) (defBody s_law_out) (defScope s_law_out) .none kV4 dc4 pm4 an4 cd4 ct4), sl4⟩)
    (c4 : PySem.W.codeIn K cd4 "_law_out" = true) (k4 : PySem.W.keepIn K (.ref f4) = true)
    (a5 : PySem.W.nsIn K mainGlobals "_law_twice" = some (some (.ref f5)))
    (l5 : K.lookup f5 = some ⟨oc5, od5, .func (PySem.W.fnOf "_law_twice" "_law_twice" (defArgs s_law_twice) (defBody s_law_twice) (defScope s_law_twice) .none kV5 dc5 pm5 an5 cd5 ct5), sl5⟩)
    (c5 : PySem.W.codeIn K cd5 "_law_twice" = true) (k5 : PySem.W.keepIn K (.ref f5) = true)
    (a6 : PySem.W.nsIn K mainGlobals "is_between" = some (some (.ref f6)))
    (l6 : K.lookup f6 = some ⟨oc6, od6, .func (PySem.W.fnOf "is_between" "is_between" (defArgs s_is_between) (defBody s_is_between) (defScope s_is_between) .none kV6 dc6 pm6 an6 cd6 ct6), sl6⟩)
    (c6 : PySem.W.codeIn K cd6 "is_between" = true) (k6 : PySem.W.keepIn K (.ref f6) = true)
    (a7 : PySem.W.nsIn K mainGlobals "_law_any" = some (some (.ref f7)))
    (l7 : K.lookup f7 = some ⟨oc7, od7, .func (PySem.W.fnOf "_law_any" "_law_any" (defArgs s_law_any) (defBody s_law_any) (defScope s_law_any) .none kV7 dc7 pm7 an7 cd7 ct7), sl7⟩)
    (c7 : PySem.W.codeIn K cd7 "_law_any" = true) (k7 : PySem.W.keepIn K (.ref f7) = true)
    (a8 : PySem.W.nsIn K mainGlobals "_law_parts" = some (some (.ref f8)))
    (l8 : K.lookup f8 = some ⟨oc8, od8, .func (PySem.W.fnOf "_law_parts" "_law_parts" (defArgs s_law_parts) (defBody s_law_parts) (defScope s_law_parts) .none kV8 dc8 pm8 an8 cd8 ct8), sl8⟩)
    (c8 : PySem.W.codeIn K cd8 "_law_parts" = true) (k8 : PySem.W.keepIn K (.ref f8) = true)
    (a9 : PySem.W.nsIn K mainGlobals "_law_walk" = some (some (.ref f9)))
    (l9 : K.lookup f9 = some ⟨oc9, od9, .func (PySem.W.fnOf "_law_walk" "_law_walk" (defArgs s_law_walk) (defBody s_law_walk) (defScope s_law_walk) .none kV9 dc9 pm9 an9 cd9 ct9), sl9⟩)
    (c9 : PySem.W.codeIn K cd9 "_law_walk" = true) (k9 : PySem.W.keepIn K (.ref f9) = true)
    (a10 : PySem.W.nsIn K mainGlobals "are_counts" = some (some (.ref f10)))
    (l10 : K.lookup f10 = some ⟨oc10, od10, .func (PySem.W.fnOf "are_counts" "are_counts" (defArgs s_are_counts) (defBody s_are_counts) (defScope s_are_counts) .none kV10 dc10 pm10 an10 cd10 ct10), sl10⟩)
    (c10 : PySem.W.codeIn K cd10 "are_counts" = true) (k10 : PySem.W.keepIn K (.ref f10) = true)
    (a11 : PySem.W.nsIn K mainGlobals "has_event" = some (some (.ref f11)))
    (l11 : K.lookup f11 = some ⟨oc11, od11, .func (PySem.W.fnOf "has_event" "has_event" (defArgs s_has_event) (defBody s_has_event) (defScope s_has_event) .none kV11 dc11 pm11 an11 cd11 ct11), sl11⟩)
    (c11 : PySem.W.codeIn K cd11 "has_event" = true) (k11 : PySem.W.keepIn K (.ref f11) = true)
    (a12 : PySem.W.nsIn K mainGlobals "_is_event" = some (some (.ref f12)))
    (l12 : K.lookup f12 = some ⟨oc12, od12, .func (PySem.W.fnOf "_is_event" "_is_event" (defArgs s_is_event) (defBody s_is_event) (defScope s_is_event) .none kV12 dc12 pm12 an12 cd12 ct12), sl12⟩)
    (c12 : PySem.W.codeIn K cd12 "_is_event" = true) (k12 : PySem.W.keepIn K (.ref f12) = true)
    (a13 : PySem.W.nsIn K mainGlobals "is_run" = some (some (.ref f13)))
    (l13 : K.lookup f13 = some ⟨oc13, od13, .func (PySem.W.fnOf "is_run" "is_run" (defArgs s_is_run) (defBody s_is_run) (defScope s_is_run) .none kV13 dc13 pm13 an13 cd13 ct13), sl13⟩)
    (c13 : PySem.W.codeIn K cd13 "is_run" = true) (k13 : PySem.W.keepIn K (.ref f13) = true)
    (a14 : PySem.W.findIn K (.ref C_Machine) "__init__" = some (some (.ref f14)))
    (i14 : PySem.W.isFn K (.ref f14) = true)
    (l14 : K.lookup f14 = some ⟨oc14, od14, .func (PySem.W.fnOf "__init__" "Machine.__init__" (defArgs s_Machine___init__) (defBody s_Machine___init__) (defScope s_Machine___init__) .none kV14 dc14 pm14 an14 cd14 ct14), sl14⟩)
    (c14 : PySem.W.codeIn K cd14 "Machine.__init__" = true) (k14 : PySem.W.keepIn K (.ref f14) = true)
    (a15 : PySem.W.nsIn K mainGlobals "boards" = some (some (.ref f15)))
    (l15 : K.lookup f15 = some ⟨oc15, od15, .func (PySem.W.fnOf "boards" "boards" (defArgs s_boards) (defBody s_boards) (defScope s_boards) .none kV15 dc15 pm15 an15 cd15 ct15), sl15⟩)
    (c15 : PySem.W.codeIn K cd15 "boards" = true) (k15 : PySem.W.keepIn K (.ref f15) = true)
    (a16 : PySem.W.nsIn K mainGlobals "made" = some (some (.ref f16)))
    (l16 : K.lookup f16 = some ⟨oc16, od16, .func (PySem.W.fnOf "made" "made" (defArgs s_made) (defBody s_made) (defScope s_made) .none kV16 dc16 pm16 an16 cd16 ct16), sl16⟩)
    (c16 : PySem.W.codeIn K cd16 "made" = true) (k16 : PySem.W.keepIn K (.ref f16) = true)
    (a17 : PySem.W.nsIn K mainGlobals "parted" = some (some (.ref f17)))
    (l17 : K.lookup f17 = some ⟨oc17, od17, .func (PySem.W.fnOf "parted" "parted" (defArgs s_parted) (defBody s_parted) (defScope s_parted) .none kV17 dc17 pm17 an17 cd17 ct17), sl17⟩)
    (c17 : PySem.W.codeIn K cd17 "parted" = true) (k17 : PySem.W.keepIn K (.ref f17) = true)
    (a18 : PySem.W.nsIn K mainGlobals "law" = some (some (.ref f18)))
    (l18 : K.lookup f18 = some ⟨oc18, od18, .func (PySem.W.fnOf "law" "law" (defArgs s_law) (defBody s_law) (defScope s_law) .none kV18 dc18 pm18 an18 cd18 ct18), sl18⟩)
    (c18 : PySem.W.codeIn K cd18 "law" = true) (k18 : PySem.W.keepIn K (.ref f18) = true)
    (pg_Machine : PySem.W.plainGet K C_Machine Str.empty = true) (hd_Machine : PySem.W.hasDictIn K C_Machine = true) (po_Machine : PySem.W.plainOver K C_Machine = true) (sa_Machine : PySem.W.findIn K (.ref C_Machine) "__setattr__" = some (some (.builtin "object.__setattr__"))) (mk_Machine : PySem.W.makesIn K C_Machine = true) (kc_Machine : PySem.W.keepIn K (.ref C_Machine) = true)
    (n_events : PySem.W.findIn K (.ref C_Machine) "events" = some none)
    (n_standings : PySem.W.findIn K (.ref C_Machine) "standings" = some none)
    (ia_Machine : PySem.W.findIn K (.ref C_Machine) "__class__" = some (some (.builtin "object.__class__"))) (in_Machine : PySem.W.specialIn K (.builtin "object.__class__") "__get__" = some (some (.builtin "getset_descriptor.__get__"))) (it_Machine : PySem.W.takesIn K (.builtin "object.__class__") = some true) (im_Machine : PySem.W.mroIn K C_Machine (.type "object") = some true)
    (z_abs : PySem.W.nsIn K mainGlobals "abs" = some none)
    (z_bool : PySem.W.nsIn K mainGlobals "bool" = some none)
    (z_enumerate : PySem.W.nsIn K mainGlobals "enumerate" = some none)
    (z_int : PySem.W.nsIn K mainGlobals "int" = some none)
    (z_isinstance : PySem.W.nsIn K mainGlobals "isinstance" = some none)
    (z_len : PySem.W.nsIn K mainGlobals "len" = some none)
    (z_list : PySem.W.nsIn K mainGlobals "list" = some none)
    (z_range : PySem.W.nsIn K mainGlobals "range" = some none)
    (z_sum : PySem.W.nsIn K mainGlobals "sum" = some none)
    (z_tuple : PySem.W.nsIn K mainGlobals "tuple" = some none)
    (v_MOST_EVENTS : PySem.W.nsIn K mainGlobals "MOST_EVENTS" = some (some (.int 30 t_MOST_EVENTS)))
    (v_MOST_POINTS : PySem.W.nsIn K mainGlobals "MOST_POINTS" = some (some (.int 400 t_MOST_POINTS)))
    (v_MOST_STANDINGS : PySem.W.nsIn K mainGlobals "MOST_STANDINGS" = some (some (.int 12 t_MOST_STANDINGS)))
    (v_MOST_TRIES : PySem.W.nsIn K mainGlobals "MOST_TRIES" = some (some (.int 40 t_MOST_TRIES)))
    : ∃ fd : FuncData, (∀ (s : Shared) (v : Value), BindsTo s fd ⟨[v], []⟩ [("script", v)]) ∧ ∀ base : Heap, K.In base → base.Ns mainGlobals mg → FnOk l.prog w K mg base CX0 9 fa fd ["script"] (spLaw K) := by
  have e := hfa.symm.trans (PySem.W.mg_of X G a18)
  cases e
  have F1 := fun_mk (st := s_is_whole) l1 c1 k1
  have b1 := F1.binds (ps := ["thing"]) fun _ _ _ _ _ _ us hl => match us, hl with | [_], _ => rfl
  have F2 := fun_mk (st := s_law_pot) l2 c2 k2
  have b2 := F2.binds (ps := ["script"]) fun _ _ _ _ _ _ us hl => match us, hl with | [_], _ => rfl
  have F3 := fun_mk (st := s_law_draw) l3 c3 k3
  have b3 := F3.binds (ps := ["pot", "many"]) fun _ _ _ _ _ _ us hl => match us, hl with | [_, _], _ => rfl
  have F4 := fun_mk (st := s_law_out) l4 c4 k4
  have b4 := F4.binds (ps := ["parts", "standing"]) fun _ _ _ _ _ _ us hl => match us, hl with | [_, _], _ => rfl
  have F5 := fun_mk (st := s_law_twice) l5 c5 k5
  have b5 := F5.binds (ps := ["run", "event", "last"]) fun _ _ _ _ _ _ us hl => match us, hl with | [_, _, _], _ => rfl
  have F6 := fun_mk (st := s_is_between) l6 c6 k6
  have b6 := F6.binds (ps := ["thing", "low", "high"]) fun _ _ _ _ _ _ us hl => match us, hl with | [_, _, _], _ => rfl
  have F7 := fun_mk (st := s_law_any) l7 c7 k7
  have b7 := F7.binds (ps := ["pot", "items"]) fun _ _ _ _ _ _ us hl => match us, hl with | [_, _], _ => rfl
  have F8 := fun_mk (st := s_law_parts) l8 c8 k8
  have b8 := F8.binds (ps := ["pot", "most_standings", "most_events"]) fun _ _ _ _ _ _ us hl => match us, hl with | [_, _, _], _ => rfl
  have F9 := fun_mk (st := s_law_walk) l9 c9 k9
  have b9 := F9.binds (ps := ["pot", "parts", "many"]) fun _ _ _ _ _ _ us hl => match us, hl with | [_, _, _], _ => rfl
  have F10 := fun_mk (st := s_are_counts) l10 c10 k10
  have b10 := F10.binds (ps := ["tries", "points"]) fun _ _ _ _ _ _ us hl => match us, hl with | [_, _], _ => rfl
  have F11 := fun_mk (st := s_has_event) l11 c11 k11
  have b11 := F11.binds (ps := ["machine", "thing"]) fun _ _ _ _ _ _ us hl => match us, hl with | [_, _], _ => rfl
  have F12 := fun_mk (st := s_is_event) l12 c12 k12
  have b12 := F12.binds (ps := ["thing", "standings"]) fun _ _ _ _ _ _ us hl => match us, hl with | [_, _], _ => rfl
  have F13 := fun_mk (st := s_is_run) l13 c13 k13
  have b13 := F13.binds (ps := ["machine", "thing"]) fun _ _ _ _ _ _ us hl => match us, hl with | [_, _], _ => rfl
  have F14 := fun_mk (st := s_Machine___init__) l14 c14 k14
  have b14 := F14.binds (ps := ["self", "standings", "events"]) fun _ _ _ _ _ _ us hl => match us, hl with | [_, _, _], _ => rfl
  have F15 := fun_mk (st := s_boards) l15 c15 k15
  have b15 := F15.binds (ps := ["machine", "run"]) fun _ _ _ _ _ _ us hl => match us, hl with | [_, _], _ => rfl
  have F16 := fun_mk (st := s_made) l16 c16 k16
  have b16 := F16.binds (ps := ["standings", "events"]) fun _ _ _ _ _ _ us hl => match us, hl with | [_, _], _ => rfl
  have F17 := fun_mk (st := s_parted) l17 c17 k17
  have b17 := F17.binds (ps := ["machine", "event", "tries", "points"]) fun _ _ _ _ _ _ us hl => match us, hl with | [_, _, _, _], _ => rfl
  have F18 := fun_mk (st := s_law) l18 c18 k18
  have b18 := F18.binds (ps := ["script"]) fun _ _ _ _ _ _ us hl => match us, hl with | [_], _ => rfl
  have T : Txt K mg { f_is_whole := f1, d_is_whole := PySem.W.fnOf "is_whole" "is_whole" (defArgs s_is_whole) (defBody s_is_whole) (defScope s_is_whole) .none kV1 dc1 pm1 an1 cd1 ct1, f_law_pot := f2, d_law_pot := PySem.W.fnOf "_law_pot" "_law_pot" (defArgs s_law_pot) (defBody s_law_pot) (defScope s_law_pot) .none kV2 dc2 pm2 an2 cd2 ct2, f_law_draw := f3, d_law_draw := PySem.W.fnOf "_law_draw" "_law_draw" (defArgs s_law_draw) (defBody s_law_draw) (defScope s_law_draw) .none kV3 dc3 pm3 an3 cd3 ct3, f_law_out := f4, d_law_out := PySem.W.fnOf "_law_out" "_law_out" (defArgs s_law_out) (defBody s_law_out) (defScope s_law_out) .none kV4 dc4 pm4 an4 cd4 ct4, f_law_twice := f5, d_law_twice := PySem.W.fnOf "_law_twice" "_law_twice" (defArgs s_law_twice) (defBody s_law_twice) (defScope s_law_twice) .none kV5 dc5 pm5 an5 cd5 ct5, f_is_between := f6, d_is_between := PySem.W.fnOf "is_between" "is_between" (defArgs s_is_between) (defBody s_is_between) (defScope s_is_between) .none kV6 dc6 pm6 an6 cd6 ct6, f_law_any := f7, d_law_any := PySem.W.fnOf "_law_any" "_law_any" (defArgs s_law_any) (defBody s_law_any) (defScope s_law_any) .none kV7 dc7 pm7 an7 cd7 ct7, f_law_parts := f8, d_law_parts := PySem.W.fnOf "_law_parts" "_law_parts" (defArgs s_law_parts) (defBody s_law_parts) (defScope s_law_parts) .none kV8 dc8 pm8 an8 cd8 ct8, f_law_walk := f9, d_law_walk := PySem.W.fnOf "_law_walk" "_law_walk" (defArgs s_law_walk) (defBody s_law_walk) (defScope s_law_walk) .none kV9 dc9 pm9 an9 cd9 ct9, f_are_counts := f10, d_are_counts := PySem.W.fnOf "are_counts" "are_counts" (defArgs s_are_counts) (defBody s_are_counts) (defScope s_are_counts) .none kV10 dc10 pm10 an10 cd10 ct10, f_has_event := f11, d_has_event := PySem.W.fnOf "has_event" "has_event" (defArgs s_has_event) (defBody s_has_event) (defScope s_has_event) .none kV11 dc11 pm11 an11 cd11 ct11, f_is_event := f12, d_is_event := PySem.W.fnOf "_is_event" "_is_event" (defArgs s_is_event) (defBody s_is_event) (defScope s_is_event) .none kV12 dc12 pm12 an12 cd12 ct12, f_is_run := f13, d_is_run := PySem.W.fnOf "is_run" "is_run" (defArgs s_is_run) (defBody s_is_run) (defScope s_is_run) .none kV13 dc13 pm13 an13 cd13 ct13, f_Machine___init__ := f14, d_Machine___init__ := PySem.W.fnOf "__init__" "Machine.__init__" (defArgs s_Machine___init__) (defBody s_Machine___init__) (defScope s_Machine___init__) .none kV14 dc14 pm14 an14 cd14 ct14, f_boards := f15, d_boards := PySem.W.fnOf "boards" "boards" (defArgs s_boards) (defBody s_boards) (defScope s_boards) .none kV15 dc15 pm15 an15 cd15 ct15, f_made := f16, d_made := PySem.W.fnOf "made" "made" (defArgs s_made) (defBody s_made) (defScope s_made) .none kV16 dc16 pm16 an16 cd16 ct16, f_parted := f17, d_parted := PySem.W.fnOf "parted" "parted" (defArgs s_parted) (defBody s_parted) (defScope s_parted) .none kV17 dc17 pm17 an17 cd17 ct17, f_law := fa, d_law := PySem.W.fnOf "law" "law" (defArgs s_law) (defBody s_law) (defScope s_law) .none kV18 dc18 pm18 an18 cd18 ct18, C_Machine := C_Machine, t_MOST_EVENTS := t_MOST_EVENTS, t_MOST_POINTS := t_MOST_POINTS, t_MOST_STANDINGS := t_MOST_STANDINGS, t_MOST_TRIES := t_MOST_TRIES } := {
    F_is_whole := F1, B_is_whole := b1,
    m_is_whole := PySem.W.mg_of X G a1,
    F_law_pot := F2, B_law_pot := b2,
    m_law_pot := PySem.W.mg_of X G a2,
    F_law_draw := F3, B_law_draw := b3,
    m_law_draw := PySem.W.mg_of X G a3,
    F_law_out := F4, B_law_out := b4,
    m_law_out := PySem.W.mg_of X G a4,
    F_law_twice := F5, B_law_twice := b5,
    m_law_twice := PySem.W.mg_of X G a5,
    F_is_between := F6, B_is_between := b6,
    m_is_between := PySem.W.mg_of X G a6,
    F_law_any := F7, B_law_any := b7,
    m_law_any := PySem.W.mg_of X G a7,
    F_law_parts := F8, B_law_parts := b8,
    m_law_parts := PySem.W.mg_of X G a8,
    F_law_walk := F9, B_law_walk := b9,
    m_law_walk := PySem.W.mg_of X G a9,
    F_are_counts := F10, B_are_counts := b10,
    m_are_counts := PySem.W.mg_of X G a10,
    F_has_event := F11, B_has_event := b11,
    m_has_event := PySem.W.mg_of X G a11,
    F_is_event := F12, B_is_event := b12,
    m_is_event := PySem.W.mg_of X G a12,
    F_is_run := F13, B_is_run := b13,
    m_is_run := PySem.W.mg_of X G a13,
    F_Machine___init__ := F14, B_Machine___init__ := b14,
    F_boards := F15, B_boards := b15,
    m_boards := PySem.W.mg_of X G a15,
    F_made := F16, B_made := b16,
    m_made := PySem.W.mg_of X G a16,
    F_parted := F17, B_parted := b17,
    m_parted := PySem.W.mg_of X G a17,
    F_law := F18, B_law := b18,
    m_law := PySem.W.mg_of X G a18,
    m_Machine := PySem.W.mg_of X G aC_Machine,
    cl_Machine := ⟨pg_Machine, hd_Machine, po_Machine, sa_Machine⟩, mk_Machine := ⟨mk_Machine, a14, i14, kc_Machine⟩,
    n_events := n_events,
    n_standings := n_standings,
    is_Machine := ⟨⟨pg_Machine, hd_Machine, po_Machine, sa_Machine⟩, ia_Machine, in_Machine, it_Machine, im_Machine⟩,
    z_abs := PySem.W.mg_none_of X G z_abs,
    z_bool := PySem.W.mg_none_of X G z_bool,
    z_enumerate := PySem.W.mg_none_of X G z_enumerate,
    z_int := PySem.W.mg_none_of X G z_int,
    z_isinstance := PySem.W.mg_none_of X G z_isinstance,
    z_len := PySem.W.mg_none_of X G z_len,
    z_list := PySem.W.mg_none_of X G z_list,
    z_range := PySem.W.mg_none_of X G z_range,
    z_sum := PySem.W.mg_none_of X G z_sum,
    z_tuple := PySem.W.mg_none_of X G z_tuple,
    c_MOST_EVENTS := PySem.W.mg_of X G v_MOST_EVENTS,
    c_MOST_POINTS := PySem.W.mg_of X G v_MOST_POINTS,
    c_MOST_STANDINGS := PySem.W.mg_of X G v_MOST_STANDINGS,
    c_MOST_TRIES := PySem.W.mg_of X G v_MOST_TRIES }
  exact ⟨_, fun s v => .of_eq rfl, fun base _ _ => ok_law T⟩
theorem walk {l : PySem.W.OpenLaw} {q : Program} {loose : List Str} {XP : (Str → Option Value) → Heap → Prop} {YP : World → Heap → Prop} {d : DefRec} {K : Params → PySem.W.Frag} (hn : l.most = some 63) (hdf : d.params.defaults = [])
    (hY : ∀ (w : World) (h : Heap), YP w h → (K w.params).In h)
    (F : ∀ (w : World) (mg : Str → Option Value) (fa : Addr) (h : Heap), (K w.params).In h → h.Ns mainGlobals mg → mg d.name = some (.ref fa) →
      ∃ fd : FuncData, (∀ (s : Shared) (u : Value), BindsTo s fd ⟨[u], []⟩ [("script", u)]) ∧ ∀ base : Heap, (K w.params).In base → base.Ns mainGlobals mg → FnOk l.prog w (K w.params) mg base CX0 9 fa fd ["script"] (spLaw (K w.params))) :
    PySem.W.WalkO q loose XP YP l.row.toRowW d [] (fun f vs => PySem.call f vs) :=
  L2.walk_of (n := 63) (k := 9) (x := "script") (CX := fun _ => CX0) (sp := fun w => spLaw (K w.params)) hn (by decide) hdf ⟨rfl, by decide, by decide⟩ hY F (fun _ _ a ns hl _ hS => ⟨a, ns, rfl, hS, hl, fun _ => rfl⟩) fun _ _ _ _ _ z => z
end Myk09

open PySem PySem.W PyProof.Rows
set_option maxRecDepth 100000 in
set_option maxHeartbeats 0 in
theorem PySem.Challenge.cw_neverleapt_k09_whole_events_parted_holds : PySem.Challenge.rw_neverleapt_k09_whole_events_parted.Holds := by
  w_on; o_law; k_head; (case hw => w_witness2)
  k_fill
  refine Myk09.walk (l := PySem.Challenge.rw_neverleapt_k09_whole_events_parted) rfl rfl (fun w h Y => PySem.W.kIn_of Y) ?F
  case F =>
    intro w mg fa h KX G hmg
    refine' Myk09.all_mk KX G hmg ?aC_Machine ?a1 ?l1 ?c1 ?k1 ?a2 ?l2 ?c2 ?k2 ?a3 ?l3 ?c3 ?k3 ?a4 ?l4 ?c4 ?k4 ?a5 ?l5 ?c5 ?k5 ?a6 ?l6 ?c6 ?k6 ?a7 ?l7 ?c7 ?k7 ?a8 ?l8 ?c8 ?k8 ?a9 ?l9 ?c9 ?k9 ?a10 ?l10 ?c10 ?k10 ?a11 ?l11 ?c11 ?k11 ?a12 ?l12 ?c12 ?k12 ?a13 ?l13 ?c13 ?k13 ?a14 ?i14 ?l14 ?c14 ?k14 ?a15 ?l15 ?c15 ?k15 ?a16 ?l16 ?c16 ?k16 ?a17 ?l17 ?c17 ?k17 ?a18 ?l18 ?c18 ?k18 ?pg_Machine ?hd_Machine ?po_Machine ?sa_Machine ?mk_Machine ?kc_Machine ?n_events ?n_standings ?ia_Machine ?in_Machine ?it_Machine ?im_Machine ?z_abs ?z_bool ?z_enumerate ?z_int ?z_isinstance ?z_len ?z_list ?z_range ?z_sum ?z_tuple ?v_MOST_EVENTS ?v_MOST_POINTS ?v_MOST_STANDINGS ?v_MOST_TRIES
    (case aC_Machine => k_is)
    (case a1 => k_is)
    (case l1 => k_is)
    (case c1 => k_is)
    (case k1 => k_is)
    (case a2 => k_is)
    (case l2 => k_is)
    (case c2 => k_is)
    (case k2 => k_is)
    (case a3 => k_is)
    (case l3 => k_is)
    (case c3 => k_is)
    (case k3 => k_is)
    (case a4 => k_is)
    (case l4 => k_is)
    (case c4 => k_is)
    (case k4 => k_is)
    (case a5 => k_is)
    (case l5 => k_is)
    (case c5 => k_is)
    (case k5 => k_is)
    (case a6 => k_is)
    (case l6 => k_is)
    (case c6 => k_is)
    (case k6 => k_is)
    (case a7 => k_is)
    (case l7 => k_is)
    (case c7 => k_is)
    (case k7 => k_is)
    (case a8 => k_is)
    (case l8 => k_is)
    (case c8 => k_is)
    (case k8 => k_is)
    (case a9 => k_is)
    (case l9 => k_is)
    (case c9 => k_is)
    (case k9 => k_is)
    (case a10 => k_is)
    (case l10 => k_is)
    (case c10 => k_is)
    (case k10 => k_is)
    (case a11 => k_is)
    (case l11 => k_is)
    (case c11 => k_is)
    (case k11 => k_is)
    (case a12 => k_is)
    (case l12 => k_is)
    (case c12 => k_is)
    (case k12 => k_is)
    (case a13 => k_is)
    (case l13 => k_is)
    (case c13 => k_is)
    (case k13 => k_is)
    (case a14 => k_is)
    (case i14 => k_is)
    (case l14 => k_is)
    (case c14 => k_is)
    (case k14 => k_is)
    (case a15 => k_is)
    (case l15 => k_is)
    (case c15 => k_is)
    (case k15 => k_is)
    (case a16 => k_is)
    (case l16 => k_is)
    (case c16 => k_is)
    (case k16 => k_is)
    (case a17 => k_is)
    (case l17 => k_is)
    (case c17 => k_is)
    (case k17 => k_is)
    (case a18 => k_is)
    (case l18 => k_is)
    (case c18 => k_is)
    (case k18 => k_is)
    (case pg_Machine => k_is)
    (case hd_Machine => k_is)
    (case po_Machine => k_is)
    (case sa_Machine => k_is)
    (case mk_Machine => k_is)
    (case kc_Machine => k_is)
    (case n_events => k_is)
    (case n_standings => k_is)
    (case ia_Machine => k_is)
    (case in_Machine => k_is)
    (case it_Machine => k_is)
    (case im_Machine => k_is)
    (case z_abs => k_is)
    (case z_bool => k_is)
    (case z_enumerate => k_is)
    (case z_int => k_is)
    (case z_isinstance => k_is)
    (case z_len => k_is)
    (case z_list => k_is)
    (case z_range => k_is)
    (case z_sum => k_is)
    (case z_tuple => k_is)
    (case v_MOST_EVENTS => k_is)
    (case v_MOST_POINTS => k_is)
    (case v_MOST_STANDINGS => k_is)
    (case v_MOST_TRIES => k_is)
