import PyProof.Rows.All
import Wide.All
import OpenK.AllK
import Wide.FinOn
import HandS.ForMost
import HandS.Evl
import HandS.TryMany
import HandS.ExcInit
import HandS.ExcOwn
import HandS.Lambda
import HandS.IsInst
import HandS.Style
import HandS.Wide
import HandS.TupMul
import HandS.TupAny
import HandS.Gcd
import HandS.Conv
import HandS.Walk
import HandS.Flow
import HandS.SortInts
import HandS.RaiseMore
import KE.DataMinMax
import KE.KTupSum
import KE.GoesEnum
import PySem.Challenge.RW_undertwo_k34_more_kinds_are_dearer
set_option Elab.async false
set_option linter.all false
set_option maxRecDepth 100000
set_option maxHeartbeats 4000000
/-! Mm: programs over data. A store of cells, what expressions and statements do to it, and that the machine does the same. -/
namespace Mm
open PySem L2

/-! ### data -/
inductive D where
  | non | bl (b : Bool) | int (i : Int) | str (x : Str) | tup (xs : List D) | ref (i : Nat)
inductive Cell where
  | lst (xs : List D)
  | ro (xs : List D)
abbrev Sto := List Cell
structure Exn where
  cls : Str
  what : D
inductive R (a : Type) where
  | ok (x : a) (st : Sto) | ex (x : Exn) (st : Sto) | no
def R.bind {a b : Type} (r : R a) (k : a → Sto → R b) : R b := match r with
  | .ok x st => k x st
  | .ex x st => .ex x st
  | .no => .no
abbrev Env := List (Option D)
abbrev EX := Env → Sto → R D
abbrev AX := Env → Sto → R (List D)
abbrev BX := Env → Sto → R Bool
inductive RS where
  | nx (e : Env) (st : Sto) | ret (d : D) (st : Sto) | brk (e : Env) (st : Sto) | ct (e : Env) (st : Sto) | exc (x : Exn) (e : Env) (st : Sto) | no
abbrev SX := Env → Sto → RS

mutual
def D.beq : D → D → Bool
  | .non, .non => true
  | .bl a, .bl b => a == b
  | .int a, .int b => decide (a = b)
  | .str a, .str b => decide (a = b)
  | .tup xs, .tup ys => D.beqs xs ys
  | .ref a, .ref b => Nat.beq a b
  | _, _ => false
def D.beqs : List D → List D → Bool
  | [], [] => true
  | x :: xs, y :: ys => D.beq x y && D.beqs xs ys
  | _, _ => false
end
mutual
theorem D.beq_eq : ∀ {x y : D}, D.beq x y = true → x = y
  | .non, .non, _ => rfl
  | .bl a, .bl b, h => by simp only [D.beq, beq_iff_eq] at h; rw [h]
  | .int a, .int b, h => by simp only [D.beq, decide_eq_true_eq] at h; rw [h]
  | .str a, .str b, h => by simp only [D.beq, decide_eq_true_eq] at h; rw [h]
  | .tup xs, .tup ys, h => by simp only [D.beq] at h; rw [D.beqs_eq h]
  | .ref a, .ref b, h => by rw [show a = b from Nat.eq_of_beq_eq_true h]
  | .non, .bl _, h | .non, .int _, h | .non, .str _, h | .non, .tup _, h | .non, .ref _, h => by simp [D.beq] at h
  | .bl _, .non, h | .bl _, .int _, h | .bl _, .str _, h | .bl _, .tup _, h | .bl _, .ref _, h => by simp [D.beq] at h
  | .int _, .non, h | .int _, .bl _, h | .int _, .str _, h | .int _, .tup _, h | .int _, .ref _, h => by simp [D.beq] at h
  | .str _, .non, h | .str _, .bl _, h | .str _, .int _, h | .str _, .tup _, h | .str _, .ref _, h => by simp [D.beq] at h
  | .tup _, .non, h | .tup _, .bl _, h | .tup _, .int _, h | .tup _, .str _, h | .tup _, .ref _, h => by simp [D.beq] at h
  | .ref _, .non, h | .ref _, .bl _, h | .ref _, .int _, h | .ref _, .str _, h | .ref _, .tup _, h => by simp [D.beq] at h
theorem D.beqs_eq : ∀ {xs ys : List D}, D.beqs xs ys = true → xs = ys
  | [], [], _ => rfl
  | x :: xs, y :: ys, h => by simp only [D.beqs, Bool.and_eq_true] at h; rw [D.beq_eq h.1, D.beqs_eq h.2]
  | [], _ :: _, h => by simp [D.beqs] at h
  | _ :: _, [], h => by simp [D.beqs] at h
end
mutual
theorem D.beq_refl : ∀ (x : D), D.beq x x = true
  | .non => rfl
  | .bl a => by simp [D.beq]
  | .int a => by simp [D.beq]
  | .str a => by simp [D.beq]
  | .tup xs => by simp only [D.beq]; exact D.beqs_refl xs
  | .ref a => by simp [D.beq]
theorem D.beqs_refl : ∀ (xs : List D), D.beqs xs xs = true
  | [] => rfl
  | x :: xs => by simp only [D.beqs, D.beq_refl x, D.beqs_refl xs, Bool.and_self]
end
instance : DecidableEq D := fun a b => if h : D.beq a b = true then .isTrue (D.beq_eq h) else .isFalse fun e => h (e ▸ D.beq_refl a)
instance : DecidableEq Cell := fun a b => match a, b with
  | .lst x, .lst y => if h : x = y then .isTrue (by rw [h]) else .isFalse fun e => h (Cell.lst.inj e)
  | .ro x, .ro y => if h : x = y then .isTrue (by rw [h]) else .isFalse fun e => h (Cell.ro.inj e)
  | .lst _, .ro _ => .isFalse fun e => nomatch e
  | .ro _, .lst _ => .isFalse fun e => nomatch e

/-! ### what stands for what -/
section
variable (K : PySem.W.Frag) (H : Hp) (m : List Addr)
mutual
def Rep : D → V → Prop
  | .non, v => v = .non
  | .bl b, v => v = .bl b
  | .int i, v => v = .int i
  | .str x, v => v = .str x
  | .tup ds, v => ∃ a vs, v = .ref a ∧ SqT K H a vs ∧ Reps ds vs
  | .ref i, v => ∃ a, m[i]? = some a ∧ v = .ref a
def Reps : List D → List V → Prop
  | [], vs => vs = []
  | d :: ds, vs => ∃ v r, vs = v :: r ∧ Rep d v ∧ Reps ds r
end
end
/-- what stays of the heap -/
structure Le (H H' : Hp) : Prop where
  tup : ∀ a xs, H a = some (.tup xs) → H' a = some (.tup xs)
  frz : ∀ a o u, H a = some (.frz o u) → H' a = some (.frz o u)
  cod : ∀ a q, H a = some (LamX.CodeO a q) → H' a = some (LamX.CodeO a q)
  tbl : ∀ a ps, H a = some (.tbl ps) → ∃ more, H' a = some (.tbl (ps ++ more))
theorem Le.refl (H : Hp) : Le H H := ⟨fun _ _ h => h, fun _ _ _ h => h, fun _ _ h => h, fun _ ps h => ⟨#[], by simpa using h⟩⟩
theorem Le.trans {H H1 H2 : Hp} (a : Le H H1) (b : Le H1 H2) : Le H H2 :=
  ⟨fun x xs h => b.tup x xs (a.tup x xs h), fun x o u h => b.frz x o u (a.frz x o u h), fun x q h => b.cod x q (a.cod x q h), fun x ps h => by
    obtain ⟨m1, h1⟩ := a.tbl x ps h
    obtain ⟨m2, h2⟩ := b.tbl x _ h1
    exact ⟨m1 ++ m2, by rw [h2, Array.append_assoc]⟩⟩
theorem Le.new {H : Hp} {p : Addr} {o : HO} (h : H p = none) : Le H (upd H p o) := by
  refine ⟨fun a xs e => ?_, fun a o u e => ?_, fun a q e => ?_, fun a ps e => ⟨#[], ?_⟩⟩
  · rw [upd_ne (ne_of_none e h)]; exact e
  · rw [upd_ne (ne_of_none e h)]; exact e
  · rw [upd_ne (ne_of_none e h)]; exact e
  · rw [upd_ne (ne_of_none e h)]; simpa using e
/-- a list is changed -/
theorem Le.set {H : Hp} {p : Addr} {xs : List V} {o : HO} (h : H p = some (.lst xs)) : Le H (upd H p o) := by
  refine ⟨fun a ys e => ?_, fun a o u e => ?_, fun a q e => ?_, fun a ps e => ⟨#[], ?_⟩⟩
  · rw [upd_ne (ne_of e h (by intro z; cases z))]; exact e
  · rw [upd_ne (ne_of e h (by intro z; cases z))]; exact e
  · rw [upd_ne (ne_of e h (by intro z; unfold LamX.CodeO at z; cases z))]; exact e
  · rw [upd_ne (ne_of e h (by intro z; cases z))]; simpa using e
theorem Le.sqT {K : PySem.W.Frag} {H H' : Hp} {a : Addr} {xs : List V} (e : Le H H') (h : SqT K H a xs) : SqT K H' a xs := by
  rcases h with (h | ⟨o, h⟩) | h
  · exact .inl (.inl (e.tup _ _ h))
  · exact .inl (.inr ⟨o, e.frz _ _ _ h⟩)
  · exact .inr h
def Pre (m m' : List Addr) : Prop := ∃ r, m' = m ++ r
theorem Pre.refl (m : List Addr) : Pre m m := ⟨[], by simp⟩
theorem Pre.trans {a b c : List Addr} (h : Pre a b) (h2 : Pre b c) : Pre a c := by
  obtain ⟨r, rfl⟩ := h
  obtain ⟨s, rfl⟩ := h2
  exact ⟨r ++ s, by simp⟩
theorem Pre.add (m : List Addr) (a : Addr) : Pre m (m ++ [a]) := ⟨[a], rfl⟩
theorem Pre.get {m m' : List Addr} (h : Pre m m') {i : Nat} {a : Addr} (e : m[i]? = some a) : m'[i]? = some a := by
  obtain ⟨r, rfl⟩ := h
  rw [List.getElem?_append_left (List.getElem?_eq_some_iff.mp e).1]
  exact e
section
variable {K : PySem.W.Frag} {H H' : Hp} {m m' : List Addr}
mutual
theorem Rep.mono (e : Le H H') (p : Pre m m') : ∀ {d : D} {v : V}, Rep K H m d v → Rep K H' m' d v
  | .non, _, h => h
  | .bl _, _, h => h
  | .int _, _, h => h
  | .str _, _, h => h
  | .tup ds, v, h => by
    obtain ⟨a, vs, h1, h2, h3⟩ := h
    exact ⟨a, vs, h1, e.sqT h2, Reps.mono e p h3⟩
  | .ref i, v, h => by
    obtain ⟨a, h1, h2⟩ := h
    exact ⟨a, p.get h1, h2⟩
theorem Reps.mono (e : Le H H') (p : Pre m m') : ∀ {ds : List D} {vs : List V}, Reps K H m ds vs → Reps K H' m' ds vs
  | [], _, h => h
  | d :: ds, vs, h => by
    obtain ⟨v, r, h1, h2, h3⟩ := h
    exact ⟨v, r, h1, Rep.mono e p h2, Reps.mono e p h3⟩
end
theorem Reps.length : ∀ {ds : List D} {vs : List V}, Reps K H m ds vs → ds.length = vs.length
  | [], _, h => by cases h; rfl
  | d :: ds, vs, h => by
    obtain ⟨v, r, rfl, _, h3⟩ := h
    simp [Reps.length h3]
theorem Reps.get : ∀ {ds : List D} {vs : List V} {i : Nat} {d : D}, Reps K H m ds vs → ds[i]? = some d → ∃ v, vs[i]? = some v ∧ Rep K H m d v
  | [], _, _, _, _, e => by simp at e
  | d :: ds, vs, 0, x, h, e => by
    obtain ⟨v, r, rfl, h2, _⟩ := h
    simp at e; subst e
    exact ⟨v, rfl, h2⟩
  | d :: ds, vs, i + 1, x, h, e => by
    obtain ⟨v, r, rfl, _, h3⟩ := h
    obtain ⟨u, e1, e2⟩ := Reps.get h3 (show ds[i]? = some x by simpa using e)
    exact ⟨u, by simpa using e1, e2⟩
theorem Reps.back : ∀ {ds : List D} {vs : List V} {i : Nat} {v : V}, Reps K H m ds vs → vs[i]? = some v → ∃ d, ds[i]? = some d ∧ Rep K H m d v
  | [], _, _, _, h, e => by cases h; simp at e
  | d :: ds, vs, 0, x, h, e => by
    obtain ⟨v, r, rfl, h2, _⟩ := h
    simp at e; subst e
    exact ⟨d, rfl, h2⟩
  | d :: ds, vs, i + 1, x, h, e => by
    obtain ⟨v, r, rfl, _, h3⟩ := h
    obtain ⟨u, e1, e2⟩ := Reps.back h3 (show r[i]? = some x by simpa using e)
    exact ⟨u, by simpa using e1, e2⟩
theorem Reps.append : ∀ {ds es : List D} {vs ws : List V}, Reps K H m ds vs → Reps K H m es ws → Reps K H m (ds ++ es) (vs ++ ws)
  | [], _, _, _, h, g => by cases h; exact g
  | d :: ds, es, vs, ws, h, g => by
    obtain ⟨v, r, rfl, h2, h3⟩ := h
    exact ⟨v, r ++ ws, rfl, h2, Reps.append h3 g⟩
theorem Reps.one {d : D} {v : V} (h : Rep K H m d v) : Reps K H m [d] [v] := ⟨v, [], rfl, h, rfl⟩
theorem Reps.set : ∀ {ds : List D} {vs : List V} {i : Nat} {d : D} {v : V}, Reps K H m ds vs → Rep K H m d v → Reps K H m (ds.set i d) (vs.set i v)
  | [], _, _, _, _, h, _ => by cases h; rfl
  | d :: ds, vs, 0, x, u, h, g => by
    obtain ⟨v, r, rfl, h2, h3⟩ := h
    exact ⟨u, r, rfl, g, h3⟩
  | d :: ds, vs, i + 1, x, u, h, g => by
    obtain ⟨v, r, rfl, h2, h3⟩ := h
    exact ⟨v, r.set i u, rfl, h2, Reps.set h3 g⟩
theorem Reps.take : ∀ {ds : List D} {vs : List V} (n : Nat), Reps K H m ds vs → Reps K H m (ds.take n) (vs.take n)
  | [], _, n, h => by cases h; simp; rfl
  | d :: ds, vs, 0, h => by simp; rfl
  | d :: ds, vs, n + 1, h => by
    obtain ⟨v, r, rfl, h2, h3⟩ := h
    exact ⟨v, r.take n, rfl, h2, Reps.take n h3⟩
theorem Reps.drop : ∀ {ds : List D} {vs : List V} (n : Nat), Reps K H m ds vs → Reps K H m (ds.drop n) (vs.drop n)
  | [], _, n, h => by cases h; simp; rfl
  | d :: ds, vs, 0, h => h
  | d :: ds, vs, n + 1, h => by
    obtain ⟨v, r, rfl, h2, h3⟩ := h
    exact Reps.drop n h3
theorem Reps.dropLast {ds : List D} {vs : List V} (h : Reps K H m ds vs) : Reps K H m ds.dropLast vs.dropLast := by
  rw [List.dropLast_eq_take, List.dropLast_eq_take, ← h.length]
  exact h.take _
theorem Reps.erase {ds : List D} {vs : List V} (h : Reps K H m ds vs) (i : Nat) : Reps K H m (ds.eraseIdx i) (vs.eraseIdx i) := by
  rw [List.eraseIdx_eq_take_drop_succ, List.eraseIdx_eq_take_drop_succ]
  exact (h.take i).append (h.drop (i + 1))
theorem Reps.reverse : ∀ {ds : List D} {vs : List V}, Reps K H m ds vs → Reps K H m ds.reverse vs.reverse
  | [], _, h => by cases h; rfl
  | d :: ds, vs, h => by
    obtain ⟨v, r, rfl, h2, h3⟩ := h
    rw [List.reverse_cons, List.reverse_cons]
    exact (Reps.reverse h3).append (Reps.one h2)
theorem Reps.ints : ∀ {ns : List Int} {vs : List V}, Reps K H m (ns.map D.int) vs → vs = ns.map V.int
  | [], _, h => h
  | n :: ns, vs, h => by
    obtain ⟨v, r, rfl, h2, h3⟩ := h
    rw [show v = V.int n from h2, Reps.ints h3]
    rfl
theorem Reps.of_ints : ∀ (ns : List Int), Reps K H m (ns.map D.int) (ns.map V.int)
  | [] => rfl
  | n :: ns => ⟨.int n, ns.map V.int, rfl, rfl, Reps.of_ints ns⟩
end
def lim : Nat := 100000
theorem lim_le {n : Nat} (h : n ≤ lim) : n ≤ sizeLine := Nat.le_trans h (by decide)
theorem lim_lt {n : Nat} (h : n ≤ lim) : n < sizeLine := Nat.lt_of_le_of_lt h (by decide)
def CellOk (K : PySem.W.Frag) (H : Hp) (m : List Addr) (a : Addr) : Cell → Prop
  | .lst ds => ∃ vs, H a = some (.lst vs) ∧ Reps K H m ds vs
  | .ro ds => ∃ vs, (∀ H', Le H H' → SqL K H' a vs) ∧ Reps K H m ds vs
structure Ok (K : PySem.W.Frag) (T : List (Addr × Str)) (H : Hp) (m : List Addr) (st : Sto) : Prop where
  len : m.length = st.length
  nd : ∀ (i j : Nat) (a : Addr) (xs ys : List D), m[i]? = some a → m[j]? = some a → st[i]? = some (.lst xs) → st[j]? = some (.lst ys) → i = j
  cell : ∀ (i : Nat) (c : Cell), st[i]? = some c → ∃ a, m[i]? = some a ∧ CellOk K H m a c
  tabs : LamX.Tabs T H
/-- an exception of a class of the module, its own dict -/
def XRep (K : PySem.W.Frag) (mg : Str → Option Value) (H : Hp) (m : List Addr) (x : Exn) (cls : Value) (dd : Option Addr) : Prop :=
  ∃ C d v, cls = .ref C ∧ mg x.cls = some (.ref C) ∧ dd = some d ∧ H d = some (.xd [(("what" : Str), v)]) ∧ Rep K H m x.what v
def EnvOk (K : PySem.W.Frag) (H : Hp) (m : List Addr) (s : L2.St) (e : Env) : Prop :=
  e.length = s.length ∧ ∀ (i : Nat) (d : D), e[i]? = some (some d) → ∃ v, s[i]? = some (some v) ∧ Rep K H m d v
theorem CellOk.list {K : PySem.W.Frag} {H : Hp} {m : List Addr} {a : Addr} : ∀ {c : Cell}, CellOk K H m a c → ∃ ds vs, (c = .lst ds ∨ c = .ro ds) ∧ SqL K H a vs ∧ Reps K H m ds vs
  | .lst ds, h => by
    obtain ⟨vs, h1, h2⟩ := h
    exact ⟨ds, vs, .inl rfl, .of h1, h2⟩
  | .ro ds, h => by
    obtain ⟨vs, h1, h2⟩ := h
    exact ⟨ds, vs, .inr rfl, h1 H (.refl H), h2⟩
end Mm

namespace Mm
open PySem L2
theorem EnvOk.mono {K : PySem.W.Frag} {H H' : Hp} {m m' : List Addr} {s : L2.St} {e : Env} (h : EnvOk K H m s e) (l : Le H H') (p : Pre m m') : EnvOk K H' m' s e :=
  ⟨h.1, fun i d q => by
    obtain ⟨v, h1, h2⟩ := h.2 i d q
    exact ⟨v, h1, h2.mono l p⟩⟩
theorem EnvOk.set {K : PySem.W.Frag} {H : Hp} {m : List Addr} {s : L2.St} {e : Env} {d : D} {v : V} (h : EnvOk K H m s e) (i : Nat) (r : Rep K H m d v) : EnvOk K H m (s.set i (some v)) (e.set i (some d)) := by
  refine ⟨by simp [h.1], fun j x q => ?_⟩
  by_cases hij : i = j
  · subst hij
    have hl : i < e.length := by
      have := (List.getElem?_eq_some_iff.mp q).1
      simpa using this
    rw [List.getElem?_set_self hl] at q
    cases q
    exact ⟨v, List.getElem?_set_self (by rw [← h.1]; exact hl), r⟩
  · rw [List.getElem?_set_ne hij] at q ⊢
    exact h.2 j x q
theorem Pre.take {m m' : List Addr} (h : Pre m m') {n : Nat} (hn : n = m.length) : m'.take n = m := by
  obtain ⟨r, rfl⟩ := h
  subst hn
  simp
section
variable {K : PySem.W.Frag} {T : List (Addr × Str)} {H H' : Hp} {m m' : List Addr} {st : Sto}
/-- a new object beside the store's -/
theorem Ok.new {p : Addr} {o : HO} (h : Ok K T H m st) (hp : H p = none) : Ok K T (upd H p o) m st := by
  have le := Le.new (o := o) hp
  refine ⟨h.len, h.nd, fun i c hc => ?_, h.tabs.ext fun b u e => by rw [upd_ne (ne_of_none e hp)]; exact e⟩
  obtain ⟨a, h1, h2⟩ := h.cell i c hc
  refine ⟨a, h1, ?_⟩
  cases c with
  | lst ds =>
    obtain ⟨vs, h3, h4⟩ := h2
    exact ⟨vs, by rw [upd_ne (ne_of_none h3 hp)]; exact h3, h4.mono le (.refl m)⟩
  | ro ds =>
    obtain ⟨vs, h3, h4⟩ := h2
    exact ⟨vs, fun H' l => h3 H' (le.trans l), h4.mono le (.refl m)⟩
theorem Ok.lt {i : Nat} {a : Addr} (h : Ok K T H m st) (e : m[i]? = some a) : i < st.length := by
  rw [← h.len]; exact (List.getElem?_eq_some_iff.mp e).1
theorem CellOk.mono {a : Addr} {c : Cell} (l : Le H H') (p : Pre m m') (hk : ∀ vs, c = .lst vs → H' a = H a) (h : CellOk K H m a c) : CellOk K H' m' a c := by
  cases c with
  | lst ds =>
    obtain ⟨vs, h3, h4⟩ := h
    exact ⟨vs, by rw [hk _ rfl]; exact h3, h4.mono l p⟩
  | ro ds =>
    obtain ⟨vs, h3, h4⟩ := h
    exact ⟨vs, fun H2 l2 => h3 H2 (l.trans l2), h4.mono l p⟩
theorem Ok.lst {i : Nat} {ds : List D} (h : Ok K T H m st) (e : st[i]? = some (.lst ds)) : ∃ a vs, m[i]? = some a ∧ H a = some (.lst vs) ∧ Reps K H m ds vs := by
  obtain ⟨a, h1, vs, h2, h3⟩ := h.cell i _ e
  exact ⟨a, vs, h1, h2, h3⟩
/-- a new cell: a list -/
theorem Ok.newCell {p : Addr} {ds : List D} {vs : List V} (h : Ok K T H m st) (hp : H p = none) (r : Reps K H m ds vs) : Ok K T (upd H p (.lst vs)) (m ++ [p]) (st ++ [.lst ds]) := by
  have le := Le.new (o := .lst vs) hp
  have old : ∀ (i : Nat) (c : Cell) (a : Addr), (st ++ [Cell.lst ds])[i]? = some c → (m ++ [p])[i]? = some a → (st[i]? = some c ∧ m[i]? = some a) ∨ (i = st.length ∧ c = .lst ds ∧ a = p) := by
    intro i c a hc ha
    by_cases hi : i < st.length
    · rw [List.getElem?_append_left hi] at hc
      rw [List.getElem?_append_left (by rw [h.len]; exact hi)] at ha
      exact .inl ⟨hc, ha⟩
    · have hl : i = st.length := by
        have := (List.getElem?_eq_some_iff.mp hc).1
        simp at this; omega
      subst hl
      rw [← h.len] at ha
      simp at hc ha
      exact .inr ⟨rfl, hc.symm, ha.symm⟩
  have ne : ∀ (i : Nat) (xs : List D), st[i]? = some (.lst xs) → m[i]? ≠ some p := fun i xs e z => by
    obtain ⟨a, vs, h1, h2, _⟩ := h.lst e
    rw [z] at h1; cases h1
    rw [hp] at h2; cases h2
  refine ⟨by simp [h.len], fun i j a xs ys h1 h2 h3 h4 => ?_, fun i c hc => ?_, h.tabs.ext fun b u e => by rw [upd_ne (ne_of_none e hp)]; exact e⟩
  · rcases old i _ a h3 h1 with ⟨p1, p2⟩ | ⟨p1, p2, p3⟩
    · rcases old j _ a h4 h2 with ⟨q1, q2⟩ | ⟨q1, q2, q3⟩
      · exact h.nd i j a xs ys p2 q2 p1 q1
      · exact absurd (q3 ▸ p2) (ne i xs p1)
    · rcases old j _ a h4 h2 with ⟨q1, q2⟩ | ⟨q1, q2, q3⟩
      · exact absurd (p3 ▸ q2) (ne j ys q1)
      · rw [p1, q1]
  · by_cases hi : i < st.length
    · rw [List.getElem?_append_left hi] at hc
      obtain ⟨a, h1, h2⟩ := h.cell i c hc
      refine ⟨a, by rw [List.getElem?_append_left (by rw [h.len]; exact hi)]; exact h1, ?_⟩
      refine h2.mono le (.add m p) fun ds hd => upd_ne fun z => ?_
      subst hd
      exact ne i _ hc (z ▸ h1)
    · have hl : i = st.length := by
        have := (List.getElem?_eq_some_iff.mp hc).1
        simp at this; omega
      subst hl
      simp at hc
      subst hc
      exact ⟨p, by rw [← h.len]; simp, vs, upd_same, r.mono le (.add m p)⟩
/-- a list is changed -/
theorem Ok.setCell {i : Nat} {a : Addr} {xs ds : List D} {ws vs : List V} (h : Ok K T H m st) (hi : st[i]? = some (.lst xs)) (hm : m[i]? = some a) (ha : H a = some (.lst ws)) (r : Reps K H m ds vs) : Ok K T (upd H a (.lst vs)) m (st.set i (.lst ds)) := by
  have le := Le.set (o := .lst vs) ha
  have hl : i < st.length := (List.getElem?_eq_some_iff.mp hi).1
  have kind : ∀ (j : Nat) (ys : List D), (st.set i (.lst ds))[j]? = some (.lst ys) → ∃ zs, st[j]? = some (.lst zs) := fun j ys e => by
    by_cases hj : i = j
    · subst hj; exact ⟨xs, hi⟩
    · rw [List.getElem?_set_ne hj] at e; exact ⟨ys, e⟩
  refine ⟨by simp [h.len], fun j k b ys zs h1 h2 h3 h4 => ?_, fun j c hc => ?_, fun p hp => ?_⟩
  · obtain ⟨ys', h3⟩ := kind j ys h3
    obtain ⟨zs', h4⟩ := kind k zs h4
    exact h.nd j k b ys' zs' h1 h2 h3 h4
  · by_cases hj : i = j
    · subst hj
      rw [List.getElem?_set_self hl] at hc
      cases hc
      exact ⟨a, hm, vs, upd_same, r.mono le (.refl m)⟩
    · rw [List.getElem?_set_ne hj] at hc
      obtain ⟨b, h1, h2⟩ := h.cell j c hc
      refine ⟨b, h1, h2.mono le (.refl m) fun ds' hd => upd_ne fun z => ?_⟩
      subst hd
      exact hj (h.nd i j a xs ds' hm (z ▸ h1) hi hc)
  · obtain ⟨ps, h1, h2, h3⟩ := h.tabs p hp
    refine ⟨ps, by rw [upd_ne (ne_of h1 ha (by intro z; cases z))]; exact h1, h2, fun pos cv hc => ?_⟩
    obtain ⟨c, e1, e2⟩ := h3 pos cv hc
    exact ⟨c, e1, by rw [upd_ne (ne_of e2 ha (by intro z; unfold LamX.CodeO at z; cases z))]; exact e2⟩
end

/-! ### what a result means -/
section
variable (K : PySem.W.Frag) (T : List (Addr × Str)) (mg : Str → Option Value) (W : WX)
/-- the result r, told of what stands at H, m: what must hold so that what follows, Q, holds -/
def Den {a b : Type} (RA : Hp → List Addr → a → b → Prop) (s : L2.St) (H : Hp) (m : List Addr) (r : R a) (Q : b → Hp → Prop) : Prop :=
  match r with
  | .no => False
  | .ok x st' => ∀ y H' m', Le H H' → Pre m m' → Ok K T H' m' st' → RA H' m' x y → Q y H'
  | .ex x st' => ∀ cls dd H' m', Le H H' → Pre m m' → Ok K T H' m' st' → XRep K mg H' m' x cls dd → W cls dd s H'
def RD (H : Hp) (m : List Addr) (d : D) (v : V) : Prop := Rep K H m d v
def RL (H : Hp) (m : List Addr) (d : List D) (v : List V) : Prop := Reps K H m d v
def RB (_ : Hp) (_ : List Addr) (x y : Bool) : Prop := x = y
def tE (f : EX) : TE := fun s H Q => ∃ e st m, EnvOk K H m s e ∧ Ok K T H m st ∧ Den K T mg W (RD K) s H m (f e st) Q
def tA (f : AX) : TA := fun s H Q => ∃ e st m, EnvOk K H m s e ∧ Ok K T H m st ∧ Den K T mg W (RL K) s H m (f e st) Q
def tT (f : BX) : TT := fun s H Q => ∃ e st m, EnvOk K H m s e ∧ Ok K T H m st ∧ Den K T mg W RB s H m (f e st) Q
def DenS (H : Hp) (m : List Addr) (r : RS) (F : Ends) : Prop :=
  match r with
  | .no => False
  | .nx e st' => ∀ s' H' m', Le H H' → Pre m m' → Ok K T H' m' st' → EnvOk K H' m' s' e → F.nx s' H'
  | .ct e st' => ∀ s' H' m', Le H H' → Pre m m' → Ok K T H' m' st' → EnvOk K H' m' s' e → F.ct s' H'
  | .brk e st' => ∀ s' H' m', Le H H' → Pre m m' → Ok K T H' m' st' → EnvOk K H' m' s' e → F.bk s' H'
  | .ret d st' => ∀ v H' m', Le H H' → Pre m m' → Ok K T H' m' st' → Rep K H' m' d v → F.rt v H'
  | .exc x e st' => ∀ cls dd s' H' m', Le H H' → Pre m m' → Ok K T H' m' st' → EnvOk K H' m' s' e → XRep K mg H' m' x cls dd → W cls dd s' H'
def tS (f : SX) : TS := fun F s H => ∃ e st m, EnvOk K H m s e ∧ Ok K T H m st ∧ DenS K T mg W H m (f e st) F
end
section
variable {K : PySem.W.Frag} {T : List (Addr × Str)} {mg : Str → Option Value} {W : WX} {s : L2.St} {H H1 : Hp} {m m1 : List Addr} {st : Sto} {e : Env}
theorem Den.bind {a b c d : Type} {RA : Hp → List Addr → a → b → Prop} {RC : Hp → List Addr → c → d → Prop} {r : R a} {k : a → Sto → R c} {Q : d → Hp → Prop}
    (h : Den K T mg W RC s H m (r.bind k) Q) {Q' : b → Hp → Prop} (q : ∀ x y st1 H1 m1, r = .ok x st1 → Le H H1 → Pre m m1 → Ok K T H1 m1 st1 → RA H1 m1 x y → Den K T mg W RC s H1 m1 (k x st1) Q → Q' y H1) : Den K T mg W RA s H m r Q' := by
  cases r with
  | no => exact h
  | ok x st1 =>
    intro y H1 m1 le pr ok ra
    refine q x y st1 H1 m1 rfl le pr ok ra ?_
    have h' : Den K T mg W RC s H m (k x st1) Q := h
    revert h'
    generalize k x st1 = r2
    intro h'
    cases r2 with
    | no => exact h'
    | ok x2 st2 => exact fun y2 H2 m2 l2 p2 => h' y2 H2 m2 (le.trans l2) (pr.trans p2)
    | ex x2 st2 => exact fun cls dd H2 m2 l2 p2 => h' cls dd H2 m2 (le.trans l2) (pr.trans p2)
  | ex x st1 => exact h
theorem Den.of_ok {a b : Type} {RA : Hp → List Addr → a → b → Prop} {x : a} {y : b} {Q : b → Hp → Prop} (h : Den K T mg W RA s H m (.ok x st) Q) (le : Le H H1) (pr : Pre m m1) (ok : Ok K T H1 m1 st) (r : RA H1 m1 x y) : Q y H1 := h y H1 m1 le pr ok r
end

/-! ### expressions -/
section
variable {X : Cx} {t t' : TE} {u u' : TT} {w w' : TA} {v v' : TS} {ex : Expr} {es : List Expr} {sm : Stmt} {sms : List Stmt}
theorem pe_weak (h : PE X ex t) (k : ∀ s H Q, t' s H Q → t s H Q) : PE X ex t' := ⟨fun pins s σ H Q I hw => h.run pins s σ H Q I (k σ H Q hw)⟩
theorem pt_weak (h : PT X ex u) (k : ∀ s H Q, u' s H Q → u s H Q) : PT X ex u' := ⟨fun pins s σ H Q I hw => h.run pins s σ H Q I (k σ H Q hw)⟩
theorem pa_weak (h : PA X es w) (k : ∀ s H Q, w' s H Q → w s H Q) : PA X es w' := ⟨fun pos pins s σ H Q I hw => h.run pos pins s σ H Q I (k σ H Q hw)⟩
theorem ps_weak (h : PS X sm v) (k : ∀ F s H, v' F s H → v F s H) : PS X sm v' := ⟨fun pins s σ H D I hw => h.run pins s σ H D I (k D σ H hw)⟩
theorem pss_weak (h : PSs X sms v) (k : ∀ F s H, v' F s H → v F s H) : PSs X sms v' := ⟨fun pins s σ H D I hw => h.run pins s σ H D I (k D σ H hw)⟩
end
abbrev J (X : Cx) (T : List (Addr × Str)) (W : WX) (ex : Expr) (f : EX) : Prop := PE X ex (tE X.K T X.mg W f)
abbrev JT (X : Cx) (T : List (Addr × Str)) (W : WX) (ex : Expr) (f : BX) : Prop := PT X ex (tT X.K T X.mg W f)
structure JA (X : Cx) (T : List (Addr × Str)) (W : WX) (es : List Expr) (f : AX) : Prop where
  pa : PA X es (tA X.K T X.mg W f)
  len : ∀ e st ds st', f e st = .ok ds st' → ds.length = es.length
abbrev JS (X : Cx) (T : List (Addr × Str)) (W : WX) (sm : Stmt) (f : SX) : Prop := PS X sm (tS X.K T X.mg W f)
abbrev JB (X : Cx) (T : List (Addr × Str)) (W : WX) (sms : List Stmt) (f : SX) : Prop := PSs X sms (tS X.K T X.mg W f)

def eV (i : Nat) : EX := fun e st => match e[i]? with
  | some (some d) => .ok d st
  | _ => .no
def eC (d : D) : EX := fun _ st => .ok d st
abbrev O1 := D → Sto → Option (D × Sto)
abbrev O2 := D → D → Sto → Option (D × Sto)
abbrev ON := List D → Sto → Option (D × Sto)
def R.of : Option (D × Sto) → R D
  | some (d, st) => .ok d st
  | none => .no
def e1 (o : O1) (a : EX) : EX := fun e st => (a e st).bind fun x st1 => .of (o x st1)
def e2 (o : O2) (a b : EX) : EX := fun e st => (a e st).bind fun x st1 => (b e st1).bind fun y st2 => .of (o x y st2)
def eN (o : ON) (as : AX) : EX := fun e st => (as e st).bind fun ds st1 => .of (o ds st1)
def aN : AX := fun _ st => .ok [] st
def aC (a : EX) (r : AX) : AX := fun e st => (a e st).bind fun x st1 => (r e st1).bind fun xs st2 => .ok (x :: xs) st2
def eCall (g : List D → Sto → R D) (as : AX) : EX := fun e st => (as e st).bind fun ds st1 => g ds st1
def eTup (as : AX) : EX := fun e st => (as e st).bind fun ds st1 => .ok (.tup ds) st1
def eLst (as : AX) : EX := fun e st => (as e st).bind fun ds st1 => .ok (.ref st1.length) (st1 ++ [.lst ds])
def eIf (c : BX) (a b : EX) : EX := fun e st => (c e st).bind fun k st1 => if k = true then a e st1 else b e st1
/-- a op b op' c -/
def eCh (o o' : O2) (a b c : EX) : EX := fun e st => (a e st).bind fun x st1 => (b e st1).bind fun y st2 => (R.of (o x y st2)).bind fun z st3 => match z with
  | .bl true => (c e st3).bind fun w st4 => .of (o' y w st4)
  | .bl false => .ok (.bl false) st3
  | _ => .no
def eAnd (a b : EX) : EX := fun e st => (a e st).bind fun x st1 => match x with
  | .bl true => b e st1
  | .bl false => .ok (.bl false) st1
  | _ => .no
def eOr (a b : EX) : EX := fun e st => (a e st).bind fun x st1 => match x with
  | .bl true => .ok (.bl true) st1
  | .bl false => b e st1
  | _ => .no
def eNot (a : EX) : EX := fun e st => (a e st).bind fun x st1 => match x with
  | .bl k => .ok (.bl (!k)) st1
  | _ => .no
def bB (a : EX) : BX := fun e st => (a e st).bind fun x st1 => match x with
  | .bl k => .ok k st1
  | _ => .no
def bAnd (a b : BX) : BX := fun e st => (a e st).bind fun x st1 => if x = true then b e st1 else .ok false st1
def bOr (a b : BX) : BX := fun e st => (a e st).bind fun x st1 => if x = true then .ok true st1 else b e st1
def bNot (a : BX) : BX := fun e st => (a e st).bind fun x st1 => .ok (!x) st1
/-- the truth of a value -/
def tru (st : Sto) : D → Option Bool
  | .non => some false
  | .bl b => some b
  | .int i => some (i != 0)
  | .tup xs => some (!xs.isEmpty)
  | .ref i => match st[i]? with
    | some (.lst xs) => some (!xs.isEmpty)
    | some (.ro xs) => some (!xs.isEmpty)
    | none => none
  | .str _ => none
def bTru (a : EX) : BX := fun e st => (a e st).bind fun x st1 => match tru st1 x with
  | some k => .ok k st1
  | none => .no

def DenO (K : PySem.W.Frag) (T : List (Addr × Str)) (H : Hp) (m : List Addr) (r : Option (D × Sto)) (Q : VK) : Prop :=
  match r with
  | none => False
  | some (d, st') => ∀ v H' m', Le H H' → Pre m m' → Ok K T H' m' st' → Rep K H' m' d v → Q v H'
def r1 (K : PySem.W.Frag) (T : List (Addr × Str)) (o : O1) : V → Hp → VK → Prop := fun x H Q => ∃ dx st m, Rep K H m dx x ∧ Ok K T H m st ∧ DenO K T H m (o dx st) Q
def r2 (K : PySem.W.Frag) (T : List (Addr × Str)) (o : O2) : R2 := fun x y H Q => ∃ dx dy st m, Rep K H m dx x ∧ Rep K H m dy y ∧ Ok K T H m st ∧ DenO K T H m (o dx dy st) Q
def rN (K : PySem.W.Frag) (T : List (Addr × Str)) (o : ON) : List V → Hp → VK → Prop := fun xs H Q => ∃ ds st m, Reps K H m ds xs ∧ Ok K T H m st ∧ DenO K T H m (o ds st) Q
theorem den_of {K : PySem.W.Frag} {T : List (Addr × Str)} {mg : Str → Option Value} {W : WX} {s : L2.St} {H : Hp} {m : List Addr} {r : Option (D × Sto)} {Q : VK} (h : Den K T mg W (RD K) s H m (.of r) Q) : DenO K T H m r Q := by
  cases r with
  | none => exact h
  | some p => exact h
section
variable {X : Cx} {T : List (Addr × Str)} {W : WX} {a b c : Expr} {fa fb fc : EX} {pos : Pos}
theorem j_var {i : Nat} {x : Str} (h : PE X (.Name x pos) (tVar i)) : J X T W (.Name x pos) (eV i) := pe_weak h fun s H Q ⟨e, st, m, he, ok, h⟩ => by
  unfold eV at h
  split at h
  · rename_i d hd
    obtain ⟨v, h1, h2⟩ := he.2 i d hd
    exact ⟨v, h1, h v H m (.refl H) (.refl m) ok h2⟩
  · exact False.elim h
theorem j_c {d : D} {v : V} (h : PE X a (tC v)) (r : ∀ H m, Rep X.K H m d v) : J X T W a (eC d) := pe_weak h fun s H Q ⟨e, st, m, he, ok, h⟩ => h v H m (.refl H) (.refl m) ok (r H m)
theorem j_int {i j} : J X T W (.Constant (.int i) j pos) (eC (.int i)) := j_c pe_int fun _ _ => rfl
theorem j_bl {i j} : J X T W (.Constant (.bool i) j pos) (eC (.bl i)) := j_c pe_bl fun _ _ => rfl
theorem j_non {j} : J X T W (.Constant .none j pos) (eC .non) := j_c pe_non fun _ _ => rfl
theorem j_str {i j} : J X T W (.Constant (.str i) j pos) (eC (.str i)) := j_c pe_str fun _ _ => rfl
theorem j_un {op : UnaryOp} {o : O1} (hr : UnR X (unaryOp op) (r1 X.K T o)) (ha : J X T W a fa) : J X T W (.UnaryOp op a pos) (e1 o fa) := pe_weak (pe_un hr ha) fun s H Q ⟨e, st, m, he, ok, h⟩ =>
  ⟨e, st, m, he, ok, h.bind fun dx x st1 H1 m1 _ l1 p1 ok1 rx h1 => ⟨dx, st1, m1, rx, ok1, den_of h1⟩⟩
theorem bin_weak {f : R2} {o : O2} (hf : f = r2 X.K T o) {s : L2.St} {H : Hp} {Q : VK} (h : tE X.K T X.mg W (e2 o fa fb) s H Q) : tOp f (tE X.K T X.mg W fa) (tE X.K T X.mg W fb) s H Q := by
  subst hf
  obtain ⟨e, st, m, he, ok, h⟩ := h
  refine ⟨e, st, m, he, ok, h.bind fun dx x st1 H1 m1 _ l1 p1 ok1 rx h1 => ?_⟩
  refine ⟨e, st1, m1, he.mono l1 p1, ok1, h1.bind fun dy y st2 H2 m2 _ l2 p2 ok2 ry h2 => ?_⟩
  exact ⟨dx, dy, st2, m2, rx.mono l2 p2, ry, ok2, den_of h2⟩
theorem j_bin {op : Operator} {o : O2} (hr : OpR X (binaryOp op) (r2 X.K T o)) (ha : J X T W a fa) (hb : J X T W b fb) : J X T W (.BinOp a op b pos) (e2 o fa fb) := pe_weak (pe_op hr ha hb) fun s H Q => bin_weak rfl
theorem j_cmp {op : CmpOp} {o : O2} (hr : OpR X (compareOp op) (r2 X.K T o)) (ha : J X T W a fa) (hb : J X T W b fb) (hm : behindInMarks op b = false) : J X T W (.Compare a [op] [b] pos) (e2 o fa fb) := pe_weak (pe_cmpR hr ha hb hm) fun s H Q => bin_weak rfl
theorem j_ix {o : O2} (hr : IxR X (r2 X.K T o)) (ha : J X T W a fa) (hb : J X T W b fb) (hs : PlainIx b) : J X T W (.Subscript a b pos) (e2 o fa fb) := pe_weak (pe_ix hr ha hb hs) fun s H Q => bin_weak rfl
theorem j_chain {op op' : CmpOp} {o o' : O2} (hr : OpR X (compareOp op) (r2 X.K T o)) (hr' : OpR X (compareOp op') (r2 X.K T o')) (ha : J X T W a fa) (hb : J X T W b fb) (hc : J X T W c fc) (hm : lastMarks [op, op'] [b, c] = false := by rfl) :
    J X T W (.Compare a [op, op'] [b, c] pos) (eCh o o' fa fb fc) := pe_weak (pe_chain hr hr' ha hb hc hm) fun s H Q h => by
  obtain ⟨e, st, m, he, ok, h⟩ := h
  refine ⟨e, st, m, he, ok, h.bind fun dx x st1 H1 m1 _ l1 p1 ok1 rx h1 => ?_⟩
  refine ⟨e, st1, m1, he.mono l1 p1, ok1, h1.bind fun dy y st2 H2 m2 _ l2 p2 ok2 ry h2 => ?_⟩
  refine ⟨dx, dy, st2, m2, rx.mono l2 p2, ry, ok2, den_of (mg := X.mg) (W := W) (s := s) (h2.bind fun dz z st3 H3 m3 _ l3 p3 ok3 rz h3 => ?_)⟩
  cases dz with
  | bl k =>
    refine ⟨k, rz, ?_⟩
    cases k with
    | true =>
      rw [if_pos rfl]
      refine ⟨e, st3, m3, ((he.mono l1 p1).mono l2 p2).mono l3 p3, ok3, h3.bind fun dw w st4 H4 m4 _ l4 p4 ok4 rw' h4 => ?_⟩
      exact ⟨dy, dw, st4, m4, (ry.mono l3 p3).mono l4 p4, rw', ok4, den_of h4⟩
    | false =>
      rw [if_neg Bool.false_ne_true]
      exact h3 _ H3 m3 (.refl H3) (.refl m3) ok3 rfl
  | non => exact False.elim h3
  | int _ => exact False.elim h3
  | str _ => exact False.elim h3
  | tup _ => exact False.elim h3
  | ref _ => exact False.elim h3
end
end Mm

namespace Mm
open PySem L2
section
variable {X : Cx} {T : List (Addr × Str)} {W : WX} {a b c : Expr} {fa fb fc : EX} {pos : Pos} {es : List Expr} {fr : AX}
/-! arguments -/
theorem ja_nil : JA X T W [] aN := ⟨pa_weak pa_nil fun s H Q ⟨e, st, m, he, ok, h⟩ => h [] H m (.refl H) (.refl m) ok rfl, fun e st ds st' h => by cases h; rfl⟩
theorem ja_cons (ha : J X T W a fa) (hr : JA X T W es fr) (hs : starEach (a :: es) X.env = (false, eval a X.env) :: starEach es X.env := by rfl) : JA X T W (a :: es) (aC fa fr) := by
  refine ⟨pa_weak (pa_cons ha hr.pa hs) fun s H Q ⟨e, st, m, he, ok, h⟩ => ?_, fun e st ds st' h => ?_⟩
  · refine ⟨e, st, m, he, ok, h.bind fun dx x st1 H1 m1 _ l1 p1 ok1 rx h1 => ?_⟩
    refine ⟨e, st1, m1, he.mono l1 p1, ok1, h1.bind fun ds xs st2 H2 m2 _ l2 p2 ok2 rs h2 => ?_⟩
    exact h2 (x :: xs) H2 m2 (.refl H2) (.refl m2) ok2 ⟨x, xs, rfl, rx.mono l2 p2, rs⟩
  · unfold aC at h
    cases h1 : fa e st with
    | no => rw [h1] at h; cases h
    | ex x st1 => rw [h1] at h; cases h
    | ok x st1 =>
      rw [h1] at h
      have h : (fr e st1).bind (fun xs st2 => R.ok (x :: xs) st2) = .ok ds st' := h
      cases h2 : fr e st1 with
      | no => rw [h2] at h; cases h
      | ex x st1 => rw [h2] at h; cases h
      | ok xs st2 =>
        rw [h2] at h
        cases h
        simp [hr.len e st1 xs _ h2]
theorem Den.len {K : PySem.W.Frag} {mg : Str → Option Value} {s : L2.St} {H : Hp} {m : List Addr} {e : Env} {st : Sto} (hr : JA X T W es fr) {Q : List V → Hp → Prop}
    {x : List D} {y : List V} {H1 : Hp} {m1 : List Addr} {st1 : Sto} (h : fr e st = .ok x st1) (r : Reps K H1 m1 x y) : y.length = es.length := by
  rw [← r.length]; exact hr.len _ _ _ _ h
theorem j_tup {k : Nat} (hr : JA X T W es fr) (hl : es.length ≤ lim := by decide) : J X T W (.Tuple es k pos) (eTup fr) := pe_weak (pe_tup hr.pa) fun s H Q ⟨e, st, m, he, ok, h⟩ =>
  ⟨e, st, m, he, ok, h.bind fun ds xs st1 H1 m1 hf l1 p1 ok1 rs h1 => by
    have hn : xs.length = es.length := by rw [← Reps.length rs]; exact hr.len _ _ _ _ hf
    refine ⟨lim_le (by rw [hn]; exact hl), fun p hp => ?_⟩
    exact h1 _ _ m1 (Le.new hp) (.refl m1) (ok1.new hp) ⟨p, xs, rfl, .of upd_same, Reps.mono (Le.new hp) (.refl m1) rs⟩⟩
theorem j_lst (hr : JA X T W es fr) (hl : es.length ≤ lim := by decide) : J X T W (.List es pos) (eLst fr) := pe_weak (pe_lst hr.pa) fun s H Q ⟨e, st, m, he, ok, h⟩ =>
  ⟨e, st, m, he, ok, h.bind fun ds xs st1 H1 m1 hf l1 p1 ok1 rs h1 => by
    have hn : xs.length = es.length := by rw [← Reps.length rs]; exact hr.len _ _ _ _ hf
    refine ⟨lim_le (by rw [hn]; exact hl), fun p hp => ?_⟩
    exact h1 _ _ (m1 ++ [p]) (Le.new hp) (.add m1 p) (ok1.newCell hp rs) ⟨p, by rw [← ok1.len]; simp, rfl⟩⟩
/-! tests, and, or, not -/
variable {ba bb : BX}
theorem jt_val (ha : J X T W a fa) (he : ∀ whole, isTrue a X.env whole = (do let v ← whole; standAt a.pos; holding [v] (truthy v)) := by intro _; rfl) : JT X T W a (bB fa) := pt_weak (pt_val ha he) fun s H Q ⟨e, st, m, he, ok, h⟩ =>
  ⟨e, st, m, he, ok, h.bind fun dx x st1 H1 m1 _ l1 p1 ok1 rx h1 => by
    cases dx with
    | bl k => exact ⟨k, rx, h1 k H1 m1 (.refl H1) (.refl m1) ok1 rfl⟩
    | non | int _ | str _ | tup _ | ref _ => exact False.elim h1⟩
theorem tru_ok {K : PySem.W.Frag} {H : Hp} {m : List Addr} {st : Sto} {d : D} {x : V} {k : Bool} (ok : Ok K T H m st) (r : Rep K H m d x) (h : tru st d = some k) : TruV K x H k := by
  cases d with
  | non => cases r; cases h; rfl
  | bl b => cases r; cases h; rfl
  | int i => cases r; cases h; rfl
  | str z => cases h
  | tup xs =>
    obtain ⟨a, vs, rfl, hs, hr⟩ := r
    cases h
    refine .inr (.inl ⟨vs, hs, ?_⟩)
    have e := Reps.length hr
    cases xs <;> cases vs <;> simp_all
  | ref i =>
    obtain ⟨a, hm, rfl⟩ := r
    unfold tru at h
    cases hc : st[i]? with
    | none => simp [hc] at h
    | some c =>
      obtain ⟨a', h1, h2⟩ := ok.cell i c hc
      rw [hm] at h1; cases h1
      obtain ⟨ds, vs, hcs, hl, hr⟩ := h2.list
      have e := Reps.length hr
      refine .inl ⟨vs, hl, ?_⟩
      have hk : k = !ds.isEmpty := by
        rcases hcs with rfl | rfl <;> simp only [hc, Option.some.injEq] at h <;> exact h.symm
      rw [hk]
      cases ds <;> cases vs <;> simp_all
theorem jt_tru (ha : J X T W a fa) (he : ∀ whole, isTrue a X.env whole = (do let v ← whole; standAt a.pos; holding [v] (truthy v)) := by intro _; rfl) : JT X T W a (bTru fa) := pt_weak (pt_truth ha he) fun s H Q ⟨e, st, m, he, ok, h⟩ =>
  ⟨e, st, m, he, ok, h.bind fun dx x st1 H1 m1 _ l1 p1 ok1 rx h1 => by
    cases hk : tru st1 dx with
    | none => rw [hk] at h1; exact False.elim h1
    | some k =>
      rw [hk] at h1
      exact ⟨k, tru_ok ok1 rx hk, h1 k H1 m1 (.refl H1) (.refl m1) ok1 rfl⟩⟩
theorem test_weak {f : TE} {s : L2.St} {H : Hp} {Q : Bool → Hp → Prop} {o : EX} (k : ∀ s H Q, tE X.K T X.mg W o s H Q → f s H Q) (h : tT X.K T X.mg W (bB o) s H Q) : tTest f s H Q := by
  refine k _ _ _ ?_
  obtain ⟨e, st, m, he, ok, h⟩ := h
  exact ⟨e, st, m, he, ok, h.bind fun dx x st1 H1 m1 _ l1 p1 ok1 rx h1 => by
    cases dx with
    | bl k => exact ⟨k, rx, h1 k H1 m1 (.refl H1) (.refl m1) ok1 rfl⟩
    | non | int _ | str _ | tup _ | ref _ => exact False.elim h1⟩
theorem jt_cmp {op : CmpOp} {o : O2} (hr : OpR X (compareOp op) (r2 X.K T o)) (ha : J X T W a fa) (hb : J X T W b fb) (hm : behindInMarks op b = false) : JT X T W (.Compare a [op] [b] pos) (bB (e2 o fa fb)) :=
  pt_weak (pt_cmpR hr ha hb hm) fun s H Q => test_weak fun s H Q => bin_weak rfl
theorem chain_weak {op op' : CmpOp} {o o' : O2} {s : L2.St} {H : Hp} {Q : VK} (h : tE X.K T X.mg W (eCh o o' fa fb fc) s H Q) : tChain (r2 X.K T o) (r2 X.K T o') (tE X.K T X.mg W fa) (tE X.K T X.mg W fb) (tE X.K T X.mg W fc) s H Q := by
  obtain ⟨e, st, m, he, ok, h⟩ := h
  refine ⟨e, st, m, he, ok, h.bind fun dx x st1 H1 m1 _ l1 p1 ok1 rx h1 => ?_⟩
  refine ⟨e, st1, m1, he.mono l1 p1, ok1, h1.bind fun dy y st2 H2 m2 _ l2 p2 ok2 ry h2 => ?_⟩
  refine ⟨dx, dy, st2, m2, rx.mono l2 p2, ry, ok2, den_of (mg := X.mg) (W := W) (s := s) (h2.bind fun dz z st3 H3 m3 _ l3 p3 ok3 rz h3 => ?_)⟩
  cases dz with
  | bl k =>
    refine ⟨k, rz, ?_⟩
    cases k with
    | true =>
      rw [if_pos rfl]
      refine ⟨e, st3, m3, ((he.mono l1 p1).mono l2 p2).mono l3 p3, ok3, h3.bind fun dw w st4 H4 m4 _ l4 p4 ok4 rw' h4 => ?_⟩
      exact ⟨dy, dw, st4, m4, (ry.mono l3 p3).mono l4 p4, rw', ok4, den_of h4⟩
    | false =>
      rw [if_neg Bool.false_ne_true]
      exact h3 _ H3 m3 (.refl H3) (.refl m3) ok3 rfl
  | non | int _ | str _ | tup _ | ref _ => exact False.elim h3
theorem jt_chain {op op' : CmpOp} {o o' : O2} (hr : OpR X (compareOp op) (r2 X.K T o)) (hr' : OpR X (compareOp op') (r2 X.K T o')) (ha : J X T W a fa) (hb : J X T W b fb) (hc : J X T W c fc) (hm : lastMarks [op, op'] [b, c] = false := by rfl) :
    JT X T W (.Compare a [op, op'] [b, c] pos) (bB (eCh o o' fa fb fc)) := pt_weak (pt_chain hr hr' ha hb hc hm) fun s H Q => test_weak fun s H Q => chain_weak (op := op) (op' := op')
abbrev JW (X : Cx) (T : List (Addr × Str)) (W : WX) (ex : Expr) (f : BX) : Prop := PW X ex (tT X.K T X.mg W f)
theorem pw_weak {u u' : TT} {ex : Expr} (h : PW X ex u) (k : ∀ s H Q, u' s H Q → u s H Q) : PW X ex u' := ⟨fun wh pins s σ H Q I hw => h.run wh pins s σ H Q I (k σ H Q hw)⟩
theorem jw_and1 (ha : JT X T W a ba) : JW X T W (.BoolOp .And [a] pos) ba := pw_and1 ha
theorem jw_or1 (ha : JT X T W a ba) : JW X T W (.BoolOp .Or [a] pos) ba := pw_or1 ha
theorem jw_and {rest : List Expr} (ha : JT X T W a ba) (hb : JW X T W (.BoolOp .And (b :: rest) pos) bb) : JW X T W (.BoolOp .And (a :: b :: rest) pos) (bAnd ba bb) := pw_weak (pw_and ha hb) fun s H Q ⟨e, st, m, he, ok, h⟩ =>
  ⟨e, st, m, he, ok, h.bind fun x y st1 H1 m1 _ l1 p1 ok1 rx h1 => by
    cases rx
    cases x with
    | true => exact ⟨e, st1, m1, he.mono l1 p1, ok1, h1⟩
    | false => exact h1 false H1 m1 (.refl H1) (.refl m1) ok1 rfl⟩
theorem jw_or {rest : List Expr} (ha : JT X T W a ba) (hb : JW X T W (.BoolOp .Or (b :: rest) pos) bb) : JW X T W (.BoolOp .Or (a :: b :: rest) pos) (bOr ba bb) := pw_weak (pw_or ha hb) fun s H Q ⟨e, st, m, he, ok, h⟩ =>
  ⟨e, st, m, he, ok, h.bind fun x y st1 H1 m1 _ l1 p1 ok1 rx h1 => by
    cases rx
    cases x with
    | true => exact h1 true H1 m1 (.refl H1) (.refl m1) ok1 rfl
    | false => exact ⟨e, st1, m1, he.mono l1 p1, ok1, h1⟩⟩
theorem jt_w (h : JW X T W a ba) : JT X T W a ba := h.pt
theorem jt_not (ha : JT X T W a ba) : JT X T W (.UnaryOp .Not a pos) (bNot ba) := pt_weak (pt_not ha) fun s H Q ⟨e, st, m, he, ok, h⟩ =>
  ⟨e, st, m, he, ok, h.bind fun x y st1 H1 m1 _ l1 p1 ok1 rx h1 => by
    cases rx
    exact h1 (!x) H1 m1 (.refl H1) (.refl m1) ok1 rfl⟩
/-- and, or, not as values -/
theorem j_one {op : BoolOp} (ha : J X T W a fa) : J X T W (.BoolOp op [a] pos) fa := pe_one ha
def eAndT (a b : EX) : EX := fun e st => (a e st).bind fun x st1 => match tru st1 x with
  | some true => b e st1
  | some false => .ok x st1
  | none => .no
def eOrT (a b : EX) : EX := fun e st => (a e st).bind fun x st1 => match tru st1 x with
  | some true => .ok x st1
  | some false => b e st1
  | none => .no
def eNotT (a : EX) : EX := fun e st => (a e st).bind fun x st1 => match tru st1 x with
  | some k => .ok (.bl (!k)) st1
  | none => .no
theorem j_and {rest : List Expr} (ha : J X T W a fa) (hb : J X T W (.BoolOp .And (b :: rest) pos) fb) : J X T W (.BoolOp .And (a :: b :: rest) pos) (eAndT fa fb) := pe_weak (pe_andT ha hb) fun s H Q ⟨e, st, m, he, ok, h⟩ =>
  ⟨e, st, m, he, ok, h.bind fun dx x st1 H1 m1 _ l1 p1 ok1 rx h1 => by
    cases hk : tru st1 dx with
    | none => rw [hk] at h1; exact False.elim h1
    | some k =>
      rw [hk] at h1
      refine ⟨k, tru_ok ok1 rx hk, ?_⟩
      cases k with
      | true => exact ⟨e, st1, m1, he.mono l1 p1, ok1, h1⟩
      | false => exact h1 x H1 m1 (.refl H1) (.refl m1) ok1 rx⟩
theorem j_or {rest : List Expr} (ha : J X T W a fa) (hb : J X T W (.BoolOp .Or (b :: rest) pos) fb) : J X T W (.BoolOp .Or (a :: b :: rest) pos) (eOrT fa fb) := pe_weak (pe_orT ha hb) fun s H Q ⟨e, st, m, he, ok, h⟩ =>
  ⟨e, st, m, he, ok, h.bind fun dx x st1 H1 m1 _ l1 p1 ok1 rx h1 => by
    cases hk : tru st1 dx with
    | none => rw [hk] at h1; exact False.elim h1
    | some k =>
      rw [hk] at h1
      refine ⟨k, tru_ok ok1 rx hk, ?_⟩
      cases k with
      | true => exact h1 x H1 m1 (.refl H1) (.refl m1) ok1 rx
      | false => exact ⟨e, st1, m1, he.mono l1 p1, ok1, h1⟩⟩
theorem j_not (ha : J X T W a fa) : J X T W (.UnaryOp .Not a pos) (eNotT fa) := pe_weak (pe_notT ha) fun s H Q ⟨e, st, m, he, ok, h⟩ =>
  ⟨e, st, m, he, ok, h.bind fun dx x st1 H1 m1 _ l1 p1 ok1 rx h1 => by
    cases hk : tru st1 dx with
    | none => rw [hk] at h1; exact False.elim h1
    | some k =>
      rw [hk] at h1
      exact ⟨k, tru_ok ok1 rx hk, h1 _ H1 m1 (.refl H1) (.refl m1) ok1 rfl⟩⟩
theorem j_if (hc : JT X T W c ba) (ha : J X T W a fa) (hb : J X T W b fb) : J X T W (.IfExp c a b pos) (eIf ba fa fb) := pe_weak (pe_ifExp hc ha hb) fun s H Q ⟨e, st, m, he, ok, h⟩ =>
  ⟨e, st, m, he, ok, h.bind fun x y st1 H1 m1 _ l1 p1 ok1 rx h1 => by
    cases rx
    cases x with
    | true => exact ⟨e, st1, m1, he.mono l1 p1, ok1, h1⟩
    | false => exact ⟨e, st1, m1, he.mono l1 p1, ok1, h1⟩⟩
end

/-! ### statements -/
def sNx : SX := fun e st => .nx e st
def sSeq (f g : SX) : SX := fun e st => match f e st with
  | .nx e1 st1 => g e1 st1
  | r => r
def R.st (e : Env) (r : R D) (k : D → Sto → RS) : RS := match r with
  | .ok d st => k d st
  | .ex x st => .exc x e st
  | .no => .no
def sSet (i : Nat) (f : EX) : SX := fun e st => (f e st).st e fun d st1 => .nx (e.set i (some d)) st1
def sEx (f : EX) : SX := fun e st => (f e st).st e fun _ st1 => .nx e st1
def sRet (f : EX) : SX := fun e st => (f e st).st e fun d st1 => .ret d st1
def sRetN : SX := fun _ st => .ret .non st
def sBrk : SX := fun e st => .brk e st
def sCt : SX := fun e st => .ct e st
def sNo : SX := fun _ _ => .no
def sIf (c : BX) (f g : SX) : SX := fun e st => match c e st with
  | .ok true st1 => f e st1
  | .ok false st1 => g e st1
  | .ex x st1 => .exc x e st1
  | .no => .no
section
variable {X : Cx} {T : List (Addr × Str)} {W : WX} {a b c : Expr} {fa fb fc : EX} {pos : Pos} {es : List Expr} {fr : AX} {ba : BX} {sm : Stmt} {l1 l2 : List Stmt} {f g : SX}
theorem DenS.mono {K : PySem.W.Frag} {mg : Str → Option Value} {H H' : Hp} {m m' : List Addr} {r : RS} {F : Ends} (h : DenS K T mg W H m r F) (l : Le H H') (p : Pre m m') : DenS K T mg W H' m' r F := by
  cases r with
  | no => exact h
  | nx e st => exact fun s' H2 m2 l2 p2 => h s' H2 m2 (l.trans l2) (p.trans p2)
  | ct e st => exact fun s' H2 m2 l2 p2 => h s' H2 m2 (l.trans l2) (p.trans p2)
  | brk e st => exact fun s' H2 m2 l2 p2 => h s' H2 m2 (l.trans l2) (p.trans p2)
  | ret d st => exact fun s' H2 m2 l2 p2 => h s' H2 m2 (l.trans l2) (p.trans p2)
  | exc x e st => exact fun cls dd s' H2 m2 l2 p2 => h cls dd s' H2 m2 (l.trans l2) (p.trans p2)
/-- an expression, then what the statement does with its value -/
theorem st_of {K : PySem.W.Frag} {mg : Str → Option Value} {s : L2.St} {H : Hp} {m : List Addr} {e : Env} {r : R D} {k : D → Sto → RS} {F : Ends} {Q : VK} (he : EnvOk K H m s e) (h : DenS K T mg W H m (r.st e k) F)
    (q : ∀ x y st1 H1 m1, r = .ok x st1 → Le H H1 → Pre m m1 → Ok K T H1 m1 st1 → Rep K H1 m1 x y → DenS K T mg W H1 m1 (k x st1) F → Q y H1) : Den K T mg W (RD K) s H m r Q := by
  cases r with
  | no => exact h
  | ok x st1 => exact fun y H1 m1 l p ok rx => q x y st1 H1 m1 rfl l p ok rx (DenS.mono h l p)
  | ex x st1 => exact fun cls dd H1 m1 l p ok xr => h cls dd s H1 m1 l p ok (he.mono l p) xr
theorem js_nil : JB X T W [] sNx := pss_weak pss_nil fun F s H ⟨e, st, m, he, ok, h⟩ => h s H m (.refl H) (.refl m) ok he
theorem seq_den {K : PySem.W.Frag} {mg : Str → Option Value} {H : Hp} {m : List Addr} {r : RS} {k : Env → Sto → RS} {F : Ends} (h : DenS K T mg W H m (match r with | .nx e1 st1 => k e1 st1 | r => r) F) :
    DenS K T mg W H m r { F with nx := fun s' H' => ∃ e1 st1 m', EnvOk K H' m' s' e1 ∧ Ok K T H' m' st1 ∧ DenS K T mg W H' m' (k e1 st1) F } := by
  cases r with
  | no => exact h
  | nx e st => exact fun s' H2 m2 l2 p2 ok2 he2 => ⟨e, st, m2, he2, ok2, DenS.mono h l2 p2⟩
  | ct e st => exact h
  | brk e st => exact h
  | ret d st => exact h
  | exc x e st => exact h
theorem js_cons (h1 : JS X T W sm f) (h2 : JB X T W l1 g) : JB X T W (sm :: l1) (sSeq f g) := pss_weak (pss_cons h1 h2) fun F s H ⟨e, st, m, he, ok, h⟩ => ⟨e, st, m, he, ok, seq_den h⟩
theorem js_one (h1 : JS X T W sm f) : JB X T W [sm] f := pss_one h1
theorem js_pass : JS X T W (.Pass pos) sNx := ps_weak ps_pass fun F s H ⟨e, st, m, he, ok, h⟩ => h s H m (.refl H) (.refl m) ok he
theorem js_brk : JS X T W (.Break pos) sBrk := ps_weak ps_break fun F s H ⟨e, st, m, he, ok, h⟩ => h s H m (.refl H) (.refl m) ok he
theorem js_ct : JS X T W (.Continue pos) sCt := ps_weak ps_continue fun F s H ⟨e, st, m, he, ok, h⟩ => h s H m (.refl H) (.refl m) ok he
theorem js_no : JS X T W sm sNo := ps_weak ps_never fun F s H ⟨e, st, m, he, ok, h⟩ => h
theorem jb_no : JB X T W l1 sNo := pss_weak pss_never fun F s H ⟨e, st, m, he, ok, h⟩ => h
theorem js_ex (ha : J X T W a fa) (hs : swapsWith a none pos.line X.env = pure false := by rfl) : JS X T W (.Expr a pos) (sEx fa) := ps_weak (ps_expr ha hs) fun F s H ⟨e, st, m, he, ok, h⟩ =>
  ⟨e, st, m, he, ok, st_of he h fun x y st1 H1 m1 _ l p ok1 rx h1 => h1 s H1 m1 (.refl H1) (.refl m1) ok1 (he.mono l p)⟩
theorem js_doc {x j pos'} : JS X T W (.Expr (.Constant (.str x) j pos) pos') sNx := ps_weak ps_doc fun F s H ⟨e, st, m, he, ok, h⟩ => h s H m (.refl H) (.refl m) ok he
theorem js_ret (ha : J X T W a fa) : JS X T W (.Return (some a) pos) (sRet fa) := ps_weak (ps_ret ha) fun F s H ⟨e, st, m, he, ok, h⟩ =>
  ⟨e, st, m, he, ok, st_of he h fun x y st1 H1 m1 _ l p ok1 rx h1 => h1 y H1 m1 (.refl H1) (.refl m1) ok1 rx⟩
theorem js_retN : JS X T W (.Return none pos) sRetN := ps_weak ps_retN fun F s H ⟨e, st, m, he, ok, h⟩ => h .non H m (.refl H) (.refl m) ok rfl
theorem js_if (hc : JT X T W c ba) (ha : JB X T W l1 f) (hb : JB X T W l2 g) : JS X T W (.If c l1 l2 pos) (sIf ba f g) := ps_weak (ps_if hc ha hb) fun F s H ⟨e, st, m, he, ok, h⟩ => by
  refine ⟨e, st, m, he, ok, ?_⟩
  unfold sIf at h
  revert h
  generalize ba e st = r
  intro h
  cases r with
  | no => exact h
  | ex x st1 => exact fun cls dd H1 m1 l p ok1 xr => h cls dd s H1 m1 l p ok1 (he.mono l p) xr
  | ok x st1 =>
    intro y H1 m1 l p ok1 rx
    cases rx
    cases x with
    | true => exact ⟨e, st1, m1, he.mono l p, ok1, DenS.mono h l p⟩
    | false => exact ⟨e, st1, m1, he.mono l p, ok1, DenS.mono h l p⟩
theorem js_set {i : Nat} {x : Str} {p' : Pos} (hN : X.N.Nodup) (hi : X.N[i]? = some x) (hx : Loc X.env.scope x) (ha : J X T W a fa) (hs : swapsWith a (some (.Name x p')) pos.line X.env = pure false := by rfl)
    (hf : X.fn x = true ∨ X.env.scope.names.lookup x = some .local := by first | exact .inl rfl | exact .inr rfl | assumption) : JS X T W (.Assign [.Name x p'] a pos) (sSet i fa) :=
  ps_weak (ps_set hN hi hx ha hs hf) fun F s H ⟨e, st, m, he, ok, h⟩ =>
    ⟨e, st, m, he, ok, st_of he h fun x y st1 H1 m1 _ l p ok1 rx h1 => h1 _ H1 m1 (.refl H1) (.refl m1) ok1 ((he.mono l p).set i rx)⟩
end
end Mm

namespace Mm
open PySem L2
/-! ### targets -/
abbrev TX := D → Env → Option Env
/-- all slots but those at ts are as they were -/
def But (ts : List Nat) (s s' : L2.St) : Prop := s'.length = s.length ∧ ∀ j, j ∉ ts → s'[j]? = s[j]?
theorem But.refl (ts : List Nat) (s : L2.St) : But ts s s := ⟨rfl, fun _ _ => rfl⟩
theorem But.trans {ts us : List Nat} {s s1 s2 : L2.St} (a : But ts s s1) (b : But us s1 s2) : But (ts ++ us) s s2 :=
  ⟨b.1.trans a.1, fun j h => by rw [b.2 j (fun z => h (List.mem_append_right _ z)), a.2 j (fun z => h (List.mem_append_left _ z))]⟩
theorem But.set (i : Nat) (s : L2.St) (v : Option V) : But [i] s (s.set i v) := ⟨by simp, fun j h => List.getElem?_set_ne fun z => h (by simp [z])⟩
theorem But.wipe {ts vs : List Nat} {s s' : L2.St} (b : But ts s s') (h : ∀ i ∈ ts, i ∈ vs) : L2.wipe s' vs = L2.wipe s vs := by
  refine List.ext_getElem? fun i => ?_
  have one : ∀ (x : L2.St) (us : List Nat), i ∈ us → i < x.length → (L2.wipe x us)[i]? = some none := by
    intro x us
    induction us with
    | nil => intro h; cases h
    | cons u us ih =>
      intro hm hl
      unfold L2.wipe
      by_cases hu : u = i
      · subst hu
        exact List.getElem?_set_self (by rw [L2.wipe_length]; exact hl)
      · rw [List.getElem?_set_ne hu]
        exact ih ((List.mem_cons.mp hm).resolve_left fun z => hu z.symm) hl
  by_cases hi : i ∈ vs
  · by_cases hl : i < s.length
    · rw [one s vs hi hl, one s' vs hi (by rw [b.1]; exact hl)]
    · rw [List.getElem?_eq_none (by rw [L2.wipe_length, b.1]; omega), List.getElem?_eq_none (by rw [L2.wipe_length]; omega)]
  · rw [L2.wipe_out hi, L2.wipe_out hi]
    exact b.2 i fun z => hi (h i z)
def gT (K : PySem.W.Frag) (T : List (Addr × Str)) (ts : List Nat) (f : TX) : TG := fun v s H Q => ∃ d e st m, Rep K H m d v ∧ EnvOk K H m s e ∧ Ok K T H m st ∧ ∃ e', f d e = some e' ∧ ∀ s', EnvOk K H m s' e' → But ts s s' → Q s' H
def gTs (K : PySem.W.Frag) (T : List (Addr × Str)) (ts : List Nat) (f : List D → Env → Option Env) : TGs := fun vs s H Q => ∃ ds e st m, Reps K H m ds vs ∧ EnvOk K H m s e ∧ Ok K T H m st ∧ ∃ e', f ds e = some e' ∧ ∀ s', EnvOk K H m s' e' → But ts s s' → Q s' H
def tgN (i : Nat) : TX := fun d e => some (e.set i (some d))
def tgNil : List D → Env → Option Env := fun ds e => match ds with
  | [] => some e
  | _ => none
def tgCons (f : TX) (g : List D → Env → Option Env) : List D → Env → Option Env := fun ds e => match ds with
  | d :: r => (f d e).bind fun e1 => g r e1
  | [] => none
def tgTup (g : List D → Env → Option Env) : TX := fun d e => match d with
  | .tup ds => g ds e
  | _ => none
theorem pg_weak {X : Cx} {t : Expr} {g g' : TG} (h : PG X t g) (k : ∀ v s H Q, g' v s H Q → g v s H Q) : PG X t g' := ⟨fun pins s σ H v u Q I r hw => h.run pins s σ H v u Q I r (k v σ H Q hw)⟩
theorem pgs_weak {X : Cx} {t : List Expr} {g g' : TGs} (h : PGs X t g) (k : ∀ v s H Q, g' v s H Q → g v s H Q) : PGs X t g' := ⟨fun pins s σ H v u Q I r hw => h.run pins s σ H v u Q I r (k v σ H Q hw)⟩
abbrev JG (X : Cx) (T : List (Addr × Str)) (us : List Nat) (t : Expr) (f : TX) : Prop := PG X t (gT X.K T us f)
structure JGs (X : Cx) (T : List (Addr × Str)) (us : List Nat) (ts : List Expr) (f : List D → Env → Option Env) : Prop where
  pg : PGs X ts (gTs X.K T us f)
  len : ∀ ds e e', f ds e = some e' → ds.length = ts.length
section
variable {X : Cx} {T : List (Addr × Str)} {W : WX} {pos : Pos} {t : Expr} {ts : List Expr} {f : TX} {g : List D → Env → Option Env}
theorem jg_name {i : Nat} {x : Str} (hN : X.N.Nodup) (hi : X.N[i]? = some x) (hx : Loc X.env.scope x) (hf : X.fn x = true ∨ X.env.scope.names.lookup x = some .local := by first | exact .inl rfl | exact .inr rfl | assumption) : JG X T [i] (.Name x pos) (tgN i) :=
  pg_weak (pg_name hN hi hx hf) fun v s H Q ⟨d, e, st, m, rd, he, ok, e', h1, h2⟩ => by
    cases h1
    exact h2 _ (he.set i rd) (.set i s _)
theorem jgs_nil : JGs X T [] [] tgNil := by
  refine ⟨pgs_weak pgs_nil fun vs s H Q ⟨ds, e, st, m, rd, he, ok, e', h1, h2⟩ => ?_, fun ds e e' h => ?_⟩
  · cases ds with
    | nil => cases h1; cases rd; exact ⟨rfl, h2 s he (.refl _ s)⟩
    | cons d r => cases h1
  · cases ds with
    | nil => rfl
    | cons d r => cases h
theorem jgs_cons {u1 u2 : List Nat} (h1 : JG X T u1 t f) (h2 : JGs X T u2 ts g) (hs : (assignEach (t :: ts) X.env).map (·.2) = assign t X.env :: (assignEach ts X.env).map (·.2) := by rfl) : JGs X T (u1 ++ u2) (t :: ts) (tgCons f g) := by
  refine ⟨pgs_weak (pgs_cons h1 h2.pg hs) fun vs s H Q ⟨ds, e, st, m, rd, he, ok, e', q1, q2⟩ => ?_, fun ds e e' h => ?_⟩
  · cases ds with
    | nil => cases q1
    | cons d r =>
      obtain ⟨v, vr, rfl, rv, rr⟩ := rd
      unfold tgCons at q1
      cases hf : f d e with
      | none => simp [hf] at q1
      | some e1 =>
        simp [hf] at q1
        exact ⟨v, vr, rfl, d, e, st, m, rv, he, ok, e1, hf, fun s' he' b1 => ⟨r, e1, st, m, rr, he', ok, e', q1, fun s2 he2 b2 => q2 s2 he2 (b1.trans b2)⟩⟩
  · cases ds with
    | nil => cases h
    | cons d r =>
      unfold tgCons at h
      cases hf : f d e with
      | none => simp [hf] at h
      | some e1 =>
        simp [hf] at h
        simp [h2.len r e1 e' h]
theorem jg_tup {u1 : List Nat} {k : Nat} {n : Nat} (hc : X.calm = true) (h : JGs X T u1 ts g) (hn : (assignEach ts X.env).length = n := by rfl) (hst : (assignEach ts X.env).findIdx? (·.1) = none := by rfl) (hl : ts.length = n := by rfl) : JG X T u1 (.Tuple ts k pos) (tgTup g) :=
  pg_weak (pg_tup hc h.pg hn hst) fun v s H Q ⟨d, e, st, m, rd, he, ok, e', h1, h2⟩ => by
    cases d with
    | tup ds =>
      obtain ⟨a, vs, rfl, hs, hr⟩ := rd
      have e1 := Reps.length hr
      have e2 := h.len ds e e' h1
      exact ⟨a, vs, rfl, hs, by rw [← e1, e2, hl], ds, e, st, m, hr, he, ok, e', h1, h2⟩
    | non | int _ | str _ | bl _ | ref _ => cases h1
end
def sAsg (f : EX) (t : TX) : SX := fun e st => (f e st).st e fun d st1 => match t d e with
  | some e1 => .nx e1 st1
  | none => .no
section
variable {X : Cx} {T : List (Addr × Str)} {W : WX} {a b c : Expr} {fa fb fc : EX} {pos : Pos} {es : List Expr} {fr : AX} {ba : BX} {t : Expr} {f : TX} {sb : SX} {body : List Stmt}
theorem js_asg {us : List Nat} (ha : J X T W a fa) (hg : JG X T us t f) (hs : swapsWithSole [t] a pos.line X.env = pure false := by rfl) (hw : swappedStores [t] a X.env = pure none := by rfl)
    (h1 : (assignEach [t] X.env).map (·.2) = [assign t X.env] := by rfl) : JS X T W (.Assign [t] a pos) (sAsg fa f) := ps_weak (ps_asg ha hg hs hw h1) fun F s H ⟨e, st, m, he, ok, h⟩ =>
  ⟨e, st, m, he, ok, st_of he h fun x y st1 H1 m1 _ l p ok1 rx h1 => by
    cases hf : f x e with
    | none => rw [hf] at h1; exact False.elim h1
    | some e1 =>
      rw [hf] at h1
      exact ⟨x, e, st1, m1, rx, he.mono l p, ok1, e1, hf, fun s' he' _ => h1 s' H1 m1 (.refl H1) (.refl m1) ok1 he'⟩⟩
/-- x, y = a, b -/
def sPar (i j : Nat) (fa fb : EX) : SX := fun e st => (fa e st).st e fun x st1 => (fb e st1).st e fun y st2 => .nx ((e.set i (some x)).set j (some y)) st2
theorem js_par {i j : Nat} {x y : Str} {px py pt : Pos} {kt k2 pt2} (hc : X.calm = true) (hN : X.N.Nodup) (hi : X.N[i]? = some x) (hj : X.N[j]? = some y) (hij : i ≠ j)
    (hx : X.env.scope.names.lookup x = some .local) (hy : X.env.scope.names.lookup y = some .local) (ha : J X T W a fa) (hb : J X T W b fb) (he1 : starEach (a :: [b]) X.env = (false, eval a X.env) :: starEach [b] X.env := by rfl) (he2 : starEach (b :: []) X.env = (false, eval b X.env) :: starEach [] X.env := by rfl)
    (hw : swappedStores [.Tuple [.Name x px, .Name y py] kt pt] (.Tuple [a, b] k2 pt2) X.env = pure (some [x, y]) := by rfl)
    (hs : swapsWithSole [.Tuple [.Name x px, .Name y py] kt pt] (.Tuple [a, b] k2 pt2) pos.line X.env = pure false := by rfl) :
    JS X T W (.Assign [.Tuple [.Name x px, .Name y py] kt pt] (.Tuple [a, b] k2 pt2) pos) (sPar i j fa fb) :=
  ps_weak (ps_par hc hN hi hj hij hx hy (pa_cons ha (pa_cons hb pa_nil he2) he1) hw hs) fun F s H ⟨e, st, m, he, ok, h⟩ =>
    ⟨e, st, m, he, ok, st_of he h fun x y st1 H1 m1 _ l p ok1 rx h1 =>
      ⟨e, st1, m1, he.mono l p, ok1, st_of (he.mono l p) h1 fun x2 y2 st2 H2 m2 _ l2 p2 ok2 rx2 h2 =>
        ⟨y, y2, rfl, h2 _ H2 m2 (.refl H2) (.refl m2) ok2 ((((he.mono l p).mono l2 p2).set i (rx.mono l2 p2)).set j rx2)⟩⟩⟩
def sPar3 (i j k : Nat) (fa fb fc : EX) : SX := fun e st => (fa e st).st e fun x st1 => (fb e st1).st e fun y st2 => (fc e st2).st e fun z st3 => .nx (((e.set i (some x)).set j (some y)).set k (some z)) st3
theorem js_par3 {i j l : Nat} {x y z : Str} {px py pz pt : Pos} {kt k2 pt2} (hc : X.calm = true) (hN : X.N.Nodup) (hi : X.N[i]? = some x) (hj : X.N[j]? = some y) (hl : X.N[l]? = some z) (hij : i ≠ j) (hil : i ≠ l) (hjl : j ≠ l)
    (hx : X.env.scope.names.lookup x = some .local) (hy : X.env.scope.names.lookup y = some .local) (hz : X.env.scope.names.lookup z = some .local) (ha : J X T W a fa) (hb : J X T W b fb) (hcc : J X T W c fc)
    (he1 : starEach (a :: [b, c]) X.env = (false, eval a X.env) :: starEach [b, c] X.env := by rfl) (he2 : starEach (b :: [c]) X.env = (false, eval b X.env) :: starEach [c] X.env := by rfl) (he3 : starEach (c :: []) X.env = (false, eval c X.env) :: starEach [] X.env := by rfl)
    (hw : swappedStores [.Tuple [.Name x px, .Name y py, .Name z pz] kt pt] (.Tuple [a, b, c] k2 pt2) X.env = pure (some [x, y, z]) := by rfl)
    (hs : swapsWithSole [.Tuple [.Name x px, .Name y py, .Name z pz] kt pt] (.Tuple [a, b, c] k2 pt2) pos.line X.env = pure false := by rfl) :
    JS X T W (.Assign [.Tuple [.Name x px, .Name y py, .Name z pz] kt pt] (.Tuple [a, b, c] k2 pt2) pos) (sPar3 i j l fa fb fc) :=
  ps_weak (ps_par3 hc hN hi hj hl hij hil hjl hx hy hz (pa_cons ha (pa_cons hb (pa_cons hcc pa_nil he3) he2) he1) hw hs) fun F s H ⟨e, st, m, he, ok, h⟩ =>
    ⟨e, st, m, he, ok, st_of he h fun x y st1 H1 m1 _ l p ok1 rx h1 =>
      ⟨e, st1, m1, he.mono l p, ok1, st_of (he.mono l p) h1 fun x2 y2 st2 H2 m2 _ l2 p2 ok2 rx2 h2 =>
        ⟨e, st2, m2, (he.mono l p).mono l2 p2, ok2, st_of ((he.mono l p).mono l2 p2) h2 fun x3 y3 st3 H3 m3 _ l3 p3 ok3 rx3 h3 =>
          ⟨y, y2, y3, rfl, h3 _ H3 m3 (.refl H3) (.refl m3) ok3 ((((((he.mono l p).mono l2 p2).mono l3 p3).set i ((rx.mono l2 p2).mono l3 p3)).set j (rx2.mono l3 p3)).set _ rx3)⟩⟩⟩⟩
end

/-! ### what is walked -/
structure Src where
  items : List D
  ok : Sto → Bool
abbrev IX := Env → Sto → R Src
/-- the walk J goes over the items, while the store's guard holds -/
def Good (K : PySem.W.Frag) (T : List (Addr × Str)) (J : It) (s : Src) (H0 : Hp) (m0 : List Addr) : Prop :=
  ∀ H m st, Le H0 H → Pre m0 m → Ok K T H m st → s.ok st = true →
    (∀ i, i < s.items.length → J.go i H) ∧ J.stop s.items.length H ∧ ∀ i x H', i < s.items.length → J.yld i H x H' → Le H H' ∧ Ok K T H' m st ∧ ∃ d, s.items[i]? = some d ∧ Rep K H' m d x
def DenI (K : PySem.W.Frag) (T : List (Addr × Str)) (mg : Str → Option Value) (W : WX) (s : L2.St) (H : Hp) (m : List Addr) (r : R Src) (Q : It → Hp → Prop) : Prop :=
  match r with
  | .no => False
  | .ok x st' => ∀ J H' m', Le H H' → Pre m m' → Ok K T H' m' st' → Good K T J x H' m' → Q J H'
  | .ex x st' => ∀ cls dd H' m', Le H H' → Pre m m' → Ok K T H' m' st' → XRep K mg H' m' x cls dd → W cls dd s H'
def tI (K : PySem.W.Frag) (T : List (Addr × Str)) (mg : Str → Option Value) (W : WX) (f : IX) : TI := fun s H Q => ∃ e st m, EnvOk K H m s e ∧ Ok K T H m st ∧ DenI K T mg W s H m (f e st) Q
theorem pi_weak {X : Cx} {t a : Expr} {g g' : TI} (h : PI X t a g) (k : ∀ s H Q, g' s H Q → g s H Q) : PI X t a g' := ⟨fun pins s σ H R I hw => h.run pins s σ H R I (k σ H R hw)⟩
abbrev JI (X : Cx) (T : List (Addr × Str)) (W : WX) (t a : Expr) (f : IX) : Prop := PI X t a (tI X.K T X.mg W f)
def forL (g : Sto → Bool) (t : TX) (body : SX) : List D → Env → Sto → RS
  | [], e, st => if g st = true then .nx e st else .no
  | d :: ds, e, st => if g st = true then match t d e with
    | none => .no
    | some e1 => match body e1 st with
      | .nx e2 st2 => forL g t body ds e2 st2
      | .ct e2 st2 => forL g t body ds e2 st2
      | .brk e2 st2 => .nx e2 st2
      | r => r
    else .no
def sFor (src : IX) (t : TX) (body : SX) : SX := fun e st => match src e st with
  | .ok s st1 => forL s.ok t body s.items e st1
  | .ex x st1 => .exc x e st1
  | .no => .no
section
variable {X : Cx} {T : List (Addr × Str)} {W : WX} {a b c : Expr} {fa fb fc : EX} {pos : Pos} {ba : BX} {t : Expr} {f : TX} {sb : SX} {body : List Stmt} {src : IX}
theorem den_false {K : PySem.W.Frag} {mg : Str → Option Value} {H : Hp} {m : List Addr} {F : Ends} {r : RS} (h : DenS K T mg W H m r F) (e : r = .no) : False := by
  subst e; exact h
theorem js_for (hp : PassesOwn (model X.prog X.w) X.A X.env X.xe) (hc : X.calm = true) {us : List Nat} (hi : JI X T W t a src) (hg : JG X T us t f) (hb : JB X T W body sb)
    (hs : ∀ x, foldedSetIterable a X.env x = pure x := by intro _; rfl) : JS X T W (.For t a body [] pos) (sFor src f sb) := by
  refine ps_weak (ps_for hp hc hi hg hb hs) fun F s H ⟨e, st, m, he, ok, h⟩ => ⟨e, st, m, he, ok, ?_⟩
  unfold sFor at h
  revert h
  generalize src e st = r
  intro h
  cases r with
  | no => exact h
  | ex x st1 => exact fun cls dd H1 m1 l p ok1 xr => h cls dd s H1 m1 l p ok1 (he.mono l p) xr
  | ok sr st1 =>
    intro Jw H1 m1 l p ok1 good
    have h : DenS X.K T X.mg W H m (forL sr.ok f sb sr.items e st1) F := h
    refine ⟨fun i n s' H' => ∃ e' st' m', n = sr.items.length - i ∧ i ≤ sr.items.length ∧ Le H1 H' ∧ Pre m1 m' ∧ EnvOk X.K H' m' s' e' ∧ Ok X.K T H' m' st' ∧ DenS X.K T X.mg W H' m' (forL sr.ok f sb (sr.items.drop i) e' st') F,
      ⟨sr.items.length, e, st1, m1, by simp, Nat.zero_le _, .refl H1, .refl m1, he.mono l p, ok1, by simpa using DenS.mono h l p⟩, ?_⟩
    rintro i n s' H' ⟨e', st', m', rfl, hle, l1, p1, he1, ok', hd⟩
    by_cases hlt : i < sr.items.length
    · rw [List.drop_eq_getElem_cons hlt, forL] at hd
      by_cases hg' : sr.ok st' = true
      · rw [if_pos hg'] at hd
        obtain ⟨gg, gs, gy⟩ := good H' m' st' l1 p1 ok' hg'
        refine .inr ⟨gg i hlt, fun s2 H2 => ∃ e2 st2 m2, Le H1 H2 ∧ Pre m1 m2 ∧ EnvOk X.K H2 m2 s2 e2 ∧ Ok X.K T H2 m2 st2 ∧ DenS X.K T X.mg W H2 m2 (forL sr.ok f sb (sr.items.drop (i + 1)) e2 st2) F, ?_, ?_⟩
        · rintro s2 H2 ⟨e2, st2, m2, l2, p2, he2, ok2, hd2⟩
          exact ⟨sr.items.length - (i + 1), by omega, e2, st2, m2, rfl, hlt, l2, p2, he2, ok2, hd2⟩
        · intro x H2 hy
          obtain ⟨l2, ok2, d, hdd, rx⟩ := gy i x H2 hlt hy
          rw [List.getElem?_eq_getElem hlt] at hdd
          cases hdd
          cases ht : f sr.items[i] e' with
          | none => rw [ht] at hd; exact False.elim hd
          | some e1 =>
            rw [ht] at hd
            dsimp only at hd
            refine ⟨_, e', st', m', rx, he1.mono l2 (.refl m'), ok2, e1, ht, fun s2 he2 _ => ?_⟩
            refine ⟨e1, st', m', he2, ok2, ?_⟩
            have hd := DenS.mono hd l2 (.refl m')
            revert hd
            generalize sb e1 st' = r
            intro hd
            have l12 := l1.trans l2
            cases r with
            | no => exact hd
            | nx e2 st2 => exact fun s3 H3 m3 l3 p3 ok3 he3 => ⟨e2, st2, m3, l12.trans l3, p1.trans p3, he3, ok3, DenS.mono hd l3 p3⟩
            | ct e2 st2 => exact fun s3 H3 m3 l3 p3 ok3 he3 => ⟨e2, st2, m3, l12.trans l3, p1.trans p3, he3, ok3, DenS.mono hd l3 p3⟩
            | brk e2 st2 => exact hd
            | ret d st2 => exact hd
            | exc x e2 st2 => exact hd
      · rw [if_neg hg'] at hd
        exact False.elim hd
    · have e0 : i = sr.items.length := by omega
      subst e0
      rw [List.drop_length, forL] at hd
      by_cases hg' : sr.ok st' = true
      · rw [if_pos hg'] at hd
        obtain ⟨gg, gs, gy⟩ := good H' m' st' l1 p1 ok' hg'
        exact .inl ⟨gs, hd s' H' m' (.refl H') (.refl m') ok' he1⟩
      · rw [if_neg hg'] at hd
        exact False.elim hd
/-! while -/
def whL (c : BX) (body : SX) : Nat → Env → Sto → RS
  | 0, _, _ => .no
  | n + 1, e, st => match c e st with
    | .ok true st1 => match body e st1 with
      | .nx e2 st2 => whL c body n e2 st2
      | .ct e2 st2 => whL c body n e2 st2
      | .brk e2 st2 => .nx e2 st2
      | r => r
    | .ok false st1 => .nx e st1
    | .ex x st1 => .exc x e st1
    | .no => .no
def whMost : Nat := 1000000000
def sWh (c : BX) (body : SX) : SX := fun e st => whL c body whMost e st
theorem js_wh (hp : PassesOwn (model X.prog X.w) X.A X.env X.xe) (hcd : JT X T W c ba) (hb : JB X T W body sb) : JS X T W (.While c body [] pos) (sWh ba sb) := by
  refine ps_weak (ps_while hp hcd hb) fun F s H ⟨e, st, m, he, ok, h⟩ => ?_
  refine ⟨fun n s' H' => ∃ e' st' m', EnvOk X.K H' m' s' e' ∧ Ok X.K T H' m' st' ∧ DenS X.K T X.mg W H' m' (whL ba sb n e' st') F, ⟨whMost, e, st, m, he, ok, h⟩, ?_⟩
  rintro n s' H' ⟨e', st', m', he', ok', hd⟩
  cases n with
  | zero => exact False.elim hd
  | succ n =>
    refine ⟨e', st', m', he', ok', ?_⟩
    rw [whL] at hd
    revert hd
    generalize ba e' st' = r
    intro hd
    cases r with
    | no => exact hd
    | ex x st1 => exact fun cls dd H1 m1 l p ok1 xr => hd cls dd s' H1 m1 l p ok1 (he'.mono l p) xr
    | ok x st1 =>
      intro y H1 m1 l p ok1 rx
      cases rx
      cases x with
      | false => exact hd s' H1 m1 l p ok1 (he'.mono l p)
      | true =>
        rw [if_pos rfl]
        refine ⟨fun s2 H2 => ∃ e2 st2 m2, EnvOk X.K H2 m2 s2 e2 ∧ Ok X.K T H2 m2 st2 ∧ DenS X.K T X.mg W H2 m2 (whL ba sb n e2 st2) F, fun s2 H2 ⟨e2, st2, m2, q1, q2, q3⟩ => ⟨n, by omega, e2, st2, m2, q1, q2, q3⟩, e', st1, m1, he'.mono l p, ok1, ?_⟩
        have hd := DenS.mono hd l p
        revert hd
        show DenS X.K T X.mg W H1 m1 (match sb e' st1 with
          | .nx e2 st2 => whL ba sb n e2 st2
          | .ct e2 st2 => whL ba sb n e2 st2
          | .brk e2 st2 => .nx e2 st2
          | r => r) F → _
        generalize sb e' st1 = r
        intro hd
        cases r with
        | no => exact hd
        | nx e2 st2 => exact fun s3 H3 m3 l3 p3 ok3 he3 => ⟨e2, st2, m3, he3, ok3, DenS.mono hd l3 p3⟩
        | ct e2 st2 => exact fun s3 H3 m3 l3 p3 ok3 he3 => ⟨e2, st2, m3, he3, ok3, DenS.mono hd l3 p3⟩
        | brk e2 st2 => exact hd
        | ret d st2 => exact hd
        | exc x e2 st2 => exact hd
end
/-! the sources -/
def cellItems : Option Cell → Option (List D)
  | some (.lst xs) => some xs
  | some (.ro xs) => some xs
  | none => none
/-- over a list or tuple that a name or expression gives -/
def iSeq (a : EX) : IX := fun e st => (a e st).bind fun x st1 => match x with
  | .tup ds => .ok ⟨ds, fun _ => true⟩ st1
  | .ref i => match cellItems st1[i]? with
    | some ds => .ok ⟨ds, fun s => decide (s[i]? = st1[i]?)⟩ st1
    | none => .no
  | _ => .no
def intsUp (lo : Int) : Nat → List D
  | 0 => []
  | n + 1 => .int lo :: intsUp (lo + 1) n
theorem intsUp_len : ∀ (n : Nat) (lo : Int), (intsUp lo n).length = n
  | 0, _ => rfl
  | n + 1, lo => by simp [intsUp, intsUp_len n]
theorem intsUp_get : ∀ (n i : Nat) (lo : Int), i < n → (intsUp lo n)[i]? = some (.int (lo + i))
  | 0, _, _, h => absurd h (Nat.not_lt_zero _)
  | n + 1, 0, lo, h => by simp [intsUp]
  | n + 1, i + 1, lo, h => by
    rw [intsUp, List.getElem?_cons_succ, intsUp_get n i (lo + 1) (by omega)]
    congr 2
    omega
def bigR (i : Int) : Bool := decide (i.natAbs ≤ 1000000000)
theorem bigR_ok {i : Int} (h : bigR i = true) : -1000000000 ≤ i ∧ i ≤ 1000000000 := by
  have := of_decide_eq_true h
  omega
def iR1 (a : AX) : IX := fun e st => (a e st).bind fun ds st1 => match ds with
  | [.int n] => if bigR n = true then .ok ⟨intsUp 0 n.toNat, fun _ => true⟩ st1 else .no
  | _ => .no
def iR2 (a : AX) : IX := fun e st => (a e st).bind fun ds st1 => match ds with
  | [.int lo, .int hi] => if (bigR lo && bigR hi) = true then .ok ⟨intsUp lo (hi - lo).toNat, fun _ => true⟩ st1 else .no
  | _ => .no
section
variable {X : Cx} {T : List (Addr × Str)} {W : WX} {a b c : Expr} {fa fb fc : EX} {fr : AX} {pos p2 : Pos} {t : Expr}
theorem deni_of {K : PySem.W.Frag} {mg : Str → Option Value} {al be : Type} {RA : Hp → List Addr → al → be → Prop} {s : L2.St} {H : Hp} {m : List Addr} {r : R al} {k : al → Sto → R Src} {Q : It → Hp → Prop} (h : DenI K T mg W s H m (r.bind k) Q) {Q' : be → Hp → Prop}
    (q : ∀ x y st1 H1 m1, r = .ok x st1 → Le H H1 → Pre m m1 → Ok K T H1 m1 st1 → RA H1 m1 x y → DenI K T mg W s H1 m1 (k x st1) Q → Q' y H1) : Den K T mg W RA s H m r Q' := by
  cases r with
  | no => exact h
  | ex x st1 => exact h
  | ok x st1 =>
    intro y H1 m1 le pr ok ra
    refine q x y st1 H1 m1 rfl le pr ok ra ?_
    have h' : DenI K T mg W s H m (k x st1) Q := h
    revert h'
    generalize k x st1 = r2
    intro h'
    cases r2 with
    | no => exact h'
    | ok x2 st2 => exact fun y2 H2 m2 l2 p2 => h' y2 H2 m2 (le.trans l2) (pr.trans p2)
    | ex x2 st2 => exact fun cls dd H2 m2 l2 p2 => h' cls dd H2 m2 (le.trans l2) (pr.trans p2)
theorem good_range {K : PySem.W.Frag} {H : Hp} {m : List Addr} {lo : Int} {n : Nat} : Good K T (Itr lo n) ⟨intsUp lo n, fun _ => true⟩ H m := fun H' m' st l p ok g => by
  have w := walk_range (lo := lo) (n := n)
  refine ⟨fun i hi => ?_, ?_, fun i x H2 hi hy => ?_⟩
  · rw [intsUp_len] at hi; exact w.goes i H' hi trivial
  · rw [intsUp_len]; exact w.stops H' trivial
  · rw [intsUp_len] at hi
    obtain ⟨e1, e2⟩ := w.yields i H' x H2 hi trivial hy
    subst e1
    exact ⟨.refl _, ok, _, intsUp_get n i lo hi, e2⟩
theorem ji_r1 (hg : Gl X "range") (hm : X.mg "range" = none) (ha : JA X T W [a] fr) (hs : starEach [a] X.env = [(false, eval a X.env)] := by rfl) : JI X T W t (.Call (.Name "range" p2) [a] [] pos) (iR1 fr) :=
  pi_weak (pi_range1 hg hm ha.pa hs) fun s H Q ⟨e, st, m, he, ok, h⟩ => ⟨e, st, m, he, ok, deni_of h fun ds xs st1 H1 m1 hf l p ok1 rs h1 => by
    have hn := ha.len _ _ _ _ hf
    match ds, hn with
    | [d], _ =>
      obtain ⟨v, r, rfl, rv, rr⟩ := rs
      cases rr
      cases d with
      | int n =>
        cases rv
        by_cases hb : bigR n = true
        · have h1 : DenI X.K T X.mg W s H1 m1 (if bigR n = true then .ok ⟨intsUp 0 n.toNat, fun _ => true⟩ st1 else .no) Q := h1
          rw [if_pos hb] at h1
          replace hb := bigR_ok hb
          exact ⟨n, rfl, by omega, by omega, h1 _ H1 m1 (.refl H1) (.refl m1) ok1 good_range⟩
        · have h1 : DenI X.K T X.mg W s H1 m1 (if bigR n = true then .ok ⟨intsUp 0 n.toNat, fun _ => true⟩ st1 else .no) Q := h1
          rw [if_neg hb] at h1
          exact False.elim h1
      | non | bl _ | str _ | tup _ | ref _ => exact False.elim h1⟩
theorem ji_r2 (hg : Gl X "range") (hm : X.mg "range" = none) (ha : JA X T W [a, b] fr) (hs : starEach [a, b] X.env = [(false, eval a X.env), (false, eval b X.env)] := by rfl) (hs2 : starEach [b] X.env = [(false, eval b X.env)] := by rfl) :
    JI X T W t (.Call (.Name "range" p2) [a, b] [] pos) (iR2 fr) :=
  pi_weak (pi_range2 hg hm ha.pa hs hs2) fun s H Q ⟨e, st, m, he, ok, h⟩ => ⟨e, st, m, he, ok, deni_of h fun ds xs st1 H1 m1 hf l p ok1 rs h1 => by
    have hn := ha.len _ _ _ _ hf
    match ds, hn with
    | [d, d2], _ =>
      obtain ⟨v, r, rfl, rv, v2, r2, rfl, rv2, rr⟩ := rs
      cases rr
      cases d with
      | int lo =>
        cases d2 with
        | int hi =>
          cases rv
          cases rv2
          have h1 : DenI X.K T X.mg W s H1 m1 (if (bigR lo && bigR hi) = true then .ok ⟨intsUp lo (hi - lo).toNat, fun _ => true⟩ st1 else .no) Q := h1
          by_cases hb : (bigR lo && bigR hi) = true
          · rw [if_pos hb] at h1
            replace hb := And.intro (bigR_ok (Bool.and_eq_true_iff.mp hb).1) (bigR_ok (Bool.and_eq_true_iff.mp hb).2)
            exact ⟨lo, hi, rfl, ⟨by omega, by omega, by omega, by omega⟩, h1 _ H1 m1 (.refl H1) (.refl m1) ok1 good_range⟩
          · rw [if_neg hb] at h1
            exact False.elim h1
        | non | bl _ | str _ | tup _ | ref _ => exact False.elim h1
      | non | bl _ | str _ | tup _ | ref _ => exact False.elim h1⟩
theorem cellItems_ok {K : PySem.W.Frag} {H : Hp} {m : List Addr} {st : Sto} {i : Nat} {ds : List D} (ok : Ok K T H m st) (h : cellItems st[i]? = some ds) : ∃ a vs, m[i]? = some a ∧ SqL K H a vs ∧ Reps K H m ds vs := by
  cases hc : st[i]? with
  | none => rw [hc] at h; cases h
  | some c =>
    rw [hc] at h
    obtain ⟨a, h1, h2⟩ := ok.cell i c hc
    obtain ⟨ds', vs, hcs, hl, hr⟩ := h2.list
    rcases hcs with rfl | rfl <;> cases h <;> exact ⟨a, vs, h1, hl, hr⟩
theorem good_list {K : PySem.W.Frag} {H : Hp} {m : List Addr} {st1 : Sto} {i : Nat} {ds : List D} {a : Addr} (h : cellItems st1[i]? = some ds) (hm : m[i]? = some a) : Good K T (Itl K a) ⟨ds, fun s => decide (s[i]? = st1[i]?)⟩ H m := fun H' m' st l p ok g => by
  have g : st[i]? = st1[i]? := of_decide_eq_true g
  obtain ⟨a', vs, h1, h2, h3⟩ := cellItems_ok ok (by rw [g]; exact h)
  rw [p.get hm] at h1
  cases h1
  have w := walk_list (K := K) (a := a) (xs := vs)
  have e := Reps.length h3
  refine ⟨fun j hj => w.goes j H' (by rw [← e]; exact hj) h2, by rw [e]; exact w.stops H' h2, fun j x H2 hj hy => ?_⟩
  obtain ⟨e1, e2⟩ := w.yields j H' x H2 (by rw [← e]; exact hj) h2 hy
  subst e1
  obtain ⟨d, hd, rd⟩ := h3.back e2
  exact ⟨.refl _, ok, d, hd, rd⟩
theorem good_tup {K : PySem.W.Frag} {H : Hp} {m : List Addr} {ds : List D} {vs : List V} {a : Addr} (h2 : SqT K H a vs) (h3 : Reps K H m ds vs) : Good K T (Itt K a) ⟨ds, fun _ => true⟩ H m := fun H' m' st l p ok g => by
  have h2 := l.sqT h2
  have h3 := Reps.mono l p h3
  have w := walk_tup (K := K) (a := a) (xs := vs)
  have e := Reps.length h3
  refine ⟨fun j hj => w.goes j H' (by rw [← e]; exact hj) h2, by rw [e]; exact w.stops H' h2, fun j x H2 hj hy => ?_⟩
  obtain ⟨e1, e2⟩ := w.yields j H' x H2 (by rw [← e]; exact hj) h2 hy
  subst e1
  obtain ⟨d, hd, rd⟩ := h3.back e2
  exact ⟨.refl _, ok, d, hd, rd⟩
/-- a list or a tuple: by what it is -/
theorem ji_seq (ha : J X T W a fa) : JI X T W t a (iSeq fa) := by
  refine ⟨fun pins s σ H R I hw => ?_⟩
  obtain ⟨e, st, m, he, ok, h⟩ := hw
  have key : Den X.K T X.mg W (RD X.K) σ H m (fa e st) (fun x H1 => (∃ p, x = .ref p ∧ (∃ xs, SqL X.K H1 p xs) ∧ R (Itl X.K p) H1) ∨ (∃ p, x = .ref p ∧ (∃ xs, SqT X.K H1 p xs) ∧ R (Itt X.K p) H1)) := deni_of h fun dx x st1 H1 m1 hf l p ok1 rx h1 => by
    cases dx with
    | tup ds =>
      obtain ⟨p, vs, rfl, hs, hr⟩ := rx
      exact .inr ⟨p, rfl, ⟨vs, hs⟩, h1 _ H1 m1 (.refl H1) (.refl m1) ok1 (good_tup hs hr)⟩
    | ref i =>
      obtain ⟨p, hm, rfl⟩ := rx
      cases hc : cellItems st1[i]? with
      | none =>
        have h1 : DenI X.K T X.mg W σ H1 m1 (match cellItems st1[i]? with | some ds => .ok ⟨ds, fun s => decide (s[i]? = st1[i]?)⟩ st1 | none => .no) R := h1
        rw [hc] at h1
        exact False.elim h1
      | some ds =>
        have h1 : DenI X.K T X.mg W σ H1 m1 (match cellItems st1[i]? with | some ds => .ok ⟨ds, fun s => decide (s[i]? = st1[i]?)⟩ st1 | none => .no) R := h1
        rw [hc] at h1
        obtain ⟨a', vs, q1, q2, q3⟩ := cellItems_ok ok1 hc
        rw [hm] at q1
        cases q1
        exact .inl ⟨p, rfl, ⟨vs, q2⟩, h1 _ H1 m1 (.refl H1) (.refl m1) ok1 (good_list hc hm)⟩
    | non | bl _ | str _ | int _ => exact False.elim h1
  refine thn (ha.run pins s σ H _ I ⟨e, st, m, he, ok, key⟩) fun v s1 ⟨x, H1, I1, r1, q1⟩ => ?_
  rcases q1 with ⟨p, rfl, ⟨xs, hq⟩, q⟩ | ⟨p, rfl, ⟨xs, hq⟩, q⟩
  · cases r1
    obtain ⟨its, rv, pl, hz⟩ := I1.list hq
    refine wpAny_pyIter_list pl.isList ?_
    refine ⟨s1.heap.objs.size, [s1.heap.objs.size], _, _, H1, rfl, I1.kept (t' := s1.toks) fun b o e => Heap.get?_push_of_some _ e, turn_list p _, ⟨_, Heap.get?_push_size _ rfl, rfl, rfl⟩, fun b hb => ?_, q⟩
    have e : b = s1.heap.objs.size := by simpa using hb
    subst e
    exact I1.fpOk (Nat.le_refl _) (I1.hok.fresh (Nat.le_refl _))
  · cases r1
    obtain ⟨its, rv, pl, hz⟩ := I1.tuple hq
    refine wpAny_pyIter_tuple (show s1.heap.IsTuple p its.toArray from pl) ?_
    refine ⟨s1.heap.objs.size, [s1.heap.objs.size], _, _, H1, rfl, I1.kept (t' := s1.toks) fun b o e => Heap.get?_push_of_some _ e, turn_tuple p _, ⟨_, Heap.get?_push_size _ rfl, rfl, rfl⟩, fun b hb => ?_, q⟩
    have e : b = s1.heap.objs.size := by simpa using hb
    subst e
    exact I1.fpOk (Nat.le_refl _) (I1.hok.fresh (Nat.le_refl _))
end
end Mm

namespace Mm
open PySem L2
/-! ### operators -/
def b64 (i : Int) : Bool := decide (i.natAbs < 18446744073709551616)
/-- the items of a tuple, or of a list of the store -/
def seqOf (st : Sto) : D → Option (List D)
  | .tup xs => some xs
  | .ref i => cellItems st[i]?
  | _ => none
def lstOf (st : Sto) : D → Option (List D)
  | .ref i => match st[i]? with
    | some (.lst xs) => some xs
    | _ => none
  | _ => none
def oAdd : O2 := fun x y st => match x, y with
  | .int i, .int j => some (.int (i + j), st)
  | .tup xs, .tup ys => if xs.length + ys.length ≤ lim then some (.tup (xs ++ ys), st) else none
  | .ref i, .ref j => match lstOf st (.ref i), lstOf st (.ref j) with
    | some xs, some ys => if xs.length + ys.length ≤ lim then some (.ref st.length, st ++ [.lst (xs ++ ys)]) else none
    | _, _ => none
  | .str a, .str b => if a.length + b.length ≤ lim then some (.str (a ++ b), st) else none
  | _, _ => none
def oSub : O2 := fun x y st => match x, y with
  | .int i, .int j => some (.int (i - j), st)
  | _, _ => none
def oMul : O2 := fun x y st => match x, y with
  | .int i, .int j => if (b64 i || b64 j) = true then some (.int (i * j), st) else none
  | .tup xs, .int k => if k = 1 then some (.tup xs, st) else if decide (2 ≤ k) && decide (k ≤ 1000) && decide (xs.length ≤ 1000) && !xs.isEmpty then some (.tup (List.replicate k.toNat xs).flatten, st) else none
  | .ref i, .int k => match lstOf st (.ref i) with
    | some xs => if decide (0 ≤ k) && decide (k.natAbs ≤ 10000) && decide (xs.length ≤ 100) then some (.ref st.length, st ++ [.lst (List.replicate k.toNat xs).flatten]) else none
    | none => none
  | _, _ => none
def oDiv : O2 := fun x y st => match x, y with
  | .int i, .int j => if decide (j ≠ 0) && decide (j.natAbs < 1073741824) then some (.int (Int.fdiv i j), st) else none
  | _, _ => none
def oMod : O2 := fun x y st => match x, y with
  | .int i, .int j => if j ≠ 0 then some (.int (Int.fmod i j), st) else none
  | _, _ => none
def oPow : O2 := fun x y st => match x, y with
  | .int i, .int j => if decide (0 ≤ j) && decide (j ≤ 1000) && decide (i.natAbs < 1000) then some (.int (i ^ j.toNat), st) else none
  | _, _ => none
def oCmpI (p : Int → Int → Bool) : O2 := fun x y st => match x, y with
  | .int i, .int j => some (.bl (p i j), st)
  | _, _ => none
def oLt : O2 := oCmpI fun i j => decide (i < j)
def oLe : O2 := oCmpI fun i j => decide (i ≤ j)
def oGt : O2 := oCmpI fun i j => decide (j < i)
def oGe : O2 := oCmpI fun i j => decide (j ≤ i)
def oIs : O2 := fun x y st => match x, y with
  | .bl a, .bl b => some (.bl (decide (a = b)), st)
  | x, .non => some (.bl (match x with | .non => true | _ => false), st)
  | _, _ => none
def oIsN : O2 := fun x y st => match x, y with
  | .bl a, .bl b => some (.bl (!decide (a = b)), st)
  | x, .non => some (.bl (match x with | .non => false | _ => true), st)
  | _, _ => none
/-! as PyData -/
mutual
def py : D → Option PyData
  | .non => some .none
  | .bl b => some (.bool b)
  | .int i => some (.int i)
  | .str x => some (.str x)
  | .tup xs => (pys xs).map .tuple
  | .ref _ => none
def pys : List D → Option (List PyData)
  | [] => some []
  | x :: xs => (py x).bind fun d => (pys xs).map fun r => d :: r
end
def pyS (st : Sto) : D → Option PyData
  | .ref i => match cellItems st[i]? with
    | some xs => (pys xs).map .list
    | none => none
  | d => py d
def eqD (st : Sto) (x y : D) : Option Bool := match pyS st x, pyS st y with
  | some d, some e => if (SeqAt.shaped d && SeqAt.shaped e) = true then some (PyData.eqv d e) else none
  | _, _ => none
/-- == : at once for what is simple -/
def eqF (st : Sto) : D → D → Option Bool
  | .int i, .int j => some (decide (i = j))
  | .str i, .str j => some (decide (i = j))
  | .bl i, .bl j => some (decide (i = j))
  | .non, .non => some true
  | x, y => eqD st x y
def oEq : O2 := fun x y st => (eqF st x y).map fun b => (.bl b, st)
def oNe : O2 := fun x y st => (eqF st x y).map fun b => (.bl (!b), st)

section
variable {X : Cx} {T : List (Addr × Str)}
theorem op_of {f : Value → Value → Sem Value} {o : O2} (h : ∀ dx dy st m H x y r Q, Rep X.K H m dx x → Rep X.K H m dy y → Ok X.K T H m st → o dx dy st = some r → DenO X.K T H m (some r) Q → ∃ f2 : R2, OpR X f f2 ∧ f2 x y H Q) : OpR X f (r2 X.K T o) := by
  intro pins s σ H x y v u Q I rx ry hh
  obtain ⟨dx, dy, st, m, q1, q2, ok, q3⟩ := hh
  cases ho : o dx dy st with
  | none => rw [ho] at q3; exact False.elim q3
  | some r =>
    rw [ho] at q3
    obtain ⟨f2, k1, k2⟩ := h dx dy st m H x y r Q q1 q2 ok ho q3
    exact k1 pins s σ H x y v u Q I rx ry k2
theorem deno_val {K : PySem.W.Frag} {H : Hp} {m : List Addr} {d : D} {st : Sto} {Q : VK} {v : V} (h : DenO K T H m (some (d, st)) Q) (ok : Ok K T H m st) (r : Rep K H m d v) : Q v H := h v H m (.refl H) (.refl m) ok r
theorem deno_tup {K : PySem.W.Frag} {H : Hp} {m : List Addr} {ds : List D} {st : Sto} {Q : VK} {vs : List V} (h : DenO K T H m (some (.tup ds, st)) Q) (ok : Ok K T H m st) (r : Reps K H m ds vs) : ∀ p, H p = none → Q (.ref p) (upd H p (.tup vs)) := fun p hp =>
  h _ _ m (Le.new hp) (.refl m) (ok.new hp) ⟨p, vs, rfl, .of upd_same, r.mono (Le.new hp) (.refl m)⟩
theorem deno_lst {K : PySem.W.Frag} {H : Hp} {m : List Addr} {ds : List D} {st : Sto} {Q : VK} {vs : List V} (h : DenO K T H m (some (.ref st.length, st ++ [.lst ds])) Q) (ok : Ok K T H m st) (r : Reps K H m ds vs) : ∀ p, H p = none → Q (.ref p) (upd H p (.lst vs)) := fun p hp =>
  h _ _ (m ++ [p]) (Le.new hp) (.add m p) (ok.newCell hp r) ⟨p, by rw [← ok.len]; simp, rfl⟩
theorem lst_of {K : PySem.W.Frag} {H : Hp} {m : List Addr} {st : Sto} {i : Nat} {xs : List D} (ok : Ok K T H m st) (h : lstOf st (.ref i) = some xs) : ∃ a vs, m[i]? = some a ∧ H a = some (.lst vs) ∧ Reps K H m xs vs := by
  unfold lstOf at h
  simp only at h
  split at h
  · rename_i ys hy
    cases h
    exact ok.lst hy
  · cases h
theorem reps_rep {K : PySem.W.Frag} {H : Hp} {m : List Addr} {xs : List D} {vs : List V} (h : Reps K H m xs vs) : ∀ n : Nat, Reps K H m (List.replicate n xs).flatten (List.replicate n vs).flatten
  | 0 => by simp; rfl
  | n + 1 => by
    rw [List.replicate_succ, List.replicate_succ, List.flatten_cons, List.flatten_cons]
    exact h.append (reps_rep h n)
theorem ope_add : OpR X (binaryOp .Add) (r2 X.K T oAdd) := op_of fun dx dy st m H x y r Q rx ry ok ho q => by
  cases dx with
  | int i =>
    cases dy with
    | int j => cases ho; cases rx; cases ry; exact ⟨_, op_add, i, j, rfl, rfl, deno_val q ok rfl⟩
    | non | bl _ | str _ | tup _ | ref _ => cases ho
  | tup xs =>
    cases dy with
    | tup ys =>
      obtain ⟨a, vs, rfl, h1, h2⟩ := rx
      obtain ⟨b, ws, rfl, h3, h4⟩ := ry
      simp only [oAdd] at ho
      split at ho
      · rename_i hl
        cases ho
        have e1 := Reps.length h2
        have e2 := Reps.length h4
        refine ⟨_, op_catA, a, b, vs, ws, rfl, rfl, h1, h3, lim_le (by rw [← e1, ← e2]; exact hl), fun e => ?_, fun _ e => ?_, fun _ _ => deno_tup q ok (h2.append h4)⟩
        · subst e
          have : xs = [] := List.eq_nil_of_length_eq_zero e1
          subst this
          exact deno_val q ok ⟨b, ws, rfl, h3, h4⟩
        · subst e
          have : ys = [] := List.eq_nil_of_length_eq_zero e2
          subst this
          rw [List.append_nil] at q
          exact deno_val q ok ⟨a, vs, rfl, h1, h2⟩
      · cases ho
    | non | bl _ | str _ | int _ | ref _ => cases ho
  | ref i =>
    cases dy with
    | ref j =>
      simp only [oAdd] at ho
      split at ho
      · rename_i xs ys hx hy
        split at ho
        · rename_i hl
          cases ho
          obtain ⟨a, ha, rfl⟩ := rx
          obtain ⟨b, hb, rfl⟩ := ry
          obtain ⟨a', vs, e1, e2, e3⟩ := lst_of ok hx
          obtain ⟨b', ws, f1, f2, f3⟩ := lst_of ok hy
          rw [ha] at e1; cases e1
          rw [hb] at f1; cases f1
          exact ⟨_, op_cat, a, b, vs, ws, rfl, rfl, e2, f2, lim_le (by rw [← Reps.length e3, ← Reps.length f3]; exact hl), deno_lst q ok (e3.append f3)⟩
        · cases ho
      · cases ho
    | non | bl _ | str _ | tup _ | int _ => cases ho
  | str i =>
    cases dy with
    | str j =>
      simp only [oAdd] at ho
      split at ho
      · rename_i hl
        cases ho; cases rx; cases ry
        exact ⟨_, op_add_str, i, j, rfl, rfl, lim_le hl, deno_val q ok rfl⟩
      · cases ho
    | non | bl _ | ref _ | tup _ | int _ => cases ho
  | non | bl _ => cases dy <;> cases ho
theorem ope_sub : OpR X (binaryOp .Sub) (r2 X.K T oSub) := op_of fun dx dy st m H x y r Q rx ry ok ho q => by
  cases dx with
  | int i =>
    cases dy with
    | int j => cases ho; cases rx; cases ry; exact ⟨_, op_sub, i, j, rfl, rfl, deno_val q ok rfl⟩
    | non | bl _ | str _ | tup _ | ref _ => cases ho
  | non | bl _ | str _ | tup _ | ref _ => cases ho
theorem b64_ok {i j : Int} (h : (b64 i || b64 j) = true) : CMul i j := by
  simp only [b64, Bool.or_eq_true, decide_eq_true_eq] at h
  replace h : (-18446744073709551616 < i ∧ i < 18446744073709551616) ∨ (-18446744073709551616 < j ∧ j < 18446744073709551616) := by omega
  show (-(2 ^ 64) < i ∧ i < 2 ^ 64) ∨ (-(2 ^ 64) < j ∧ j < 2 ^ 64)
  omega
/-- a tuple once -/
theorem tuple_mul1 (l : Addr) (items : Array Value) (n : Nat) (dd : Option Addr) (sl : Array (Option Value)) (u : Tok) :
    Meets (Builtin.«tuple.__mul__» ⟨[.ref l, .int 1 u], []⟩) (fun _ R s => s.heap.get? l = some { cls := .type "tuple", dict := dd, data := .seq items n, slots := sl } ∧ R (.ok (.ret (Value.ref l))) s) :=
  .of_wp fun prog w A R s h => by
    obtain ⟨hp, g, d, tk, os⟩ := s
    obtain ⟨hl, h⟩ := h
    have f1 := AutoSeq1.idx_int
    wp_walk using wpAny_loadPart' hl
    exact ⟨_, rfl, h⟩
/-- t * 1 -/
theorem op_once : OpR X (binaryOp .Mult) (fun x y H Q => ∃ l xs, x = .ref l ∧ y = .int 1 ∧ SqT X.K H l xs ∧ Q (.ref l) H) := by
  intro pins s σ H x y v u Q I rx ry h
  obtain ⟨l, xs, rfl, rfl, hT, q⟩ := h
  cases rx
  obtain ⟨t, rfl⟩ := ry
  obtain ⟨its, r, ⟨⟨cls, dd, data, sl⟩, ho, hc, n, hd⟩, hs⟩ := I.tuple hT
  simp only at hc hd
  subst hc hd
  refine wpAny_binaryOp_repeat_ref (T := "tuple") (U := "int") (by decide) ⟨_, ho, rfl⟩ (fun s' => typeIs_int s' 1 t) noFill_tuple_mul F.fills_int_mul F.slot_int_rmul repeat_tuple F.slot_int_index.lookup
    (call_meets F.slot_int_rmul (typeIs_int s 1 t) F.entry_int_rmul (F.args_int_rmul_2 _ _) (int_rmul_tuple 1 t l its.toArray n dd sl)
      ⟨ho, rfl, ⟨_, ho, rfl⟩, call_meets F.slot_tuple_mul ⟨_, ho, rfl⟩ F.entry_tuple_mul (F.args_tuple_mul_2 _ _) (tuple_mul1 l its.toArray n dd sl t) ⟨ho, ?_⟩⟩)
  exact ⟨.ref l, H, I, rfl, q⟩
theorem ope_mul : OpR X (binaryOp .Mult) (r2 X.K T oMul) := op_of fun dx dy st m H x y r Q rx ry ok ho q => by
  cases dx with
  | int i =>
    cases dy with
    | int j =>
      simp only [oMul] at ho
      split at ho
      · rename_i hb
        cases ho; cases rx; cases ry
        exact ⟨_, op_mul, i, j, rfl, rfl, b64_ok hb, deno_val q ok rfl⟩
      · cases ho
    | non | bl _ | str _ | tup _ | ref _ => cases ho
  | tup xs =>
    cases dy with
    | int k =>
      simp only [oMul] at ho
      split at ho
      · rename_i hk
        subst hk
        cases ho
        obtain ⟨a, vs, rfl, h1, h2⟩ := rx
        cases ry
        exact ⟨_, op_once, a, vs, rfl, rfl, h1, deno_val q ok ⟨a, vs, rfl, h1, h2⟩⟩
      · split at ho
        · rename_i hb
          cases ho
          obtain ⟨a, vs, rfl, h1, h2⟩ := rx
          cases ry
          have e1 := Reps.length h2
          simp only [Bool.and_eq_true, decide_eq_true_eq, Bool.not_eq_true'] at hb
          obtain ⟨⟨⟨b1, b2⟩, b3⟩, b4⟩ := hb
          refine ⟨_, op_repT, a, k, vs, rfl, rfl, h1, fun e => ?_, b1, b2, by rw [← e1]; exact b3, deno_tup q ok (reps_rep h2 _)⟩
          subst e
          have : xs = [] := List.eq_nil_of_length_eq_zero e1
          subst this
          cases b4
        · cases ho
    | non | bl _ | str _ | tup _ | ref _ => cases ho
  | ref i =>
    cases dy with
    | int k =>
      simp only [oMul] at ho
      split at ho
      · rename_i xs hx
        split at ho
        · rename_i hb
          cases ho
          obtain ⟨a, ha, rfl⟩ := rx
          cases ry
          obtain ⟨a', vs, e1, e2, e3⟩ := lst_of ok hx
          rw [ha] at e1; cases e1
          simp only [Bool.and_eq_true, decide_eq_true_eq] at hb
          obtain ⟨⟨b1, b2⟩, b3⟩ := hb
          refine ⟨_, op_rep, a, k, vs, rfl, rfl, e2, by omega, by omega, ?_, deno_lst q ok (reps_rep e3 _)⟩
          rw [← Reps.length e3]
          have z : xs.length * k.toNat ≤ 100 * 10000 := Nat.mul_le_mul b3 (by omega)
          exact Nat.le_trans z (by decide)
        · cases ho
      · cases ho
    | non | bl _ | str _ | tup _ | ref _ => cases ho
  | non | bl _ | str _ => cases dy <;> cases ho
theorem ope_div : OpR X (binaryOp .FloorDiv) (r2 X.K T oDiv) := op_of fun dx dy st m H x y r Q rx ry ok ho q => by
  cases dx with
  | int i =>
    cases dy with
    | int j =>
      simp only [oDiv] at ho
      split at ho
      · rename_i hb
        cases ho; cases rx; cases ry
        simp only [Bool.and_eq_true, decide_eq_true_eq] at hb
        exact ⟨_, op_fdivN, i, j, rfl, rfl, hb, deno_val q ok rfl⟩
      · cases ho
    | non | bl _ | str _ | tup _ | ref _ => cases ho
  | non | bl _ | str _ | tup _ | ref _ => cases ho
theorem ope_mod : OpR X (binaryOp .Mod) (r2 X.K T oMod) := op_of fun dx dy st m H x y r Q rx ry ok ho q => by
  cases dx with
  | int i =>
    cases dy with
    | int j =>
      simp only [oMod] at ho
      split at ho
      · rename_i hb
        cases ho; cases rx; cases ry
        exact ⟨_, op_modN, i, j, rfl, rfl, hb, deno_val q ok rfl⟩
      · cases ho
    | non | bl _ | str _ | tup _ | ref _ => cases ho
  | non | bl _ | str _ | tup _ | ref _ => cases ho
theorem ope_pow : OpR X (binaryOp .Pow) (r2 X.K T oPow) := op_of fun dx dy st m H x y r Q rx ry ok ho q => by
  cases dx with
  | int i =>
    cases dy with
    | int j =>
      simp only [oPow] at ho
      split at ho
      · rename_i hb
        cases ho; cases rx; cases ry
        simp only [Bool.and_eq_true, decide_eq_true_eq] at hb
        obtain ⟨⟨b1, b2⟩, b3⟩ := hb
        exact ⟨_, op_pow, i, j, rfl, rfl, ⟨b1, by omega, Nat.lt_trans b3 (by decide)⟩, deno_val q ok rfl⟩
      · cases ho
    | non | bl _ | str _ | tup _ | ref _ => cases ho
  | non | bl _ | str _ | tup _ | ref _ => cases ho
theorem ope_cmpI {op : CmpOp} {p : Int → Int → Bool} (h : OpR X (compareOp op) (rI0 fun i j => .bl (p i j))) : OpR X (compareOp op) (r2 X.K T (oCmpI p)) := op_of fun dx dy st m H x y r Q rx ry ok ho q => by
  cases dx with
  | int i =>
    cases dy with
    | int j => cases ho; cases rx; cases ry; exact ⟨_, h, i, j, rfl, rfl, deno_val q ok rfl⟩
    | non | bl _ | str _ | tup _ | ref _ => cases ho
  | non | bl _ | str _ | tup _ | ref _ => cases ho
theorem ope_lt : OpR X (compareOp .Lt) (r2 X.K T oLt) := ope_cmpI op_lt
theorem ope_le : OpR X (compareOp .LtE) (r2 X.K T oLe) := ope_cmpI op_le
theorem ope_gt : OpR X (compareOp .Gt) (r2 X.K T oGt) := ope_cmpI op_gt
theorem ope_ge : OpR X (compareOp .GtE) (r2 X.K T oGe) := ope_cmpI op_ge
theorem ope_is : OpR X (compareOp .Is) (r2 X.K T oIs) := op_of fun dx dy st m H x y r Q rx ry ok ho q => by
  cases dy with
  | non =>
    cases ry
    cases dx with
    | non => cases ho; cases rx; exact ⟨_, op_isN, rfl, deno_val q ok rfl⟩
    | bl _ => cases ho; cases rx; exact ⟨_, op_isN, rfl, deno_val q ok rfl⟩
    | int _ => cases ho; cases rx; exact ⟨_, op_isN, rfl, deno_val q ok rfl⟩
    | str _ => cases ho; cases rx; exact ⟨_, op_isN, rfl, deno_val q ok rfl⟩
    | tup _ => cases ho; obtain ⟨a, vs, rfl, _⟩ := rx; exact ⟨_, op_isN, rfl, deno_val q ok rfl⟩
    | ref _ => cases ho; obtain ⟨a, _, rfl⟩ := rx; exact ⟨_, op_isN, rfl, deno_val q ok rfl⟩
  | bl b =>
    cases dx with
    | bl a => cases ho; cases rx; cases ry; exact ⟨_, op_isBl, a, b, rfl, rfl, deno_val q ok rfl⟩
    | non | int _ | str _ | tup _ | ref _ => cases ho
  | int _ | str _ | tup _ | ref _ => cases dx <;> cases ho
theorem ope_isN : OpR X (compareOp .IsNot) (r2 X.K T oIsN) := op_of fun dx dy st m H x y r Q rx ry ok ho q => by
  cases dy with
  | non =>
    cases ry
    cases dx with
    | non => cases ho; cases rx; exact ⟨_, op_notN, rfl, deno_val q ok rfl⟩
    | bl _ => cases ho; cases rx; exact ⟨_, op_notN, rfl, deno_val q ok rfl⟩
    | int _ => cases ho; cases rx; exact ⟨_, op_notN, rfl, deno_val q ok rfl⟩
    | str _ => cases ho; cases rx; exact ⟨_, op_notN, rfl, deno_val q ok rfl⟩
    | tup _ => cases ho; obtain ⟨a, vs, rfl, _⟩ := rx; exact ⟨_, op_notN, rfl, deno_val q ok rfl⟩
    | ref _ => cases ho; obtain ⟨a, _, rfl⟩ := rx; exact ⟨_, op_notN, rfl, deno_val q ok rfl⟩
  | bl b =>
    cases dx with
    | bl a => cases ho; cases rx; cases ry; exact ⟨_, op_notBl, a, b, rfl, rfl, deno_val q ok rfl⟩
    | non | int _ | str _ | tup _ | ref _ => cases ho
  | int _ | str _ | tup _ | ref _ => cases dx <;> cases ho
/-! == -/
section
variable {K : PySem.W.Frag} {H : Hp} {m : List Addr} {st : Sto}
mutual
theorem dp_of : ∀ {d : D} {x : V} {p : PyData}, Rep K H m d x → py d = some p → Dp K H x p
  | .non, x, p, r, h => by cases r; cases h; exact .non
  | .bl b, x, p, r, h => by cases r; cases h; exact .bl b
  | .int i, x, p, r, h => by cases r; cases h; exact .int i
  | .str i, x, p, r, h => by cases r; cases h; exact .str i
  | .tup xs, x, p, r, h => by
    obtain ⟨a, vs, rfl, h1, h2⟩ := r
    simp only [py, Option.map_eq_some_iff] at h
    obtain ⟨ps, h3, rfl⟩ := h
    exact .tup h1 (dps_of h2 h3)
  | .ref i, x, p, r, h => by simp [py] at h
theorem dps_of : ∀ {ds : List D} {xs : List V} {ps : List PyData}, Reps K H m ds xs → pys ds = some ps → DpAll K H xs ps
  | [], xs, ps, r, h => by cases r; cases h; exact .nil
  | d :: ds, xs, ps, r, h => by
    obtain ⟨v, vr, rfl, h1, h2⟩ := r
    simp only [pys, Option.bind_eq_some_iff, Option.map_eq_some_iff] at h
    obtain ⟨p, h3, q, h4, rfl⟩ := h
    exact .cons (dp_of h1 h3) (dps_of h2 h4)
end
theorem dpS_of {d : D} {x : V} {p : PyData} (ok : Ok K T H m st) (r : Rep K H m d x) (h : pyS st d = some p) : Dp K H x p := by
  cases d with
  | ref i =>
    obtain ⟨a, hm, rfl⟩ := r
    simp only [pyS] at h
    split at h
    · rename_i xs hx
      obtain ⟨a', vs, h1, h2, h3⟩ := cellItems_ok ok hx
      rw [hm] at h1; cases h1
      simp only [Option.map_eq_some_iff] at h
      obtain ⟨ps, h4, rfl⟩ := h
      exact .lst h2 (dps_of h3 h4)
    · cases h
  | non => exact dp_of r h
  | bl _ => exact dp_of r h
  | int _ => exact dp_of r h
  | str _ => exact dp_of r h
  | tup _ => exact dp_of r h
end
theorem eqF_cases {K : PySem.W.Frag} {H : Hp} {m : List Addr} {st : Sto} {x y : D} {b : Bool} (h : eqF st x y = some b) : (∀ v w, Rep K H m x v → Rep K H m y w → scal v w = true ∧ decide (v = w) = b) ∨ eqD st x y = some b := by
  unfold eqF at h
  split at h
  · rename_i i j
    cases h
    refine .inl fun v w hv hw => ?_
    cases hv; cases hw
    exact ⟨rfl, by simp⟩
  · rename_i i j
    cases h
    refine .inl fun v w hv hw => ?_
    cases hv; cases hw
    exact ⟨rfl, by simp⟩
  · rename_i i j
    cases h
    refine .inl fun v w hv hw => ?_
    cases hv; cases hw
    exact ⟨rfl, by simp⟩
  · cases h
    refine .inl fun v w hv hw => ?_
    cases hv; cases hw
    exact ⟨rfl, by simp⟩
  · exact .inr h
theorem eqD_ok {st : Sto} {x y : D} {b : Bool} (h : eqD st x y = some b) : ∃ d e, pyS st x = some d ∧ pyS st y = some e ∧ SeqAt.shaped d = true ∧ SeqAt.shaped e = true ∧ PyData.eqv d e = b := by
  unfold eqD at h
  split at h
  · rename_i d e h1 h2
    split at h
    · rename_i hs
      cases h
      simp only [Bool.and_eq_true] at hs
      exact ⟨d, e, h1, h2, hs.1, hs.2, rfl⟩
    · cases h
  · cases h
theorem ope_eq (hu : X.A.units + 64 < cLine) : OpR X (compareOp .Eq) (r2 X.K T oEq) := op_of fun dx dy st m H x y r Q rx ry ok ho q => by
  simp only [oEq, Option.map_eq_some_iff] at ho
  obtain ⟨b, hb, rfl⟩ := ho
  rcases eqF_cases (K := X.K) (H := H) (m := m) hb with hs | hb
  · obtain ⟨h1, h2⟩ := hs x y rx ry
    exact ⟨_, op_eq, h1, by rw [h2]; exact deno_val q ok rfl⟩
  obtain ⟨d, e, h1, h2, h3, h4, h5⟩ := eqD_ok hb
  refine ⟨_, op_eqD hu, d, e, dpS_of ok rx h1, dpS_of ok ry h2, h3, h4, ?_⟩
  rw [h5]
  exact deno_val q ok rfl
theorem ope_ne (hu : X.A.units + 64 < cLine) : OpR X (compareOp .NotEq) (r2 X.K T oNe) := op_of fun dx dy st m H x y r Q rx ry ok ho q => by
  simp only [oNe, Option.map_eq_some_iff] at ho
  obtain ⟨b, hb, rfl⟩ := ho
  rcases eqF_cases (K := X.K) (H := H) (m := m) hb with hs | hb
  · obtain ⟨h1, h2⟩ := hs x y rx ry
    exact ⟨_, op_ne, h1, by rw [h2]; exact deno_val q ok rfl⟩
  obtain ⟨d, e, h1, h2, h3, h4, h5⟩ := eqD_ok hb
  refine ⟨_, op_neD hu, d, e, dpS_of ok rx h1, dpS_of ok ry h2, h3, h4, ?_⟩
  rw [h5]
  exact deno_val q ok rfl
end

/-! ### subscripts, slices, stores -/
def oIx : O2 := fun x y st => match y with
  | .int i => match seqOf st x with
    | some xs => (atI xs i).map fun d => (d, st)
    | none => none
  | _ => none
def cutD (xs : List D) (lo hi : Option Int) : List D := (xs.drop (HT.sIx xs.length 0 lo)).take (HT.sIx xs.length xs.length hi - HT.sIx xs.length 0 lo)
def eSl (a : EX) (lo hi : Option EX) : EX := fun e st => (a e st).bind fun x st1 =>
  (match lo with | none => R.ok none st1 | some f => (f e st1).bind fun d st2 => match d with | .int i => .ok (some i) st2 | _ => .no).bind fun l st2 =>
  (match hi with | none => R.ok none st2 | some f => (f e st2).bind fun d st3 => match d with | .int i => .ok (some i) st3 | _ => .no).bind fun h st3 => match x with
    | .tup xs => .ok (.tup (cutD xs l h)) st3
    | .ref i => match cellItems st3[i]? with
      | some xs => .ok (.ref st3.length) (st3 ++ [Cell.lst (cutD xs l h)])
      | none => .no
    | _ => .no
def sStore (a i f : EX) : SX := fun e st => (f e st).st e fun v st1 => (a e st1).st e fun x st2 => (i e st2).st e fun k st3 => match x, k with
  | .ref j, .int n => match lstOf st3 (.ref j) with
    | some xs => match ixN xs.length n with
      | some p => .nx e (List.set st3 j (Cell.lst (xs.set p v)))
      | none => .no
    | none => .no
  | _, _ => .no
section
variable {X : Cx} {T : List (Addr × Str)} {W : WX} {a b c : Expr} {fa fb fc : EX} {pos p2 : Pos}
theorem reps_at {K : PySem.W.Frag} {H : Hp} {m : List Addr} {xs : List D} {vs : List V} {i : Int} {d : D} (h : Reps K H m xs vs) (e : atI xs i = some d) : ∃ v, atI vs i = some v ∧ Rep K H m d v := by
  unfold atI at e ⊢
  rw [← h.length]
  cases hx : ixN xs.length i with
  | none => rw [hx] at e; cases e
  | some j => rw [hx] at e; exact h.get e
theorem seq_ok {K : PySem.W.Frag} {H : Hp} {m : List Addr} {st : Sto} {d : D} {x : V} {xs : List D} (ok : Ok K T H m st) (r : Rep K H m d x) (h : seqOf st d = some xs) : ∃ a vs, x = .ref a ∧ (SqL K H a vs ∨ SqT K H a vs) ∧ Reps K H m xs vs := by
  cases d with
  | tup ys =>
    cases h
    obtain ⟨a, vs, rfl, h1, h2⟩ := r
    exact ⟨a, vs, rfl, .inr h1, h2⟩
  | ref i =>
    obtain ⟨a, hm, rfl⟩ := r
    obtain ⟨a', vs, h1, h2, h3⟩ := cellItems_ok ok h
    rw [hm] at h1; cases h1
    exact ⟨a, vs, rfl, .inl h2, h3⟩
  | non | bl _ | int _ | str _ => cases h
theorem ixe : IxR X (r2 X.K T oIx) := by
  intro value slice pins s σ H x y v u Q I rx ry hh hs
  obtain ⟨dx, dy, st, m, q1, q2, ok, q3⟩ := hh
  cases dy with
  | int i =>
    cases q2
    unfold oIx at q3
    cases hq : seqOf st dx with
    | none => simp only [hq] at q3; exact False.elim q3
    | some xs =>
      simp only [hq] at q3
      cases hd : atI xs i with
      | none => rw [hd] at q3; exact False.elim q3
      | some d =>
        rw [hd] at q3
        obtain ⟨a, vs, rfl, h1, h2⟩ := seq_ok ok q1 hq
        obtain ⟨w, h3, h4⟩ := reps_at h2 hd
        rcases h1 with h1 | h1
        · exact ix_list value slice pins s σ H _ _ v u Q I rx ry ⟨a, vs, i, w, rfl, rfl, h1, h3, deno_val q3 ok h4⟩ hs
        · exact ix_tup value slice pins s σ H _ _ v u Q I rx ry ⟨a, vs, i, w, rfl, rfl, h1, h3, deno_val q3 ok h4⟩ hs
  | non | bl _ | str _ | tup _ | ref _ => exact False.elim q3
theorem reps_cut {K : PySem.W.Frag} {H : Hp} {m : List Addr} {xs : List D} {vs : List V} {lo hi : Option Int} (h : Reps K H m xs vs) : Reps K H m (cutD xs lo hi) (cutV vs lo hi) := by
  unfold cutD cutV
  rw [← h.length]
  exact (h.drop _).take _
def tO (K : PySem.W.Frag) (T : List (Addr × Str)) (mg : Str → Option Value) (W : WX) (f : Env → Sto → R (Option Int)) : TO := fun s H Q => ∃ e st m, EnvOk K H m s e ∧ Ok K T H m st ∧ Den K T mg W (fun _ _ (x y : Option Int) => x = y) s H m (f e st) Q
def eO : Option EX → Env → Sto → R (Option Int)
  | none => fun _ st => .ok none st
  | some f => fun e st => (f e st).bind fun d st2 => match d with | .int i => .ok (some i) st2 | _ => .no
structure JO (X : Cx) (T : List (Addr × Str)) (W : WX) (lo : Option Expr) (f : Option EX) (tl : TO) : Prop where
  po : PO X lo tl
  weak : ∀ s H Q, tO X.K T X.mg W (eO f) s H Q → tl s H Q
theorem jo_none : JO X T W none none tNoPart := ⟨po_none, fun s H Q ⟨e, st, m, he, ok, h⟩ => h none H m (.refl H) (.refl m) ok rfl⟩
theorem jo_some (ha : J X T W a fa) : JO X T W (some a) (some fa) (tPart (tE X.K T X.mg W fa)) := ⟨po_some ha, fun s H Q ⟨e, st, m, he, ok, h⟩ =>
  ⟨e, st, m, he, ok, h.bind fun d x st1 H1 m1 _ l p ok1 rx h1 => by
    cases d with
    | int i => cases rx; exact ⟨i, rfl, h1 (some i) H1 m1 (.refl H1) (.refl m1) ok1 rfl⟩
    | non | bl _ | str _ | tup _ | ref _ => exact False.elim h1⟩⟩
def rSl2 (K : PySem.W.Frag) : V → Option Int → Option Int → Hp → VK → Prop := fun x lo hi H Q => rSlL K x lo hi H Q ∨ rSlA K x lo hi H Q
theorem sl_two : SlR X (rSl2 X.K) := by
  intro pins s σ H x v vl vu lo hi sl Q I rx hs pl pu h
  rcases h with h | h
  · exact sl_list pins s σ H x v vl vu lo hi sl Q I rx hs pl pu h
  · exact sl_tupA pins s σ H x v vl vu lo hi sl Q I rx hs pl pu h
theorem j_sl {lo hi : Option Expr} {fl fh : Option EX} {tl th : TO} (ha : J X T W a fa) (hl : JO X T W lo fl tl) (hh : JO X T W hi fh th) : J X T W (.Subscript a (.Slice lo hi none p2) pos) (eSl fa fl fh) :=
  pe_weak (pe_slice sl_two ha hl.po hh.po) fun s H Q ⟨e, st, m, he, ok, h⟩ => ⟨e, st, m, he, ok, h.bind fun d x st1 H1 m1 _ l p ok1 rx h1 => by
    refine hl.weak _ _ _ ⟨e, st1, m1, he.mono l p, ok1, ?_⟩
    refine Den.bind (RC := RD X.K) (Q := Q) (k := fun l st2 => (eO fh e st2).bind fun h st3 => match d with
      | .tup xs => .ok (.tup (cutD xs l h)) st3
      | .ref i => match cellItems st3[i]? with
        | some xs => .ok (.ref st3.length) (st3 ++ [Cell.lst (cutD xs l h)])
        | none => .no
      | _ => .no) ?_ fun lo' lo2 st2 H2 m2 _ l2 p2 ok2 r2 h2 => ?_
    · cases fl <;> cases fh <;> exact h1
    · cases r2
      refine hh.weak _ _ _ ⟨e, st2, m2, (he.mono l p).mono l2 p2, ok2, h2.bind fun hi' hi2 st3 H3 m3 _ l3 p3 ok3 r3 h3 => ?_⟩
      cases r3
      have rx := (rx.mono l2 p2).mono l3 p3
      cases d with
      | tup xs =>
        obtain ⟨a, vs, rfl, q1, q2⟩ := rx
        refine .inr ⟨a, vs, rfl, q1, fun hw => ?_, fun _ p hp => ?_⟩
        · refine h3 _ H3 m3 (.refl H3) (.refl m3) ok3 ⟨a, vs, rfl, q1, ?_⟩
          have z : cutV vs lo' hi' = vs := by
            unfold cutV
            rw [hw.1, hw.2, List.drop_zero, Nat.sub_zero, List.take_length]
          rw [← z]
          exact reps_cut q2
        · exact h3 _ _ m3 (Le.new hp) (.refl m3) (ok3.new hp) ⟨p, _, rfl, .of upd_same, (reps_cut q2).mono (Le.new hp) (.refl m3)⟩
      | ref i =>
        obtain ⟨a, hm, rfl⟩ := rx
        cases hc : cellItems st3[i]? with
        | none => simp only [hc] at h3; exact False.elim h3
        | some xs =>
          simp only [hc] at h3
          obtain ⟨a', vs, q1, q2, q3⟩ := cellItems_ok ok3 hc
          rw [hm] at q1; cases q1
          exact .inl ⟨a, vs, rfl, q2, fun p hp => h3 _ _ (m3 ++ [p]) (Le.new hp) (.add m3 p) (ok3.newCell hp (reps_cut q3)) ⟨p, by rw [← ok3.len]; simp, rfl⟩⟩
      | non | bl _ | str _ | int _ => exact False.elim h3⟩
theorem js_store {i : Expr} {fi : EX} (ha : J X T W a fa) (hi : J X T W i fi) (hb : J X T W b fb) (hs : swapsWithSole [.Subscript a i p2] b pos.line X.env = pure false := by rfl) (hw : swappedStores [.Subscript a i p2] b X.env = pure none := by rfl)
    (h1 : (assignEach [.Subscript a i p2] X.env).map (·.2) = [assign (.Subscript a i p2) X.env] := by rfl)
    (h2 : ∀ v, assign (.Subscript a i p2) X.env v = (do
      let ov ← holding [v] (eval a X.env)
      let iv ← holding [v, ov] (eval i X.env)
      standAt p2
      holding [v, ov, iv] (setItem ov iv v)
      release [v, ov, iv] []) := by intro _; rfl) : JS X T W (.Assign [.Subscript a i p2] b pos) (sStore fa fi fb) :=
  ps_weak (ps_asg hb (pg_sub ha hi set_list h2) hs hw h1) fun F s H ⟨e, st, m, he, ok, h⟩ =>
    ⟨e, st, m, he, ok, st_of he h fun v vv st1 H1 m1 _ l p ok1 rv h1 =>
      ⟨e, st1, m1, he.mono l p, ok1, st_of (he.mono l p) h1 fun x xv st2 H2 m2 _ l2 p2 ok2 rx h2 =>
        ⟨e, st2, m2, (he.mono l p).mono l2 p2, ok2, st_of ((he.mono l p).mono l2 p2) h2 fun k kv st3 H3 m3 _ l3 p3 ok3 rk h3 => by
          cases x with
          | ref j =>
            cases k with
            | int n =>
              obtain ⟨q, hm, rfl⟩ := rx.mono l3 p3
              cases rk
              cases hx : lstOf st3 (.ref j) with
              | none => simp only [hx] at h3; exact False.elim h3
              | some xs =>
                simp only [hx] at h3
                cases hp : ixN xs.length n with
                | none => simp only [hp] at h3; exact False.elim h3
                | some k =>
                  simp only [hp] at h3
                  obtain ⟨a', vs, q1, q2, q3⟩ := lst_of ok3 hx
                  rw [hm] at q1; cases q1
                  have hst : st3[j]? = some (.lst xs) := by
                    unfold lstOf at hx
                    simp only at hx
                    split at hx
                    · rename_i z hz; cases hx; exact hz
                    · cases hx
                  have le := Le.set (o := .lst (vs.set k vv)) q2
                  refine ⟨q, vs, n, k, rfl, rfl, q2, by rw [← Reps.length q3]; exact hp, ?_⟩
                  exact h3 s _ m3 le (.refl m3) (ok3.setCell hst hm q2 (q3.set ((rv.mono l2 p2).mono l3 p3))) ((((he.mono l p).mono l2 p2).mono l3 p3).mono le (.refl m3))
            | non | bl _ | str _ | tup _ | ref _ => exact False.elim h3
          | non | bl _ | str _ | tup _ | int _ => exact False.elim h3⟩⟩⟩
end
end Mm

namespace Mm
open PySem L2
/-! ### what a def hands back -/
mutual
def lowD (n : Nat) : D → Bool
  | .ref i => decide (i < n)
  | .tup xs => lowDs n xs
  | _ => true
def lowDs (n : Nat) : List D → Bool
  | [] => true
  | x :: xs => lowD n x && lowDs n xs
end
def lowC (n : Nat) : Cell → Bool
  | .lst xs => lowDs n xs
  | .ro xs => lowDs n xs
def lowS (n : Nat) (st : Sto) : Bool := st.all (lowC n)
/-- the cells from n on are dropped where nothing leads to them -/
def fin (st : Sto) (d : D) (st' : Sto) : R D :=
  if st'.take st.length = st ∨ lowS st.length (st'.take st.length) = true then
    if lowD st.length d = true then .ok d (st'.take st.length)
    else match d with
      | .ref j => match st'[j]? with
        | some (.lst xs) => if lowDs st.length xs = true then .ok (.ref st.length) (st'.take st.length ++ [.lst xs]) else .ok d st'
        | _ => .ok d st'
      | _ => .ok d st'
  else .ok d st'
def fnS (ns : Nat) (body : SX) : List D → Sto → R D := fun ds st => match body (ds.map some ++ List.replicate (ns - ds.length) none) st with
  | .nx _ st' => fin st .non st'
  | .ret d st' => fin st d st'
  | .exc x _ st' => .ex x st'
  | _ => .no
section
variable {K : PySem.W.Frag} {T : List (Addr × Str)} {H : Hp} {m : List Addr} {st : Sto}
mutual
theorem rep_low {n : Nat} : ∀ {d : D} {v : V}, Rep K H m d v → lowD n d = true → Rep K H (m.take n) d v
  | .non, _, h, _ => h
  | .bl _, _, h, _ => h
  | .int _, _, h, _ => h
  | .str _, _, h, _ => h
  | .tup xs, _, h, l => by
    obtain ⟨a, vs, h1, h2, h3⟩ := h
    exact ⟨a, vs, h1, h2, reps_low h3 l⟩
  | .ref i, _, h, l => by
    obtain ⟨a, h1, h2⟩ := h
    have l : i < n := of_decide_eq_true l
    exact ⟨a, by rw [List.getElem?_take_of_lt l]; exact h1, h2⟩
theorem reps_low {n : Nat} : ∀ {ds : List D} {vs : List V}, Reps K H m ds vs → lowDs n ds = true → Reps K H (m.take n) ds vs
  | [], _, h, _ => h
  | d :: ds, _, h, l => by
    obtain ⟨v, r, h1, h2, h3⟩ := h
    simp only [lowDs, Bool.and_eq_true] at l
    exact ⟨v, r, h1, rep_low h2 l.1, reps_low h3 l.2⟩
end
mutual
theorem low_of : ∀ {d : D} {v : V}, Rep K H m d v → lowD m.length d = true
  | .non, _, h => rfl
  | .bl _, _, h => rfl
  | .int _, _, h => rfl
  | .str _, _, h => rfl
  | .tup xs, _, h => by
    obtain ⟨a, vs, h1, h2, h3⟩ := h
    exact lows_of h3
  | .ref i, _, h => by
    obtain ⟨a, h1, h2⟩ := h
    exact decide_eq_true (List.getElem?_eq_some_iff.mp h1).1
theorem lows_of : ∀ {ds : List D} {vs : List V}, Reps K H m ds vs → lowDs m.length ds = true
  | [], _, h => rfl
  | d :: ds, _, h => by
    obtain ⟨v, r, h1, h2, h3⟩ := h
    simp only [lowDs, low_of h2, lows_of h3, Bool.and_self]
end
theorem lowS_of (ok : Ok K T H m st) : lowS st.length st = true := by
  unfold lowS
  rw [List.all_eq_true]
  intro c hc
  obtain ⟨i, hi⟩ := List.mem_iff_getElem?.mp hc
  obtain ⟨a, h1, h2⟩ := ok.cell i c hi
  obtain ⟨ds, vs, h3, _, h4⟩ := h2.list
  have z := lows_of h4
  rw [ok.len] at z
  rcases h3 with rfl | rfl <;> exact z
theorem cell_low {n : Nat} {a : Addr} {c : Cell} (h : CellOk K H m a c) (l : lowC n c = true) : CellOk K H (m.take n) a c := by
  cases c with
  | lst xs =>
    obtain ⟨vs, h1, h2⟩ := h
    exact ⟨vs, h1, reps_low h2 l⟩
  | ro xs =>
    obtain ⟨vs, h1, h2⟩ := h
    exact ⟨vs, h1, reps_low h2 l⟩
theorem Ok.take {n : Nat} (ok : Ok K T H m st) (l : lowS n (st.take n) = true) : Ok K T H (m.take n) (st.take n) := by
  refine ⟨by rw [List.length_take, List.length_take, ok.len], fun i j a xs ys h1 h2 h3 h4 => ?_, fun i c hc => ?_, ok.tabs⟩
  · have g : ∀ {i : Nat} {a : Addr}, (m.take n)[i]? = some a → m[i]? = some a := fun {i a} h => by
      have hi : i < n := by
        have := (List.getElem?_eq_some_iff.mp h).1
        rw [List.length_take] at this
        omega
      rw [List.getElem?_take_of_lt hi] at h; exact h
    have g2 : ∀ {i : Nat} {a : Cell}, (st.take n)[i]? = some a → st[i]? = some a := fun {i a} h => by
      have hi : i < n := by
        have := (List.getElem?_eq_some_iff.mp h).1
        rw [List.length_take] at this
        omega
      rw [List.getElem?_take_of_lt hi] at h; exact h
    exact ok.nd i j a xs ys (g h1) (g h2) (g2 h3) (g2 h4)
  · have hi : i < n := by
      have := (List.getElem?_eq_some_iff.mp hc).1
      rw [List.length_take] at this
      omega
    have lc : lowC n c = true := List.all_eq_true.mp l c (List.mem_of_getElem? hc)
    rw [List.getElem?_take_of_lt hi] at hc
    obtain ⟨a, h1, h2⟩ := ok.cell i c hc
    exact ⟨a, by rw [List.getElem?_take_of_lt hi]; exact h1, cell_low h2 lc⟩
/-- what is told of fin -/
theorem fin_ok {mg : Str → Option Value} {W : WX} {s : L2.St} {H' : Hp} {m' : List Addr} {st' : Sto} {d : D} {v : V} {Q : VK} (hm : m.length = st.length) (ok0 : lowS st.length st = true) (h : Den K T mg W (RD K) s H m (fin st d st') Q) (le : Le H H') (pr : Pre m m') (ok : Ok K T H' m' st') (r : Rep K H' m' d v) : Q v H' := by
  unfold fin at h
  have et : m'.take st.length = m := pr.take hm.symm
  split at h
  · rename_i hl
    have hlow : lowS st.length (st'.take st.length) = true := by
      rcases hl with e | e
      · rw [e]; exact ok0
      · exact e
    have okt := ok.take hlow
    rw [et] at okt
    split at h
    · rename_i hd
      have rt := rep_low r hd
      rw [et] at rt
      exact h v H' m le (.refl m) okt rt
    · split at h
      · rename_i j hj
        split at h
        · rename_i xs hx
          split at h
          · rename_i hxs
            obtain ⟨a, h1, rfl⟩ := r
            obtain ⟨a', vs, h2, h3, h4⟩ := ok.lst hx
            rw [h1] at h2; cases h2
            have h4 := reps_low h4 hxs
            rw [et] at h4
            refine h _ H' (m ++ [a]) le (.add m a) ?_ ⟨a, by rw [← hm]; simp, rfl⟩
            -- the cell itself, behind the old ones
            have lenT : (st'.take st.length).length = st.length := by rw [← okt.len, hm]
            refine ⟨by simp [okt.len], fun i k b ys zs q1 q2 q3 q4 => ?_, fun i c hc => ?_, ok.tabs⟩
            · have key : ∀ (i : Nat) (b : Addr) (ys : List D), (m ++ [a])[i]? = some b → (st'.take st.length ++ [Cell.lst xs])[i]? = some (.lst ys) → ∃ i' ys', m'[i']? = some b ∧ st'[i']? = some (.lst ys') ∧ ((i' < st.length ∧ i = i') ∨ (i' = j ∧ i = st.length)) := by
                intro i b ys q1 q3
                by_cases hi : i < st.length
                · rw [List.getElem?_append_left (by rw [hm]; exact hi)] at q1
                  rw [List.getElem?_append_left (by rw [lenT]; exact hi), List.getElem?_take_of_lt hi] at q3
                  exact ⟨i, ys, pr.get q1, q3, .inl ⟨hi, rfl⟩⟩
                · have hi2 : i = st.length := by
                    have := (List.getElem?_eq_some_iff.mp q1).1
                    simp [hm] at this; omega
                  subst hi2
                  rw [← hm] at q1
                  simp at q1
                  subst q1
                  exact ⟨j, xs, h1, hx, .inr ⟨rfl, rfl⟩⟩
              obtain ⟨i', ys', a1, a2, a3⟩ := key i b ys q1 q3
              obtain ⟨k', zs', b1, b2, b3⟩ := key k b zs q2 q4
              have e := ok.nd i' k' b ys' zs' a1 b1 a2 b2
              have hjn : ¬ j < st.length := fun z => by
                have : lowD st.length (.ref j) = true := decide_eq_true z
                rename_i hnd
                exact absurd this (by first | exact hnd | assumption)
              rcases a3 with ⟨a3, a4⟩ | ⟨a3, a4⟩ <;> rcases b3 with ⟨b3, b4⟩ | ⟨b3, b4⟩ <;> omega
            · by_cases hi : i < st.length
              · rw [List.getElem?_append_left (by rw [lenT]; exact hi)] at hc
                obtain ⟨b, g1, g2⟩ := okt.cell i c hc
                exact ⟨b, by rw [List.getElem?_append_left (by rw [hm]; exact hi)]; exact g1, g2.mono (.refl _) (.add m a) fun _ _ => rfl⟩
              · have hi2 : i = st.length := by
                  have := (List.getElem?_eq_some_iff.mp hc).1
                  simp [lenT] at this; omega
                subst hi2
                have hc : (List.take st.length st' ++ [Cell.lst xs])[(List.take st.length st').length]? = some c := by rw [lenT]; exact hc
                simp at hc
                subst hc
                exact ⟨a, by rw [← hm]; simp, vs, h3, h4.mono (.refl _) (.add m a)⟩
          · exact h v H' m' le pr ok r
        · exact h v H' m' le pr ok r
      · exact h v H' m' le pr ok r
  · exact h v H' m' le pr ok r
end
/-! ### defs and their calls: the frames around hold no guard -/
structure FnG (P : Program) (w : World) (K : PySem.W.Frag) (mg : Str → Option Value) (base : Heap) (CX : CXT) (k : Nat) (f : Addr) (fd : FuncData) (ps : List Str) (sp : Sp) : Prop where
  len : ∀ vs H Q E, sp vs H Q E → vs.length = ps.length
  run : ∀ (A : Around) (outer : List PySem.Env) (s : Shared) (H : Hp) (args : Args) (us : List Value) (vs : List V) (Q : VK) (E : XK), A.guards = some [] → Room k A → Env0 P w K mg base A outer s H → BindsTo s fd args (ps.zip us) → Vals vs us → sp vs H Q E →
    codeAny (model P w) A (.call (.ref f) args) (CR CX outer P w H s Q E) s
def DenF (K : PySem.W.Frag) (T : List (Addr × Str)) (mg : Str → Option Value) (H : Hp) (m : List Addr) (r : R D) (Q : VK) (E : XK) : Prop := Den K T mg (fun cls dd _ H' => E cls dd H') (RD K) [] H m r Q
def SpG (K : PySem.W.Frag) (T : List (Addr × Str)) (mg : Str → Option Value) (n : Nat) (g : List D → Sto → R D) : Sp := fun vs H Q E => vs.length = n ∧ ∃ ds st m, Reps K H m ds vs ∧ Ok K T H m st ∧ DenF K T mg H m (g ds st) Q E
section
variable {P : Program} {w : World} {K : PySem.W.Frag} {mg : Str → Option Value} {base : Heap} {T : List (Addr × Str)}
/-- the context of a def's body -/
abbrev CxB (P : Program) (w : World) (K : PySem.W.Frag) (mg : Str → Option Value) (base : Heap) (N : List Str) (qual : Str) (st : Stmt) (f : Addr) (cdv : Value) (A : Around) (outer : List PySem.Env) (s : Shared) (H : Hp) (E : XK) : Cx :=
  cxOf (L2.CX P w) P w K mg base N qual (defScope st) f cdv A outer s H E
theorem env_start {H : Hp} {m : List Addr} {ds : List D} {vs : List V} {N : List Str} (h : Reps K H m ds vs) : EnvOk K H m (L2.start N vs) (ds.map some ++ List.replicate (N.length - ds.length) none) := by
  have e := Reps.length h
  refine ⟨by simp [L2.start, e], fun i d hd => ?_⟩
  by_cases hi : i < ds.length
  · rw [List.getElem?_append_left (by simpa using hi), List.getElem?_map] at hd
    cases hx : ds[i]? with
    | none => rw [hx] at hd; cases hd
    | some x =>
      rw [hx] at hd
      cases hd
      obtain ⟨v, h1, h2⟩ := h.get hx
      refine ⟨v, ?_, h2⟩
      unfold L2.start
      rw [List.getElem?_append_left (by simp [← e]; exact hi), List.getElem?_map, h1]
      rfl
  · rw [List.getElem?_append_right (by simpa using hi), List.getElem?_replicate] at hd
    split at hd <;> cases hd
theorem fnG_ok {x qual : Str} {st : Stmt} {f : Addr} {fd : FuncData} {N ps : List Str} {k : Nat} {body : SX} (F : Fun K x qual st f fd) (S : FnScope N ps (defScope st))
    (hb : ∀ (cdv : Value) (A : Around) (outer : List PySem.Env) (s : Shared) (H : Hp) (E : XK), A.guards = some [] → Room k (CxB P w K mg base N qual st f cdv A outer s H E).A → Takes (CxB P w K mg base N qual st f cdv A outer s H E) (fun cls dd _ H' => E cls dd H') →
      JB (CxB P w K mg base N qual st f cdv A outer s H E) T (fun cls dd _ H' => E cls dd H') (defBody st) body) :
    FnG P w K mg base (L2.CX P w) (k + 1) f fd ps (SpG K T mg ps.length (fnS N.length body)) := by
  refine ⟨fun vs H Q E h => h.1, ?_⟩
  obtain ⟨oc, od, kV, doc, pm, an, cdv, ct, osl, rfl, lk, hcd⟩ := F.ex
  intro A outer s H args us vs Q E hgd hr e0 hbd rv ⟨hl, ds, sto, m, hreps, ok, hden⟩
  have KX : K.In s.heap := e0.mod.kin.keeps fun b o e => (e0.bs b o e).1
  have lim0 : s.heap.NoLimit := e0.mod.nolimit.keeps fun b o e => (e0.bs b o e).1
  have hkind : ∀ y ∈ ps.zip us, (defScope st).names.lookup y.1 = some .local ∨ ((defScope st).names.lookup y.1 = some .cell ∧ ((cellsFrom (s.heap.objs.size + 1) (defScope st).names []).lookup y.1).isSome = true) := fun ⟨n, v⟩ hy => by
    rcases S.par n (List.of_mem_zip hy).1 with q | q
    · exact .inl q
    · exact .inr ⟨q, PySem.W.cellsFrom_some _ _ _ (.inl q)⟩
  refine codeAny_call_function hr.depth (KX _ _ lk) rfl S.co S.gen rfl (PySem.W.codeRec_of KX hcd) (hbd _ _ _ _ ?_)
  refine wpAny_newFunctionEnv_cells S.kind hkind fun env he s1 x => ?_
  subst he
  refine ⟨lim0.keeps x.toInCall.keep, codeAny_func ?_⟩
  have hj := hb cdv A outer s H E hgd (hr.deeper _) (takes_of rfl rfl rfl rfl)
  have I : Inv (CxB P w K mg base N qual st f cdv A outer s H E) [] (L2.start N vs) H s1 := inv_start S hr.hd e0 hl rv x
  have hq : tS K T mg (fun cls dd _ H' => E cls dd H') body { nx := fun _ H' => Q .non H', rt := Q } (L2.start N vs) H := by
    refine ⟨_, sto, m, env_start hreps, ok, ?_⟩
    have hd : Den K T mg (fun cls dd _ H' => E cls dd H') (RD K) [] H m (fnS N.length body ds sto) Q := hden
    have l0 := lowS_of ok
    have hml := ok.len
    unfold fnS at hd
    revert hd
    generalize body (ds.map some ++ List.replicate (N.length - ds.length) none) sto = r
    intro hd
    cases r with
    | no => exact hd
    | brk _ _ => exact False.elim hd
    | ct _ _ => exact False.elim hd
    | nx e' st' => exact fun s' H' m' le pr ok' _ => fin_ok hml l0 hd le pr ok' rfl
    | ret d st' => exact fun v H' m' le pr ok' rv' => fin_ok hml l0 hd le pr ok' rv'
    | exc x e' st' => exact fun cls dd s' H' m' le pr ok' _ xr => hd cls dd H' m' le pr ok' xr
  refine wpAny_mono (hj.run [] s1 (L2.start N vs) H _ I hq) (fun fl s' hs => ?_) fun e s' hs => hs
  have done : ∀ {σ' : L2.St} {H' : Hp} {v : V} {u : Value}, Inv (CxB P w K mg base N qual st f cdv A outer s H E) [] σ' H' s' → RelV v u → Q v H' → CE outer P w H s Q u s' :=
    fun {σ' H' v u} Jv rv q => ⟨v, H', Jv.os, Jv.bare, Jv.base, Jv.hok, rv, q⟩
  cases fl with
  | ret u =>
    obtain ⟨v, σ', H', Jv, rv', q⟩ := hs
    exact done Jv rv' q
  | next =>
    obtain ⟨σ', H', Jv, q⟩ := hs
    exact done (v := V.non) (u := Value.none) Jv rfl q
  | brk =>
    obtain ⟨_, _, _, z⟩ := hs
    exact False.elim z
  | cont =>
    obtain ⟨_, _, _, z⟩ := hs
    exact False.elim z
end
section
variable {X : Cx} {T : List (Addr × Str)} {W : WX} {k : Nat} {f : Addr} {fd : FuncData} {ps : List Str} {g : List D → Sto → R D} {x : Str} {p pos : Pos} {e : Expr} {es : List Expr} {fr : AX}
/-- f(e, ..) -/
theorem j_call (F : FnG X.prog X.w X.K X.mg X.base (L2.CX X.prog X.w) k f fd ps (SpG X.K T X.mg ps.length g)) (hgd : X.A.guards = some []) (hr : Room k X.A) (tk : Takes X W) (hg : Gl X x) (hm : X.mg x = some (.ref f)) (hk : PySem.W.keepIn X.K (.ref f) = true) (hb : Binds X.K fd ps [])
    (ha : JA X T W (e :: es) fr) (hn : (e :: es).length = ps.length := by rfl) (hdb : (x == ("__debug__" : Str)) = false := by decide) (he : starEach (e :: es) X.env = (false, eval e X.env) :: starEach es X.env := by rfl) (hpl : (backTo pos (starEach es X.env)).any (·.1) = false := by rfl) :
    J X T W (.Call (.Name x p) (e :: es) [] pos) (eCall g fr) := by
  refine ⟨fun pins s σ H Q I h => ?_⟩
  refine wpAny_Call_Name_kw (ld_glob I hg hm ?_ hdb)
  obtain ⟨en, st, m, hen, ok, h⟩ := h
  have key : tA X.K T X.mg W fr σ H (fun vs H1 => SpG X.K T X.mg ps.length g vs H1 Q (WE W σ)) := ⟨en, st, m, hen, ok, h.bind fun ds vs st1 H1 m1 hf l p1 ok1 rs h1 => by
    refine ⟨by rw [← Reps.length rs, ha.len _ _ _ _ hf]; exact hn, ds, st1, m1, rs, ok1, ?_⟩
    revert h1
    generalize g ds st1 = r
    intro h1
    cases r with
    | no => exact h1
    | ok d st2 => exact h1
    | ex xx st2 => exact h1⟩
  refine PySem.W.callWith_K (h₀ := X.base) I.ok.mod.kin hk (thn (ha.pa.run pos pins s σ H _ I key) fun us s1 ⟨vs, H1, I1, r, q⟩ => ⟨I1.kIn, ?_⟩) he hpl
  have hl : us.length = ps.length := by rw [← r.length]; exact F.len _ _ _ _ q
  have b := hb s1 us I1.kIn (by rw [List.append_nil]; exact hl)
  rw [List.append_nil] at b
  refine wpAny_call (codeAny_mono (F.run X.A X.stack s1 H1 ⟨us, []⟩ us vs Q (WE W σ) hgd hr I1.env0 b r q) fun r s' hq => ?_)
  cases r with
  | error e => exact passAt tk σ pins H1 s1 e s' I1 hq
  | ok fl =>
    cases fl with
    | ret u => exact I1.after hq
    | next => exact False.elim hq
    | brk => exact False.elim hq
    | cont => exact False.elim hq
end
end Mm

namespace Mm
open PySem L2
/-! ### built-ins -/
def intsOf : List D → Option (List Int)
  | [] => some []
  | .int i :: r => (intsOf r).map fun l => i :: l
  | _ :: _ => none
def boolsOf : List D → Option (List Bool)
  | [] => some []
  | .bl i :: r => (boolsOf r).map fun l => i :: l
  | _ :: _ => none
def maxI (a : Int) (l : List Int) : Int := l.foldl (fun a y => if a < y then y else a) a
def minI (a : Int) (l : List Int) : Int := l.foldl (fun a y => if y < a then y else a) a
def oLen : ON := fun ds st => match ds with
  | [d] => match d with
    | .str x => if x.length ≤ lim then some (.int x.length, st) else none
    | d => (seqOf st d).map fun xs => (.int xs.length, st)
  | _ => none
def oInt : ON := fun ds st => match ds with
  | [.int i] => some (.int i, st)
  | [.bl b] => some (.int (if b = true then 1 else 0), st)
  | _ => none
def oListOf : ON := fun ds st => match ds with
  | [d] => (seqOf st d).map fun xs => (.ref st.length, st ++ [.lst xs])
  | _ => none
def oTupOf : ON := fun ds st => match ds with
  | [d] => (seqOf st d).map fun xs => (.tup xs, st)
  | _ => none
def oMax : ON := fun ds st => match ds with
  | [.int i, .int j] => some (.int (if j > i then j else i), st)
  | [d] => match (seqOf st d).bind intsOf with
    | some (a :: l) => some (.int (maxI a l), st)
    | _ => none
  | _ => none
def oMin : ON := fun ds st => match ds with
  | [.int i, .int j] => some (.int (if j < i then j else i), st)
  | [d] => match (seqOf st d).bind intsOf with
    | some (a :: l) => some (.int (minI a l), st)
    | _ => none
  | _ => none
def oSum : ON := fun ds st => match ds with
  | [d] => ((seqOf st d).bind intsOf).map fun l => (.int l.sum, st)
  | _ => none
def oGcd : ON := fun ds st => match ds with
  | [.int i, .int j] => some (.int ((Nat.gcd i.natAbs j.natAbs : Nat) : Int), st)
  | _ => none
def oAny : ON := fun ds st => match ds with
  | [.ref i] => ((cellItems st[i]?).bind boolsOf).map fun l => (.bl (l.any id), st)
  | _ => none
def oAll : ON := fun ds st => match ds with
  | [.ref i] => ((cellItems st[i]?).bind boolsOf).map fun l => (.bl (l.all id), st)
  | _ => none
/-! how long a repr may be, at most -/
mutual
def wide : PyData → Nat
  | .none => 4
  | .bool _ => 5
  | .int i => (toString i : String).length
  | .str x => (reprText x).length
  | .list xs => 2 + wides xs
  | .tuple xs => 3 + wides xs
  | .dict _ => 100000000
def wides : List PyData → Nat
  | [] => 0
  | x :: xs => wide x + 2 + wides xs
end
def reprD (d : PyData) : D := .str d.shown
def oRepr : ON := fun ds st => match ds with
  | [d] => match pyS st d with
    | some p => if (p.showable && !p.hasDict && decide (p.depth ≤ 60) && decide (p.shown.length ≤ 16000000)) = true then some (reprD p, st) else none
    | none => none
  | _ => none
def tyName (st : Sto) : D → Option String
  | .non => some "NoneType"
  | .bl _ => some "bool"
  | .int _ => some "int"
  | .str _ => some "str"
  | .tup _ => some "tuple"
  | .ref i => match st[i]? with
    | some (.lst _) => some "list"
    | _ => none
def oIsi (t : String) : O1 := fun d st => match tyName st d with
  | some a => (kitB a t).map fun b => (.bl b, st)
  | none => none
section
variable {X : Cx} {T : List (Addr × Str)} {W : WX} {f : Value} {o : ON}
theorem cr_of (h : ∀ ds st m H xs r Q, Reps X.K H m ds xs → Ok X.K T H m st → o ds st = some r → DenO X.K T H m (some r) Q → ∃ f2 : List V → Hp → VK → Prop, CallR X f f2 ∧ f2 xs H Q) : CallR X f (rN X.K T o) := by
  intro pins s σ H xs us Q I rx hh
  obtain ⟨ds, st, m, q1, ok, q3⟩ := hh
  cases ho : o ds st with
  | none => rw [ho] at q3; exact False.elim q3
  | some r =>
    rw [ho] at q3
    obtain ⟨f2, k1, k2⟩ := h ds st m H xs r Q q1 ok ho q3
    exact k1 pins s σ H xs us Q I rx k2
theorem reps_ints {K : PySem.W.Frag} {H : Hp} {m : List Addr} : ∀ {ds : List D} {vs : List V} {ns : List Int}, Reps K H m ds vs → intsOf ds = some ns → vs = ns.map V.int
  | [], _, _, h, e => by cases h; cases e; rfl
  | d :: ds, _, ns, h, e => by
    obtain ⟨v, r, rfl, h1, h2⟩ := h
    cases d with
    | int i =>
      simp only [intsOf, Option.map_eq_some_iff] at e
      obtain ⟨l, e1, rfl⟩ := e
      rw [show v = V.int i from h1, reps_ints h2 e1]
      rfl
    | non | bl _ | str _ | tup _ | ref _ => simp [intsOf] at e
theorem reps_bools {K : PySem.W.Frag} {H : Hp} {m : List Addr} : ∀ {ds : List D} {vs : List V} {ns : List Bool}, Reps K H m ds vs → boolsOf ds = some ns → vs = ns.map V.bl
  | [], _, _, h, e => by cases h; cases e; rfl
  | d :: ds, _, ns, h, e => by
    obtain ⟨v, r, rfl, h1, h2⟩ := h
    cases d with
    | bl i =>
      simp only [boolsOf, Option.map_eq_some_iff] at e
      obtain ⟨l, e1, rfl⟩ := e
      rw [show v = V.bl i from h1, reps_bools h2 e1]
      rfl
    | non | int _ | str _ | tup _ | ref _ => simp [boolsOf] at e
/-- one argument that is a list or a tuple -/
theorem one_seq {K : PySem.W.Frag} {H : Hp} {m : List Addr} {st : Sto} {d : D} {vs : List V} {xs : List D} (ok : Ok K T H m st) (r : Reps K H m [d] vs) (h : seqOf st d = some xs) : ∃ a ws, vs = [.ref a] ∧ (SqL K H a ws ∨ SqT K H a ws) ∧ Reps K H m xs ws := by
  obtain ⟨v, r', rfl, h1, rfl⟩ := r
  obtain ⟨a, ws, rfl, h2, h3⟩ := seq_ok ok h1 h
  exact ⟨a, ws, rfl, h2, h3⟩
theorem cre_len : CallR X (.builtin "len") (rN X.K T oLen) := cr_of fun ds st m H xs r Q rx ok ho q => by
  match ds, ho, rx with
  | [d], ho, rx =>
    have seq : (seqOf st d).map (fun xs => (D.int xs.length, st)) = some r → ∃ f2 : List V → Hp → VK → Prop, CallR X (.builtin "len") f2 ∧ f2 xs H Q := fun ho => by
      simp only [Option.map_eq_some_iff] at ho
      obtain ⟨ys, h1, rfl⟩ := ho
      obtain ⟨a, ws, rfl, h2, h3⟩ := one_seq ok rx h1
      exact ⟨_, call_len_seq, a, ws, rfl, h2, deno_val q ok (by rw [Reps.length h3]; rfl)⟩
    cases d with
    | str x =>
      simp only [oLen] at ho
      split at ho
      · rename_i hl
        cases ho
        obtain ⟨v, r', rfl, h1, rfl⟩ := rx
        cases h1
        exact ⟨_, call_len_str, x, rfl, lim_le hl, deno_val q ok rfl⟩
      · cases ho
    | tup _ => exact seq ho
    | ref _ => exact seq ho
    | non => cases ho
    | bl _ => cases ho
    | int _ => cases ho
  | [], ho, _ => cases ho
  | _ :: _ :: _, ho, _ => simp [oLen] at ho
theorem cre_int : CallR X (.type "int") (rN X.K T oInt) := cr_of fun ds st m H xs r Q rx ok ho q => by
  match ds, ho, rx with
  | [d], ho, rx =>
    cases d with
    | int i =>
      cases ho
      obtain ⟨v, r', rfl, h1, rfl⟩ := rx
      cases h1
      exact ⟨_, call_int1, .inl ⟨i, rfl, deno_val q ok rfl⟩⟩
    | bl i =>
      cases ho
      obtain ⟨v, r', rfl, h1, rfl⟩ := rx
      cases h1
      exact ⟨_, call_int1, .inr ⟨i, rfl, deno_val q ok rfl⟩⟩
    | tup _ | ref _ | non | str _ => cases ho
  | [], ho, _ => cases ho
  | _ :: _ :: _, ho, _ => simp [oInt] at ho
theorem cre_list : CallR X (.type "list") (rN X.K T oListOf) := cr_of fun ds st m H xs r Q rx ok ho q => by
  match ds, ho, rx with
  | [d], ho, rx =>
    simp only [oListOf, Option.map_eq_some_iff] at ho
    obtain ⟨ys, h1, rfl⟩ := ho
    obtain ⟨a, ws, rfl, h2, h3⟩ := one_seq ok rx h1
    exact ⟨_, call_list_of, a, ws, rfl, h2, deno_lst q ok h3⟩
  | [], ho, _ => cases ho
  | _ :: _ :: _, ho, _ => simp [oListOf] at ho
theorem cre_tuple : CallR X (.type "tuple") (rN X.K T oTupOf) := cr_of fun ds st m H xs r Q rx ok ho q => by
  match ds, ho, rx with
  | [d], ho, rx =>
    simp only [oTupOf, Option.map_eq_some_iff] at ho
    obtain ⟨ys, h1, rfl⟩ := ho
    obtain ⟨a, ws, rfl, h2, h3⟩ := one_seq ok rx h1
    refine ⟨_, call_tuple_of, a, ws, rfl, ?_⟩
    rcases h2 with h2 | h2
    · exact .inl ⟨h2, deno_tup q ok h3⟩
    · exact .inr ⟨h2, deno_val q ok ⟨a, ws, rfl, h2, h3⟩⟩
  | [], ho, _ => cases ho
  | _ :: _ :: _, ho, _ => simp [oTupOf] at ho
theorem maxI_spec : ∀ (l : List Int) (a : Int), maxI a l ∈ a :: l ∧ ∀ y ∈ a :: l, y ≤ maxI a l
  | [], a => ⟨by simp [maxI], by simp [maxI]⟩
  | b :: l, a => by
    obtain ⟨c, hc⟩ : ∃ c, c = if a < b then b else a := ⟨_, rfl⟩
    have e : maxI a (b :: l) = maxI c l := by rw [hc]; rfl
    have hc1 : a ≤ c ∧ b ≤ c ∧ (c = a ∨ c = b) := by split at hc <;> omega
    obtain ⟨h1, h2⟩ := maxI_spec l c
    rw [e]
    refine ⟨?_, fun y hy => ?_⟩
    · rcases List.mem_cons.mp h1 with z | z
      · rw [z]; rcases hc1.2.2 with q | q <;> rw [q] <;> simp
      · exact List.mem_cons_of_mem _ (List.mem_cons_of_mem _ z)
    · have hm := h2 _ List.mem_cons_self
      rcases List.mem_cons.mp hy with rfl | hy
      · omega
      · rcases List.mem_cons.mp hy with rfl | hy
        · omega
        · exact h2 y (List.mem_cons_of_mem _ hy)
theorem minI_spec : ∀ (l : List Int) (a : Int), minI a l ∈ a :: l ∧ ∀ y ∈ a :: l, minI a l ≤ y
  | [], a => ⟨by simp [minI], by simp [minI]⟩
  | b :: l, a => by
    obtain ⟨c, hc⟩ : ∃ c, c = if b < a then b else a := ⟨_, rfl⟩
    have e : minI a (b :: l) = minI c l := by rw [hc]; rfl
    have hc1 : c ≤ a ∧ c ≤ b ∧ (c = a ∨ c = b) := by split at hc <;> omega
    obtain ⟨h1, h2⟩ := minI_spec l c
    rw [e]
    refine ⟨?_, fun y hy => ?_⟩
    · rcases List.mem_cons.mp h1 with z | z
      · rw [z]; rcases hc1.2.2 with q | q <;> rw [q] <;> simp
      · exact List.mem_cons_of_mem _ (List.mem_cons_of_mem _ z)
    · have hm := h2 _ List.mem_cons_self
      rcases List.mem_cons.mp hy with rfl | hy
      · omega
      · rcases List.mem_cons.mp hy with rfl | hy
        · omega
        · exact h2 y (List.mem_cons_of_mem _ hy)
theorem maxD_ints : ∀ (l : List Int) (a : Int), PySem.W.maxD (.int a) (l.map .int) = .int (maxI a l)
  | [], a => rfl
  | b :: l, a => by
    show PySem.W.maxD (if PySem.W.dataLt (.int a) (.int b) then .int b else .int a) (l.map .int) = .int (maxI (if a < b then b else a) l)
    rw [PySem.W.dataLt_int]
    by_cases h : a < b
    · simp only [h, decide_true, if_true]; exact maxD_ints l b
    · simp only [h, decide_false, if_false, Bool.false_eq_true]; exact maxD_ints l a
theorem minD_ints : ∀ (l : List Int) (a : Int), PySem.W.minD (.int a) (l.map .int) = .int (minI a l)
  | [], a => rfl
  | b :: l, a => by
    show PySem.W.minD (if PySem.W.dataLt (.int b) (.int a) then .int b else .int a) (l.map .int) = .int (minI (if b < a then b else a) l)
    rw [PySem.W.dataLt_int]
    by_cases h : b < a
    · simp only [h, decide_true, if_true]; exact minD_ints l b
    · simp only [h, decide_false, if_false, Bool.false_eq_true]; exact minD_ints l a
theorem dpAll_ints {K : PySem.W.Frag} {H : Hp} : ∀ (ns : List Int), DpAll K H (ns.map V.int) (ns.map PyData.int)
  | [] => .nil
  | n :: ns => .cons (.int n) (dpAll_ints ns)
theorem alike_ints (ns : List Int) : PySem.W.AlikeAll (ns.map PyData.int) := by
  refine ⟨fun x hx y hy => ?_, fun x hx => ?_⟩
  · obtain ⟨i, _, rfl⟩ := List.mem_map.mp hx
    obtain ⟨j, _, rfl⟩ := List.mem_map.mp hy
    rfl
  · obtain ⟨i, _, rfl⟩ := List.mem_map.mp hx
    intro z; cases z
theorem depth_ints : ∀ ns : List Int, PyData.depthAll (ns.map PyData.int) ≤ 1
  | [] => by simp [PyData.depthAll]
  | n :: ns => by
    have := depth_ints ns
    simp only [List.map_cons, PyData.depthAll, PyData.depth]
    omega
end
end Mm

namespace Mm
open PySem L2
section
variable {X : Cx} {T : List (Addr × Str)} {W : WX}
theorem seq_bind {st : Sto} {d : D} {al : Type} {f : List D → Option al} {r : al} (h : (seqOf st d).bind f = some r) : ∃ xs, seqOf st d = some xs ∧ f xs = some r := by
  cases e : seqOf st d with
  | none => rw [e] at h; cases h
  | some xs => rw [e] at h; exact ⟨xs, rfl, h⟩
/-- max, min of one list or tuple of ints -/
theorem call_maxS (hc : X.calm = true) (hu : X.A.units + 100 < cLine) : CallR X (.builtin "max") (fun vs H Q => ∃ a b l, vs = [V.ref a] ∧ (SqL X.K H a ((b :: l).map V.int) ∨ SqT X.K H a ((b :: l).map V.int)) ∧ Q (.int (maxI b l)) H) := by
  intro pins s σ H vs us Q I rr h
  obtain ⟨a, b, l, rfl, hs, q⟩ := h
  rcases hs with hs | hs
  · refine cr_max hc pins s σ H _ us Q I rr ⟨a, b :: l, rfl, hs, by simp, fun M hM hle => ?_⟩
    obtain ⟨h1, h2⟩ := maxI_spec l b
    have e : M = maxI b l := by
      have := hle _ h1
      have := h2 _ hM
      omega
    rw [e]; exact q
  · obtain ⟨its, rv, ht, _⟩ := I.tuple hs
    rw [Vals.ref1 rr]
    obtain ⟨as, hr⟩ := Dp.readsAll I _ _ its (dpAll_ints (b :: l)) rv
    refine PySem.W.max_tuple_data (I.ok.hd hc) (show s.heap.IsTuple a its.toArray from ht) (by simpa using hr) (alike_ints (b :: l)) (by have := depth_ints (b :: l); simp only [List.map_cons] at this; omega) fun i v h' tk bs hv hread hk => ?_
    rw [maxD_ints] at hread
    have hv : ∃ t, v = Value.int (maxI b l) t := by cases hread; exact ⟨_, rfl⟩
    exact ⟨.int (maxI b l), H, I.kept hk, hv, q⟩
theorem call_minS (hc : X.calm = true) (hu : X.A.units + 100 < cLine) : CallR X (.builtin "min") (fun vs H Q => ∃ a b l, vs = [V.ref a] ∧ (SqL X.K H a ((b :: l).map V.int) ∨ SqT X.K H a ((b :: l).map V.int)) ∧ Q (.int (minI b l)) H) := by
  intro pins s σ H vs us Q I rr h
  obtain ⟨a, b, l, rfl, hs, q⟩ := h
  rcases hs with hs | hs
  · refine cr_min hc pins s σ H _ us Q I rr ⟨a, b :: l, rfl, hs, by simp, fun M hM hle => ?_⟩
    obtain ⟨h1, h2⟩ := minI_spec l b
    have e : M = minI b l := by
      have := hle _ h1
      have := h2 _ hM
      omega
    rw [e]; exact q
  · obtain ⟨its, rv, ht, _⟩ := I.tuple hs
    rw [Vals.ref1 rr]
    obtain ⟨as, hr⟩ := Dp.readsAll I _ _ its (dpAll_ints (b :: l)) rv
    refine PySem.W.min_tuple_data (I.ok.hd hc) (show s.heap.IsTuple a its.toArray from ht) (by simpa using hr) (alike_ints (b :: l)) (by have := depth_ints (b :: l); simp only [List.map_cons] at this; omega) fun i v h' tk bs hv hread hk => ?_
    rw [minD_ints] at hread
    have hv : ∃ t, v = Value.int (minI b l) t := by cases hread; exact ⟨_, rfl⟩
    exact ⟨.int (minI b l), H, I.kept hk, hv, q⟩
theorem call_sumS (hc : X.calm = true) : CallR X (.builtin "sum") (fun vs H Q => ∃ (a : Addr) (l : List Int), vs = [V.ref a] ∧ (SqL X.K H a (l.map V.int) ∨ SqT X.K H a (l.map V.int)) ∧ Q (.int l.sum) H) := by
  intro pins s σ H vs us Q I rr h
  obtain ⟨a, l, rfl, hs, q⟩ := h
  rcases hs with hs | hs
  · exact cr_sum hc pins s σ H _ us Q I rr ⟨a, l, rfl, hs, q⟩
  · obtain ⟨its, rv, ht, _⟩ := I.tuple hs
    rw [Vals.ref1 rr]
    have hi := rv.ints
    obtain ⟨xs, e⟩ := hi.allInts.items
    have hn : numsOf (intItems xs).toList = l := by rw [← e]; exact hi.numsOf
    rw [nums_intItems] at hn
    have ht : s.heap.IsTuple a (intItems xs) := by rw [← e]; exact ht
    refine PySem.W.ktm_sumG (I.ok.hd hc) ht fun h' tk t' hk => ?_
    rw [preSum_eq, List.take_of_length_le (by simp), hn]
    exact ⟨.int l.sum, H, I.kept hk, ⟨_, rfl⟩, q⟩
theorem cre_max (hc : X.calm = true) (hu : X.A.units + 100 < cLine) : CallR X (.builtin "max") (rN X.K T oMax) := cr_of fun ds st m H xs r Q rx ok ho q => by
  match ds, ho, rx with
  | [d], ho, rx =>
    have ho : (match (seqOf st d).bind intsOf with | some (a :: l) => some (D.int (maxI a l), st) | _ => none) = some r := by
      cases d <;> exact ho
    split at ho
    · rename_i b l hb
      cases ho
      obtain ⟨ys, h1, h2⟩ := seq_bind hb
      obtain ⟨a, ws, rfl, h3, h4⟩ := one_seq ok rx h1
      have e := reps_ints h4 h2
      subst e
      exact ⟨_, call_maxS hc hu, a, b, l, rfl, h3, deno_val q ok rfl⟩
    · cases ho
  | [], ho, _ => cases ho
  | [x, y], ho, rx =>
    cases x with
    | int i =>
      cases y with
      | int j =>
        cases ho
        obtain ⟨v, r', rfl, h1, v2, r2, rfl, h2, rfl⟩ := rx
        cases h1; cases h2
        exact ⟨_, call_max2 hc, i, j, rfl, deno_val q ok rfl⟩
      | non | bl _ | str _ | tup _ | ref _ => cases ho
    | non | bl _ | str _ | tup _ | ref _ => cases ho
  | _ :: _ :: _ :: _, ho, _ => simp [oMax] at ho
theorem cre_min (hc : X.calm = true) (hu : X.A.units + 100 < cLine) : CallR X (.builtin "min") (rN X.K T oMin) := cr_of fun ds st m H xs r Q rx ok ho q => by
  match ds, ho, rx with
  | [d], ho, rx =>
    have ho : (match (seqOf st d).bind intsOf with | some (a :: l) => some (D.int (minI a l), st) | _ => none) = some r := by
      cases d <;> exact ho
    split at ho
    · rename_i b l hb
      cases ho
      obtain ⟨ys, h1, h2⟩ := seq_bind hb
      obtain ⟨a, ws, rfl, h3, h4⟩ := one_seq ok rx h1
      have e := reps_ints h4 h2
      subst e
      exact ⟨_, call_minS hc hu, a, b, l, rfl, h3, deno_val q ok rfl⟩
    · cases ho
  | [], ho, _ => cases ho
  | [x, y], ho, rx =>
    cases x with
    | int i =>
      cases y with
      | int j =>
        cases ho
        obtain ⟨v, r', rfl, h1, v2, r2, rfl, h2, rfl⟩ := rx
        cases h1; cases h2
        exact ⟨_, call_min2 hc, i, j, rfl, deno_val q ok rfl⟩
      | non | bl _ | str _ | tup _ | ref _ => cases ho
    | non | bl _ | str _ | tup _ | ref _ => cases ho
  | _ :: _ :: _ :: _, ho, _ => simp [oMin] at ho
theorem cre_sum (hc : X.calm = true) : CallR X (.builtin "sum") (rN X.K T oSum) := cr_of fun ds st m H xs r Q rx ok ho q => by
  match ds, ho, rx with
  | [d], ho, rx =>
    simp only [oSum, Option.map_eq_some_iff] at ho
    obtain ⟨l, hb, rfl⟩ := ho
    obtain ⟨ys, h1, h2⟩ := seq_bind hb
    obtain ⟨a, ws, rfl, h3, h4⟩ := one_seq ok rx h1
    have e := reps_ints h4 h2
    subst e
    exact ⟨_, call_sumS hc, a, l, rfl, h3, deno_val q ok rfl⟩
  | [], ho, _ => cases ho
  | _ :: _ :: _, ho, _ => simp [oSum] at ho
theorem cre_gcd : CallR X (.builtin "math.gcd") (rN X.K T oGcd) := cr_of fun ds st m H xs r Q rx ok ho q => by
  match ds, ho, rx with
  | [x, y], ho, rx =>
    cases x with
    | int i =>
      cases y with
      | int j =>
        cases ho
        obtain ⟨v, r', rfl, h1, v2, r2, rfl, h2, rfl⟩ := rx
        cases h1; cases h2
        exact ⟨_, cr_gcd, i, j, rfl, deno_val q ok rfl⟩
      | non | bl _ | str _ | tup _ | ref _ => cases ho
    | non | bl _ | str _ | tup _ | ref _ => cases ho
  | [], ho, _ => cases ho
  | [x], ho, _ => cases x <;> cases ho
  | _ :: _ :: _ :: _, ho, _ => simp [oGcd] at ho
theorem cre_any (hc : X.calm = true) : CallR X (.builtin "any") (rN X.K T oAny) := cr_of fun ds st m H xs r Q rx ok ho q => by
  match ds, ho, rx with
  | [x], ho, rx =>
    cases x with
    | ref i =>
      simp only [oAny, Option.map_eq_some_iff] at ho
      obtain ⟨l, hb, rfl⟩ := ho
      obtain ⟨ys, h1, h2⟩ := seq_bind (st := st) (d := .ref i) hb
      obtain ⟨v, r', rfl, ⟨a, hm, rfl⟩, rfl⟩ := rx
      obtain ⟨a', ws, h3, h4, h5⟩ := cellItems_ok ok h1
      rw [hm] at h3; cases h3
      have e := reps_bools h5 h2
      subst e
      exact ⟨_, cr_any hc, a, l, rfl, h4, deno_val q ok rfl⟩
    | non | bl _ | str _ | tup _ | int _ => cases ho
  | [], ho, _ => cases ho
  | _ :: _ :: _, ho, _ => simp [oAny] at ho
theorem cre_all (hc : X.calm = true) : CallR X (.builtin "all") (rN X.K T oAll) := cr_of fun ds st m H xs r Q rx ok ho q => by
  match ds, ho, rx with
  | [x], ho, rx =>
    cases x with
    | ref i =>
      simp only [oAll, Option.map_eq_some_iff] at ho
      obtain ⟨l, hb, rfl⟩ := ho
      obtain ⟨ys, h1, h2⟩ := seq_bind (st := st) (d := .ref i) hb
      obtain ⟨v, r', rfl, ⟨a, hm, rfl⟩, rfl⟩ := rx
      obtain ⟨a', ws, h3, h4, h5⟩ := cellItems_ok ok h1
      rw [hm] at h3; cases h3
      have e := reps_bools h5 h2
      subst e
      exact ⟨_, cr_all hc, a, l, rfl, h4, deno_val q ok rfl⟩
    | non | bl _ | str _ | tup _ | int _ => cases ho
  | [], ho, _ => cases ho
  | _ :: _ :: _, ho, _ => simp [oAll] at ho
theorem dp_ref {K : PySem.W.Frag} {H : Hp} {x : V} {p : PyData} (h : Dp K H x p) : (∃ a, x = .ref a) ∨ (p = .none ∧ x = .non) ∨ (∃ b, p = .bool b ∧ x = .bl b) ∨ (∃ b, p = .int b ∧ x = .int b) ∨ (∃ b, p = .str b ∧ x = .str b) := by
  cases h with
  | non => exact .inr (.inl ⟨rfl, rfl⟩)
  | bl b => exact .inr (.inr (.inl ⟨b, rfl, rfl⟩))
  | int b => exact .inr (.inr (.inr (.inl ⟨b, rfl, rfl⟩)))
  | str b => exact .inr (.inr (.inr (.inr ⟨b, rfl, rfl⟩)))
  | lst _ _ => exact .inl ⟨_, rfl⟩
  | tup _ _ => exact .inl ⟨_, rfl⟩
theorem call_reprD (hgd : X.A.guards = some []) (hu : X.A.units + 100 < cLine) : CallR X (.builtin "repr") (fun vs H Q => ∃ x p, vs = [x] ∧ Dp X.K H x p ∧ p.showable = true ∧ p.hasDict = false ∧ p.depth ≤ 60 ∧ p.shown.length ≤ 16000000 ∧ Q (.str p.shown) H) := by
  intro pins s σ H vs us Q I rr h
  obtain ⟨x, p, rfl, hd, h1, h2, h3, h4, q⟩ := h
  obtain ⟨u, rfl, ru⟩ := vals1 rr
  have hz : p.shown.length ≤ sizeLine := Nat.le_trans h4 (by decide)
  rcases dp_ref hd with ⟨a, rfl⟩ | ⟨rfl, rfl⟩ | ⟨b, rfl, rfl⟩ | ⟨b, rfl, rfl⟩ | ⟨b, rfl, rfl⟩
  · cases ru
    obtain ⟨as, hr⟩ := Dp.reads I p _ _ hd rfl
    refine repr_of_reads' hr h1 (fun z => by rw [h2] at z; cases z) hgd (by omega) (fun _ _ e => e) (fun h' u tk hk => ?_) hz
    exact ⟨.str p.shown, H, I.kept hk, ⟨u, rfl⟩, q⟩
  · cases ru
    exact PySem.P.repr_of_none ⟨.str _, H, I.tok _, ⟨_, rfl⟩, by rw [PyData.shown_none] at q; exact q⟩
  · cases ru
    refine PySem.P.repr_of_bool ⟨.str _, H, I.tok _, ⟨_, rfl⟩, ?_⟩
    rw [PyData.shown_bool] at q
    cases b <;> exact q
  · obtain ⟨t, rfl⟩ := ru
    simp only [PyData.showable, decide_eq_true_eq] at h1
    refine PySem.P.repr_of_int h1 ⟨.str _, H, I.tok _, ⟨_, rfl⟩, ?_⟩
    rw [PyData.shown_int] at q
    exact q
  · obtain ⟨t, rfl⟩ := ru
    rw [PyData.shown_str] at q hz
    exact PySem.P.repr_of_str ⟨.str _, H, I.tok _, ⟨_, rfl⟩, q⟩ hz
theorem cre_repr (hgd : X.A.guards = some []) (hu : X.A.units + 100 < cLine) : CallR X (.builtin "repr") (rN X.K T oRepr) := cr_of fun ds st m H xs r Q rx ok ho q => by
  match ds, ho, rx with
  | [d], ho, rx =>
    simp only [oRepr] at ho
    split at ho
    · rename_i p hp
      split at ho
      · rename_i hb
        cases ho
        simp only [Bool.and_eq_true, decide_eq_true_eq, Bool.not_eq_true'] at hb
        obtain ⟨⟨⟨b1, b2⟩, b3⟩, b4⟩ := hb
        obtain ⟨v, r', rfl, h1, rfl⟩ := rx
        exact ⟨_, call_reprD hgd hu, v, p, rfl, dpS_of ok h1 hp, b1, b2, b3, b4, deno_val q ok rfl⟩
      · cases ho
    · cases ho
  | [], ho, _ => cases ho
  | _ :: _ :: _, ho, _ => simp [oRepr] at ho
/-! calls of built-ins by name -/
section
variable {e : Expr} {es : List Expr} {fr : AX} {x : Str} {p pos : Pos} {id t : String} {o : ON}
theorem nN_weak {s : L2.St} {H : Hp} {Q : VK} (h : tE X.K T X.mg W (eN o fr) s H Q) : tCB (rN X.K T o) (tA X.K T X.mg W fr) s H Q := by
  obtain ⟨en, st, m, he, ok, h⟩ := h
  exact ⟨en, st, m, he, ok, h.bind fun ds xs st1 H1 m1 _ l1 p1 ok1 rs h1 => ⟨ds, st1, m1, rs, ok1, den_of h1⟩⟩
theorem j_bi (hr : CallR X (.builtin id) (rN X.K T o)) (hg : Gl X x) (hm : X.mg x = none) (hv : bootBuiltins x = some (.builtin id)) (ha : JA X T W (e :: es) fr) (hx : x ≠ ("__name__" : Str) := by decide) (hdb : (x == ("__debug__" : Str)) = false := by decide)
    (he : starEach (e :: es) X.env = (false, eval e X.env) :: starEach es X.env := by rfl) (hpl : (backTo pos (starEach es X.env)).any (·.1) = false := by rfl) : J X T W (.Call (.Name x p) (e :: es) [] pos) (eN o fr) :=
  pe_weak (pe_callB hr hg hm hv ha.pa hx hdb he hpl) fun s H Q => nN_weak
theorem j_ty (hr : CallR X (.type t) (rN X.K T o)) (hg : Gl X x) (hm : X.mg x = none) (hv : bootBuiltins x = some (.type t)) (ha : JA X T W (e :: es) fr) (hx : x ≠ ("__name__" : Str) := by decide) (hdb : (x == ("__debug__" : Str)) = false := by decide)
    (he : starEach (e :: es) X.env = (false, eval e X.env) :: starEach es X.env := by rfl) (hpl : (backTo pos (starEach es X.env)).any (·.1) = false := by rfl) : J X T W (.Call (.Name x p) (e :: es) [] pos) (eN o fr) :=
  pe_weak (pe_callTy hr hg hm hv ha.pa hx hdb he hpl) fun s H Q => nN_weak
theorem j_bf (hr : CallR X (.builtin id) (rN X.K T o)) (hg : Gl X x) (hm : X.mg x = some (.builtin id)) (ha : JA X T W (e :: es) fr) (hdb : (x == ("__debug__" : Str)) = false := by decide)
    (he : starEach (e :: es) X.env = (false, eval e X.env) :: starEach es X.env := by rfl) (hpl : (backTo pos (starEach es X.env)).any (·.1) = false := by rfl) : J X T W (.Call (.Name x p) (e :: es) [] pos) (eN o fr) :=
  pe_weak (pe_callBfun hr hg hm ha.pa hdb he hpl) fun s H Q => nN_weak
/-- isinstance(e, T), T a built-in class by its name -/
theorem tyx_of {K : PySem.W.Frag} {H : Hp} {m : List Addr} {st : Sto} {d : D} {v : V} {a : String} (ok : Ok K T H m st) (r : Rep K H m d v) (h : tyName st d = some a) : TyX K H v (.type a) := by
  cases d with
  | non => cases r; cases h; exact .base .non
  | bl b => cases r; cases h; exact .base (.bl b)
  | int b => cases r; cases h; exact .base (.int b)
  | str b => cases r; cases h; exact .base (.str b)
  | tup ds =>
    cases h
    obtain ⟨a, vs, rfl, hs, _⟩ := r
    rcases hs with (hs | ⟨o, hs⟩) | ⟨o, its, n, hk, hc, _⟩
    · exact .base (.tup hs)
    · exact .fTuple hs
    · exact .kTuple hk hc
  | ref i =>
    simp only [tyName] at h
    split at h
    · rename_i xs hx
      cases h
      obtain ⟨a, hm, rfl⟩ := r
      obtain ⟨a', vs, h1, h2, _⟩ := ok.lst hx
      rw [hm] at h1; cases h1
      exact .base (.lst h2)
    · cases h
theorem j_isi {fa : EX} {y : Str} {p2 : Pos} (ha : J X T W e fa) (hg : Gl X "isinstance") (hm : X.mg "isinstance" = none) (hgy : Gl X y) (hmy : X.mg y = none) (hvy : bootBuiltins y = some (.type t)) (hy : y ≠ ("__name__" : Str) := by decide) (hdy : (y == ("__debug__" : Str)) = false := by decide)
    (he : starEach (e :: [.Name y p2]) X.env = (false, eval e X.env) :: starEach [.Name y p2] X.env := by rfl) (he2 : starEach (.Name y p2 :: []) X.env = (false, eval (.Name y p2) X.env) :: starEach [] X.env := by rfl) (hpl : (backTo pos (starEach [.Name y p2] X.env)).any (·.1) = false := by rfl) :
    J X T W (.Call (.Name "isinstance" p) [e, .Name y p2] [] pos) (e1 (oIsi t) fa) :=
  pe_weak (pe_callB call_isi hg hm (by decide +kernel) (pa_cons ha (pa_cons (pe_bltn hgy hmy hvy (v := .ty t) rfl hy hdy) pa_nil he2) he) (by decide) (by decide) he hpl) fun s H Q ⟨en, st, m, hen, ok, h⟩ =>
    ⟨en, st, m, hen, ok, h.bind fun d v st1 H1 m1 _ l1 p1 ok1 rv h1 => by
      show rIsi X.K [v, .ty t] H1 Q
      simp only [oIsi] at h1
      cases ht : tyName st1 d with
      | none => simp only [ht] at h1; exact False.elim h1
      | some a =>
        simp only [ht] at h1
        cases hk : kitB a t with
        | none => rw [hk] at h1; exact False.elim h1
        | some b =>
          rw [hk] at h1
          exact ⟨v, .ty t, .type a, .type t, b, rfl, .ty t, tyx_of ok1 rv ht, kit_ty hk, h1 (.bl b) H1 m1 (.refl H1) (.refl m1) ok1 rfl⟩⟩
end
/-! methods of lists -/
def oApp (x y : D) (st : Sto) : Option (D × Sto) := match x with
  | .ref i => match lstOf st (.ref i) with
    | some xs => if xs.length < lim then some (.non, st.set i (Cell.lst (xs ++ [y]))) else none
    | none => none
  | _ => none
def oExt (x y : D) (st : Sto) : Option (D × Sto) := match x, y with
  | .ref i, .ref j => match lstOf st (.ref i), lstOf st (.ref j) with
    | some xs, some ys => if xs.length + ys.length < lim then some (.non, st.set i (Cell.lst (xs ++ ys))) else none
    | _, _ => none
  | _, _ => none
def oPopAt (x y : D) (st : Sto) : Option (D × Sto) := match x, y with
  | .ref i, .int n => match lstOf st (.ref i) with
    | some xs => if xs.length ≤ lim then match ixN xs.length n with
      | some k => match xs[k]? with
        | some d => some (d, st.set i (Cell.lst (xs.eraseIdx k)))
        | none => none
      | none => none else none
    | none => none
  | _, _ => none
def oPop (x : D) (st : Sto) : Option (D × Sto) := match x with
  | .ref i => match lstOf st (.ref i) with
    | some xs => match xs[xs.length - 1]? with
      | some d => some (d, st.set i (Cell.lst xs.dropLast))
      | none => none
    | none => none
  | _ => none
theorem lst_get {st : Sto} {i : Nat} {xs : List D} (h : lstOf st (.ref i) = some xs) : st[i]? = some (.lst xs) := by
  unfold lstOf at h
  simp only at h
  split at h
  · rename_i z hz; cases h; exact hz
  · cases h
def isLst (st : Sto) (d : D) : Bool := (lstOf st d).isSome
def eM1 (o : O2) (a b : EX) : EX := fun e st => (a e st).bind fun x st1 => if isLst st1 x = true then (b e st1).bind fun y st2 => .of (o x y st2) else .no
def eM0 (o : O1) (a : EX) : EX := fun e st => (a e st).bind fun x st1 => if isLst st1 x = true then .of (o x st1) else .no
def rM1 (K : PySem.W.Frag) (T : List (Addr × Str)) (o : O2) : V → List V → Hp → VK → Prop := fun x xs H Q => ∃ dx dy st m y, xs = [y] ∧ Rep K H m dx x ∧ Rep K H m dy y ∧ Ok K T H m st ∧ DenO K T H m (o dx dy st) Q
def rM0 (K : PySem.W.Frag) (T : List (Addr × Str)) (o : O1) : V → List V → Hp → VK → Prop := fun x xs H Q => ∃ dx st m, xs = [] ∧ Rep K H m dx x ∧ Ok K T H m st ∧ DenO K T H m (o dx st) Q
theorem tyv_lst {K : PySem.W.Frag} {H : Hp} {m : List Addr} {st : Sto} {d : D} {v : V} (ok : Ok K T H m st) (r : Rep K H m d v) (h : isLst st d = true) : tyV K "list" v H := by
  unfold isLst at h
  cases hl : lstOf st d with
  | none => rw [hl] at h; cases h
  | some xs =>
    cases d with
    | ref i =>
      obtain ⟨a, hm, rfl⟩ := r
      obtain ⟨a', vs, h1, h2, _⟩ := lst_of ok hl
      rw [hm] at h1; cases h1
      exact .inl ⟨rfl, vs, .of h2⟩
    | non | bl _ | int _ | str _ | tup _ => cases hl
section
variable {a b : Expr} {fa fb : EX} {apos cpos : Pos} {name : Str} {id : String}
theorem j_m1 {o : O2} (hs : Slot "list" name id) (ht : typeOf (.builtin id) = pure (.type "method_descriptor")) (hr : MtR X id (rM1 X.K T o)) (ha : J X T W a fa) (hb : J X T W b fb)
    (hbase : attributeBase a name X.env (eval a X.env) = eval a X.env := by rfl)
    (hfew : ((backTo cpos (starEach (b :: []) X.env)).all (fun x => !x.1) && (backToKw cpos (keywordEach [] X.env)).all (fun x => x.1.isSome) && decide ((b :: ([] : List Expr)).length + ([] : List Keyword).length + (if ([] : List Keyword).isEmpty = true then 0 else 1) < 30)) = true := by rfl)
    (hline : (apos.endLine == cpos.line) = true := by rfl) (he : starEach (b :: []) X.env = (false, eval b X.env) :: starEach [] X.env := by rfl) (hpl : (backTo cpos (starEach [] X.env)).any (·.1) = false := by rfl) :
    J X T W (.Call (.Attribute a name apos) [b] [] cpos) (eM1 o fa fb) :=
  pe_weak (pe_bm PySem.F.plainAttrs_list hs ht hr ha (pa_cons hb pa_nil he) hbase hfew hline he hpl) fun s H Q ⟨e, st, m, hen, ok, h⟩ =>
    ⟨e, st, m, hen, ok, h.bind fun dx x st1 H1 m1 _ l1 p1 ok1 rx h1 => by
      by_cases hl : isLst st1 dx = true
      · have h1 : Den X.K T X.mg W (RD X.K) s H1 m1 (if isLst st1 dx = true then (fb e st1).bind fun y st2 => .of (o dx y st2) else .no) Q := h1
        rw [if_pos hl] at h1
        exact ⟨tyv_lst ok1 rx hl, e, st1, m1, hen.mono l1 p1, ok1, h1.bind fun dy y st2 H2 m2 _ l2 p2 ok2 ry h2 => ⟨dx, dy, st2, m2, y, rfl, rx.mono l2 p2, ry, ok2, den_of h2⟩⟩
      · have h1 : Den X.K T X.mg W (RD X.K) s H1 m1 (if isLst st1 dx = true then (fb e st1).bind fun y st2 => .of (o dx y st2) else .no) Q := h1
        rw [if_neg hl] at h1
        exact False.elim h1⟩
theorem j_m0 {o : O1} (hs : Slot "list" name id) (ht : typeOf (.builtin id) = pure (.type "method_descriptor")) (hr : MtR X id (rM0 X.K T o)) (ha : J X T W a fa)
    (hbase : attributeBase a name X.env (eval a X.env) = eval a X.env := by rfl) (hline : (apos.endLine == cpos.line) = true := by rfl) : J X T W (.Call (.Attribute a name apos) [] [] cpos) (eM0 o fa) :=
  pe_weak (pe_bm0 PySem.F.plainAttrs_list hs ht hr ha hbase hline) fun s H Q ⟨e, st, m, hen, ok, h⟩ =>
    ⟨e, st, m, hen, ok, h.bind fun dx x st1 H1 m1 _ l1 p1 ok1 rx h1 => by
      by_cases hl : isLst st1 dx = true
      · have h1 : Den X.K T X.mg W (RD X.K) s H1 m1 (if isLst st1 dx = true then .of (o dx st1) else .no) Q := h1
        rw [if_pos hl] at h1
        exact ⟨tyv_lst ok1 rx hl, dx, st1, m1, rfl, rx, ok1, den_of h1⟩
      · have h1 : Den X.K T X.mg W (RD X.K) s H1 m1 (if isLst st1 dx = true then .of (o dx st1) else .no) Q := h1
        rw [if_neg hl] at h1
        exact False.elim h1⟩
theorem mt_of {o : O2} (h : ∀ i dy st m H a y ws xs q Q, st[i]? = some (Cell.lst xs) → m[i]? = some a → H a = some (.lst ws) → Reps X.K H m xs ws → Rep X.K H m dy y → Ok X.K T H m st → o (.ref i) dy st = some q → DenO X.K T H m (some q) Q → ∃ f2 : V → List V → Hp → VK → Prop, MtR X id f2 ∧ f2 (.ref a) [y] H Q)
    (hn : ∀ dx dy st q, o dx dy st = some q → ∃ i xs, dx = .ref i ∧ lstOf st dx = some xs) : MtR X id (rM1 X.K T o) := by
  intro pins s σ H x xs v us Q I rx rs hh
  obtain ⟨dx, dy, st, m, y, rfl, r1, r2, ok, q3⟩ := hh
  cases ho : o dx dy st with
  | none => rw [ho] at q3; exact False.elim q3
  | some q =>
    rw [ho] at q3
    obtain ⟨i, zs, rfl, hz⟩ := hn _ _ _ _ ho
    have hg := lst_get hz
    obtain ⟨a, hm, rfl⟩ := r1
    obtain ⟨a', ws, h1, h2, h3⟩ := ok.lst hg
    rw [hm] at h1; cases h1
    obtain ⟨f2, k1, k2⟩ := h i dy st m H a y ws zs q Q hg hm h2 h3 r2 ok ho q3
    exact k1 pins s σ H _ _ v us Q I rx rs k2
theorem deno_set {K : PySem.W.Frag} {H : Hp} {m : List Addr} {d : D} {st : Sto} {Q : VK} {v : V} {i : Nat} {a : Addr} {xs ds : List D} {ws vs : List V} (h : DenO K T H m (some (d, st.set i (Cell.lst ds))) Q) (ok : Ok K T H m st) (hi : st[i]? = some (.lst xs)) (hm : m[i]? = some a) (ha : H a = some (.lst ws))
    (r : Reps K H m ds vs) (rv : Rep K H m d v) : Q v (upd H a (.lst vs)) := h v _ m (Le.set ha) (.refl m) (ok.setCell hi hm ha r) (rv.mono (Le.set ha) (.refl m))
theorem lstOf_ref {st : Sto} {i : Nat} {xs : List D} (h : st[i]? = some (Cell.lst xs)) : lstOf st (.ref i) = some xs := by
  simp only [lstOf, h]
theorem mte_app : MtR X "list.append" (rM1 X.K T oApp) := mt_of (fun i dy st m H a y ws xs q Q hi hm ha hr ry ok ho hq => by
    simp only [oApp, lstOf_ref hi] at ho
    split at ho
    · rename_i hl
      cases ho
      exact ⟨_, mt_append, a, ws, y, rfl, rfl, ha, by rw [← Reps.length hr]; exact lim_lt (Nat.le_of_lt hl), deno_set hq ok hi hm ha (hr.append (Reps.one ry)) rfl⟩
    · cases ho) fun dx dy st q ho => by
  cases dx with
  | ref i =>
    cases h : lstOf st (.ref i) with
    | none => simp only [oApp, h] at ho; cases ho
    | some xs => exact ⟨i, xs, rfl, rfl⟩
  | non | bl _ | int _ | str _ | tup _ => cases ho
theorem mte_ext : MtR X "list.extend" (rM1 X.K T oExt) := mt_of (fun i dy st m H a y ws xs q Q hi hm ha hr ry ok ho hq => by
    cases dy with
    | ref j =>
      simp only [oExt, lstOf_ref hi] at ho
      split at ho
      · rename_i xs' ys h1 h2
        cases h1
        split at ho
        · rename_i hl
          cases ho
          obtain ⟨b, hb, rfl⟩ := ry
          obtain ⟨b', zs, g1, g2, g3⟩ := lst_of ok h2
          rw [hb] at g1; cases g1
          exact ⟨_, mt_extend, a, b, ws, zs, rfl, rfl, ha, g2, by rw [← Reps.length hr, ← Reps.length g3]; exact lim_le (Nat.le_of_lt hl), deno_set hq ok hi hm ha (hr.append g3) rfl⟩
        · cases ho
      · cases ho
    | non | bl _ | int _ | str _ | tup _ => cases ho) fun dx dy st q ho => by
  cases dx with
  | ref i =>
    cases h : lstOf st (.ref i) with
    | none => cases dy <;> simp only [oExt, h] at ho <;> cases ho
    | some xs => exact ⟨i, xs, rfl, rfl⟩
  | non | bl _ | int _ | str _ | tup _ => cases dy <;> cases ho
theorem mte_popAt : MtR X "list.pop" (rM1 X.K T oPopAt) := mt_of (fun i dy st m H a y ws xs q Q hi hm ha hr ry ok ho hq => by
    cases dy with
    | int n =>
      simp only [oPopAt, lstOf_ref hi] at ho
      split at ho
      · rename_i hl
        cases hk : ixN xs.length n with
        | none => simp only [hk] at ho; cases ho
        | some k =>
          simp only [hk] at ho
          cases hd : xs[k]? with
          | none => simp only [hd] at ho; cases ho
          | some d =>
            simp only [hd] at ho
            cases ho
            cases ry
            obtain ⟨e1, e2, e3, e4⟩ := ixN_seq hk
            obtain ⟨u, g1, g2⟩ := hr.get hd
            have lr := Reps.length hr
            have hl : xs.length ≤ 100000 := hl
            exact ⟨_, mt_popAt, a, ws, n, k, u, rfl, rfl, ha, by omega, by omega, by rw [← lr]; exact e1, g1, deno_set hq ok hi hm ha (hr.erase k) g2⟩
      · cases ho
    | non | bl _ | ref _ | str _ | tup _ => cases ho) fun dx dy st q ho => by
  cases dx with
  | ref i =>
    cases h : lstOf st (.ref i) with
    | none => cases dy <;> simp only [oPopAt, h] at ho <;> cases ho
    | some xs => exact ⟨i, xs, rfl, rfl⟩
  | non | bl _ | int _ | str _ | tup _ => cases dy <;> cases ho
theorem mte_pop : MtR X "list.pop" (rM0 X.K T oPop) := by
  intro pins s σ H x xs v us Q I rx rs hh
  obtain ⟨dx, st, m, rfl, r1, ok, q3⟩ := hh
  cases dx with
  | ref i =>
    cases h : lstOf st (.ref i) with
    | none => simp only [oPop, h] at q3; exact False.elim q3
    | some zs =>
      simp only [oPop, h] at q3
      cases hd : zs[zs.length - 1]? with
      | none => simp only [hd] at q3; exact False.elim q3
      | some d =>
        simp only [hd] at q3
        have hg := lst_get h
        obtain ⟨a, hm, rfl⟩ := r1
        obtain ⟨a', ws, h1, h2, h3⟩ := ok.lst hg
        rw [hm] at h1; cases h1
        obtain ⟨u, g1, g2⟩ := h3.get hd
        exact mt_pop pins s σ H _ _ v us Q I rx rs ⟨a, ws, u, rfl, rfl, h2, by rw [← Reps.length h3]; exact g1, deno_set q3 ok hg hm h2 h3.dropLast g2⟩
  | non | bl _ | int _ | str _ | tup _ => exact False.elim q3
theorem j_append (ha : J X T W a fa) (hb : J X T W b fb)
    (hbase : attributeBase a "append" X.env (eval a X.env) = eval a X.env := by rfl)
    (hfew : ((backTo cpos (starEach (b :: []) X.env)).all (fun x => !x.1) && (backToKw cpos (keywordEach [] X.env)).all (fun x => x.1.isSome) && decide ((b :: ([] : List Expr)).length + ([] : List Keyword).length + (if ([] : List Keyword).isEmpty = true then 0 else 1) < 30)) = true := by rfl)
    (hline : (apos.endLine == cpos.line) = true := by rfl) (he : starEach (b :: []) X.env = (false, eval b X.env) :: starEach [] X.env := by rfl) (hpl : (backTo cpos (starEach [] X.env)).any (·.1) = false := by rfl) :
    J X T W (.Call (.Attribute a "append" apos) [b] [] cpos) (eM1 oApp fa fb) := j_m1 PySem.F.slot_list_append PySem.F.type_list_append mte_app ha hb hbase hfew hline he hpl
theorem j_extend (ha : J X T W a fa) (hb : J X T W b fb)
    (hbase : attributeBase a "extend" X.env (eval a X.env) = eval a X.env := by rfl)
    (hfew : ((backTo cpos (starEach (b :: []) X.env)).all (fun x => !x.1) && (backToKw cpos (keywordEach [] X.env)).all (fun x => x.1.isSome) && decide ((b :: ([] : List Expr)).length + ([] : List Keyword).length + (if ([] : List Keyword).isEmpty = true then 0 else 1) < 30)) = true := by rfl)
    (hline : (apos.endLine == cpos.line) = true := by rfl) (he : starEach (b :: []) X.env = (false, eval b X.env) :: starEach [] X.env := by rfl) (hpl : (backTo cpos (starEach [] X.env)).any (·.1) = false := by rfl) :
    J X T W (.Call (.Attribute a "extend" apos) [b] [] cpos) (eM1 oExt fa fb) := j_m1 PySem.F.slot_list_extend PySem.F.type_list_extend mte_ext ha hb hbase hfew hline he hpl
theorem j_popAt (ha : J X T W a fa) (hb : J X T W b fb)
    (hbase : attributeBase a "pop" X.env (eval a X.env) = eval a X.env := by rfl)
    (hfew : ((backTo cpos (starEach (b :: []) X.env)).all (fun x => !x.1) && (backToKw cpos (keywordEach [] X.env)).all (fun x => x.1.isSome) && decide ((b :: ([] : List Expr)).length + ([] : List Keyword).length + (if ([] : List Keyword).isEmpty = true then 0 else 1) < 30)) = true := by rfl)
    (hline : (apos.endLine == cpos.line) = true := by rfl) (he : starEach (b :: []) X.env = (false, eval b X.env) :: starEach [] X.env := by rfl) (hpl : (backTo cpos (starEach [] X.env)).any (·.1) = false := by rfl) :
    J X T W (.Call (.Attribute a "pop" apos) [b] [] cpos) (eM1 oPopAt fa fb) := j_m1 PySem.F.slot_list_pop PySem.F.type_list_pop mte_popAt ha hb hbase hfew hline he hpl
theorem j_pop (ha : J X T W a fa) (hbase : attributeBase a "pop" X.env (eval a X.env) = eval a X.env := by rfl) (hline : (apos.endLine == cpos.line) = true := by rfl) :
    J X T W (.Call (.Attribute a "pop" apos) [] [] cpos) (eM0 oPop fa) := j_m0 PySem.F.slot_list_pop PySem.F.type_list_pop mte_pop ha hbase hline
end
end
end Mm

namespace Mm
open PySem L2
/-! ### list comprehensions -/
def wipeE (e : Env) : List Nat → Env
  | [] => e
  | v :: vs => (wipeE e vs).set v none
theorem wipe_env {K : PySem.W.Frag} {H : Hp} {m : List Addr} {s : L2.St} {e : Env} (h : EnvOk K H m s e) : ∀ vs : List Nat, EnvOk K H m (L2.wipe s vs) (wipeE e vs)
  | [] => h
  | v :: vs => by
    have ih := wipe_env h vs
    refine ⟨by simp [wipeE, L2.wipe, ih.1], fun i d q => ?_⟩
    unfold wipeE at q
    unfold L2.wipe
    by_cases hv : v = i
    · subst hv
      have hl : v < (wipeE e vs).length := by
        have := (List.getElem?_eq_some_iff.mp q).1
        simpa using this
      rw [List.getElem?_set_self hl] at q
      cases q
    · rw [List.getElem?_set_ne hv] at q ⊢
      exact ih.2 i d q
inductive RC where
  | ok (st : Sto) | no
def lcL (g : Sto → Bool) (t : TX) (c : BX) (f : EX) (n : Nat) (e0 : Env) : List D → Sto → RC
  | [], st => if g st = true then .ok st else .no
  | d :: ds, st => if g st = true then match t d e0 with
    | none => .no
    | some e1 => match c e1 st with
      | .ok true st1 => match f e1 st1 with
        | .ok y st2 => match lstOf st2 (.ref n) with
          | some acc => if acc.length < lim then lcL g t c f n e0 ds (st2.set n (Cell.lst (acc ++ [y]))) else .no
          | none => .no
        | _ => .no
      | .ok false st1 => lcL g t c f n e0 ds st1
      | _ => .no
    else .no
def eLc (own : List Nat) (src : IX) (t : TX) (c : BX) (f : EX) : EX := fun e st => match src e st with
  | .ok s st1 => match lcL s.ok t c f st1.length (wipeE e own) s.items (st1 ++ [Cell.lst []]) with
    | .ok st2 => .ok (.ref st1.length) st2
    | .no => .no
  | .ex x st1 => .ex x st1
  | .no => .no
def bYes : BX := fun _ st => .ok true st
section
variable {X : Cx} {T : List (Addr × Str)} {W : WX}
theorem den_noex {K : PySem.W.Frag} {mg : Str → Option Value} {a b : Type} {RA : Hp → List Addr → a → b → Prop} {s : L2.St} {H : Hp} {m : List Addr} {x : a} {st : Sto} {Q : b → Hp → Prop} (h : ∀ y H' m', Le H H' → Pre m m' → Ok K T H' m' st → RA H' m' x y → Q y H') : Den K T mg (fun _ _ _ _ => False) RA s H m (.ok x st) Q := h
/-- what the comprehension's block is to do, from the promise of its semantics -/
theorem lc_read {us own : List Nat} {wi : TI} {src : IX} {t : TX} {c : BX} {f : EX} {tt : TT} (hu : ∀ i ∈ us, i ∈ own) (hwi : ∀ s H Q, tI X.K T X.mg W src s H Q → wi s H Q)
    (htt : ∀ s H Q, tT X.K T X.mg (fun _ _ _ _ => False) c s H Q → tt s H Q) {s : L2.St} {H : Hp} {Q : VK} (h : tE X.K T X.mg W (eLc own src t c f) s H Q) :
    tLc wi (gT X.K T us t) tt (tE X.K T X.mg (fun _ _ _ _ => False) f) own s H Q := by
  obtain ⟨e, st, m, he, ok, h⟩ := h
  refine hwi _ _ _ ⟨e, st, m, he, ok, ?_⟩
  unfold eLc at h
  revert h
  generalize src e st = r
  intro h
  cases r with
  | no => exact h
  | ex x st1 => exact h
  | ok sr st1 =>
    intro Jw H1 m1 l p ok1 good Dn hD
    revert h
    show Den X.K T X.mg W (RD X.K) s H m (match lcL sr.ok t c f st1.length (wipeE e own) sr.items (st1 ++ [Cell.lst []]) with
      | .ok st2 => .ok (.ref st1.length) st2
      | .no => .no) Q → _
    intro h
    have ok2 : Ok X.K T (upd H1 Dn (.lst [])) (m1 ++ [Dn]) (st1 ++ [Cell.lst []]) := ok1.newCell hD rfl
    have l2 : Le H1 (upd H1 Dn (.lst [])) := Le.new hD
    have he0 := wipe_env (he.mono l p) own
    -- from any turn: the rest of the items
    let G : Sto → List D → Prop := fun st' ds => ∀ st2, lcL sr.ok t c f st1.length (wipeE e own) ds st' = .ok st2 → lcL sr.ok t c f st1.length (wipeE e own) sr.items (st1 ++ [Cell.lst []]) = .ok st2
    refine ⟨fun i n H' => ∃ st' m', n = sr.items.length - i ∧ i ≤ sr.items.length ∧ Le (upd H1 Dn (.lst [])) H' ∧ Pre (m1 ++ [Dn]) m' ∧ Ok X.K T H' m' st' ∧ lcL sr.ok t c f st1.length (wipeE e own) (sr.items.drop i) st' ≠ .no ∧ G st' (sr.items.drop i),
      ⟨sr.items.length, st1 ++ [Cell.lst []], m1 ++ [Dn], by simp, Nat.zero_le _, .refl _, .refl _, ok2, fun z => ?_, fun st2 z => by simpa using z⟩, ?_⟩
    · rw [List.drop_zero] at z
      rw [z] at h
      exact h
    · rintro i n H' ⟨st', m', rfl, hle, l3, p3, ok3, hne, hG⟩
      by_cases hlt : i < sr.items.length
      · rw [List.drop_eq_getElem_cons hlt] at hne
        have hG : ∀ st2, lcL sr.ok t c f st1.length (wipeE e own) (sr.items[i] :: sr.items.drop (i + 1)) st' = .ok st2 → lcL sr.ok t c f st1.length (wipeE e own) sr.items (st1 ++ [Cell.lst []]) = .ok st2 := by
          rw [← List.drop_eq_getElem_cons hlt]; exact hG
        rw [lcL] at hne hG
        by_cases hg : sr.ok st' = true
        · rw [if_pos hg] at hne hG
          have p1m : Pre m1 m' := (Pre.add m1 Dn).trans p3
          obtain ⟨gg, gs, gy⟩ := good H' m' st' (l2.trans l3) p1m ok3 hg
          refine .inr ⟨gg i hlt, fun H2 => ∃ st2 m2, Le (upd H1 Dn (.lst [])) H2 ∧ Pre (m1 ++ [Dn]) m2 ∧ Ok X.K T H2 m2 st2 ∧ lcL sr.ok t c f st1.length (wipeE e own) (sr.items.drop (i + 1)) st2 ≠ .no ∧ G st2 (sr.items.drop (i + 1)),
            fun H2 ⟨st2, m2, a1, a2, a3, a4, a5⟩ => ⟨sr.items.length - (i + 1), by omega, st2, m2, rfl, hlt, a1, a2, a3, a4, a5⟩, fun x H2 hy => ?_⟩
          obtain ⟨l4, ok4, d, hd, rx⟩ := gy i x H2 hlt hy
          rw [List.getElem?_eq_getElem hlt] at hd
          cases hd
          cases ht : t sr.items[i] (wipeE e own) with
          | none => rw [ht] at hne; exact absurd rfl hne
          | some e1 =>
            rw [ht] at hne hG
            dsimp only at hne hG
            have l34 := l3.trans l4
            refine ⟨_, wipeE e own, st', m', rx, (he0.mono (l2.trans l34) p1m), ok4, e1, ht, fun s' he' bt => ⟨?_, ?_⟩⟩
            · rw [bt.wipe hu]
              exact But.wipe (ts := own) ⟨by rw [L2.wipe_length], fun j hj => L2.wipe_out hj⟩ fun i hi => hi
            · refine htt _ _ _ ⟨e1, st', m', he', ok4, ?_⟩
              cases hc : c e1 st' with
              | no => rw [hc] at hne; exact absurd rfl hne
              | ex _ _ => rw [hc] at hne; exact absurd rfl hne
              | ok k st2 =>
                rw [hc] at hne hG
                refine den_noex fun y H3 m3 l5 p5 ok5 r5 => ?_
                cases r5
                cases k with
                | false =>
                  rw [if_neg Bool.false_ne_true]
                  exact ⟨st2, m3, l34.trans l5, p3.trans p5, ok5, hne, hG⟩
                | true =>
                  rw [if_pos rfl]
                  dsimp only at hne hG
                  refine ⟨e1, st2, m3, he'.mono l5 p5, ok5, ?_⟩
                  cases hf : f e1 st2 with
                  | no => rw [hf] at hne; exact absurd rfl hne
                  | ex _ _ => rw [hf] at hne; exact absurd rfl hne
                  | ok y st3 =>
                    rw [hf] at hne hG
                    dsimp only at hne hG
                    refine den_noex fun yv H4 m4 l6 p6 ok6 r6 => ?_
                    cases hl : lstOf st3 (.ref st1.length) with
                    | none => rw [hl] at hne; exact absurd rfl hne
                    | some acc =>
                      rw [hl] at hne hG
                      dsimp only at hne hG
                      have pD : Pre (m1 ++ [Dn]) m4 := (p3.trans p5).trans p6
                      have hmD : m4[st1.length]? = some Dn := pD.get (by rw [← ok1.len]; simp)
                      have hst := lst_get hl
                      obtain ⟨a', ws, q1, q2, q3⟩ := ok6.lst hst
                      rw [hmD] at q1; cases q1
                      by_cases hz : acc.length < lim
                      · rw [if_pos hz] at hne hG
                        exact ⟨ws, q2, by rw [← Reps.length q3]; exact lim_lt (Nat.le_of_lt hz), st3.set st1.length (Cell.lst (acc ++ [y])), m4, ((l34.trans l5).trans l6).trans (Le.set q2), pD, ok6.setCell hst hmD q2 (q3.append (Reps.one r6)), hne, hG⟩
                      · rw [if_neg hz] at hne
                        exact absurd rfl hne
        · rw [if_neg hg] at hne
          exact absurd rfl hne
      · have e0 : i = sr.items.length := by omega
        subst e0
        rw [List.drop_length] at hne
        have hG : ∀ st2, lcL sr.ok t c f st1.length (wipeE e own) [] st' = .ok st2 → lcL sr.ok t c f st1.length (wipeE e own) sr.items (st1 ++ [Cell.lst []]) = .ok st2 := by
          have := hG
          rw [List.drop_length] at this
          exact this
        rw [lcL] at hne hG
        by_cases hg : sr.ok st' = true
        · rw [if_pos hg] at hne hG
          have p1m : Pre m1 m' := (Pre.add m1 Dn).trans p3
          obtain ⟨gg, gs, gy⟩ := good H' m' st' (l2.trans l3) p1m ok3 hg
          refine .inl ⟨gs, ?_⟩
          rw [hG st' rfl] at h
          exact h _ H' m' (l.trans (l2.trans l3)) (p.trans p1m) ok3 ⟨Dn, p3.get (by rw [← ok1.len]; simp), rfl⟩
        · rw [if_neg hg] at hne
          exact absurd rfl hne
variable {elt tg iter : Expr} {ifs : List Expr} {scope : Scope} {own : List (Str × Nat)} {pos : Pos} {us : List Nat} {src : IX} {t : TX} {c : BX} {f : EX} {tt : TT}
/-- [elt for tg in iter] -/
theorem j_lc0 (hc : X.calm = true) (hN : X.N.Nodup) (hi : JI X T W tg iter src) (ok : BlkOk X.N X.env.scope scope own) (hu : ∀ i ∈ us, i ∈ own.map (·.2))
    (hg : ∀ (s : Shared) (H : Hp) (C : Addr) (cl : List (Str × Addr)) (fp : List Addr), JG (X.blk s H scope (compEnvC scope cl C X.env) fp) T us tg t)
    (he : ∀ (s : Shared) (H : Hp) (C : Addr) (cl : List (Str × Addr)) (fp : List Addr), J (X.blk s H scope (compEnvC scope cl C X.env) fp) T (fun _ _ _ _ => False) elt f)
    (hs : ∀ x, foldedSetIterable iter X.env x = pure x := by intro _; rfl) : J X T W (.ListComp elt [⟨tg, iter, [], 0⟩] scope pos) (eLc (own.map (·.2)) src t bYes f) :=
  pe_weak (pe_lc hc hN hi ok hg (fun s H C cl fp => pts_nil) he hs) fun s H Q => lc_read hu (fun _ _ _ h => h) fun s H Q ⟨e, st, m, he, ok, h⟩ => h true H m (.refl H) (.refl m) ok rfl
/-- [elt for tg in iter if cond] -/
theorem j_lc1 {cd : Expr} (hc : X.calm = true) (hN : X.N.Nodup) (hi : JI X T W tg iter src) (ok : BlkOk X.N X.env.scope scope own) (hu : ∀ i ∈ us, i ∈ own.map (·.2))
    (hg : ∀ (s : Shared) (H : Hp) (C : Addr) (cl : List (Str × Addr)) (fp : List Addr), JG (X.blk s H scope (compEnvC scope cl C X.env) fp) T us tg t)
    (ht : ∀ (s : Shared) (H : Hp) (C : Addr) (cl : List (Str × Addr)) (fp : List Addr), JT (X.blk s H scope (compEnvC scope cl C X.env) fp) T (fun _ _ _ _ => False) cd c)
    (he : ∀ (s : Shared) (H : Hp) (C : Addr) (cl : List (Str × Addr)) (fp : List Addr), J (X.blk s H scope (compEnvC scope cl C X.env) fp) T (fun _ _ _ _ => False) elt f)
    (hs : ∀ x, foldedSetIterable iter X.env x = pure x := by intro _; rfl) : J X T W (.ListComp elt [⟨tg, iter, [cd], 0⟩] scope pos) (eLc (own.map (·.2)) src t c f) :=
  pe_weak (pe_lc hc hN hi ok hg (fun s H C cl fp => pts_one (ht s H C cl fp)) he hs) fun s H Q => lc_read hu (fun _ _ _ h => h) fun _ _ _ h => h
/-- y = [elt for tg in iter ..], a statement of its own -/
theorem setlc_read {us own : List Nat} {wi : TI} {src : IX} {t : TX} {c : BX} {f : EX} {tt : TT} {i : Nat} (hu : ∀ i ∈ us, i ∈ own) (hwi : ∀ s H Q, tI X.K T X.mg W src s H Q → wi s H Q)
    (htt : ∀ s H Q, tT X.K T X.mg (fun _ _ _ _ => False) c s H Q → tt s H Q) {F : Ends} {s : L2.St} {H : Hp} (h : tS X.K T X.mg W (sSet i (eLc own src t c f)) F s H) :
    tAsg (tLc wi (gT X.K T us t) tt (tE X.K T X.mg (fun _ _ _ _ => False) f) own) (gName i) F s H := by
  obtain ⟨e, st, m, he, ok, h⟩ := h
  refine lc_read hu hwi htt ⟨e, st, m, he, ok, st_of he h fun x y st1 H1 m1 _ l p ok1 rx h1 => ?_⟩
  exact h1 _ H1 m1 (.refl H1) (.refl m1) ok1 ((he.mono l p).set i rx)
theorem js_setLc0 {i : Nat} {y : Str} {py spos : Pos} (hc : X.calm = true) (hN : X.N.Nodup) (hy : X.N[i]? = some y) (hyl : X.env.scope.names.lookup y = some .local)
    (hsw : swapsWith (.ListComp elt [⟨tg, iter, [], 0⟩] scope pos) (some (.Name y py)) spos.line X.env = pure true) (hi : JI X T W tg iter src) (ok : BlkOk X.N X.env.scope scope own) (hu : ∀ i ∈ us, i ∈ own.map (·.2))
    (hg : ∀ (s : Shared) (H : Hp) (C : Addr) (cl : List (Str × Addr)) (fp : List Addr), JG (X.blk s H scope (compEnvC scope cl C X.env) fp) T us tg t)
    (he : ∀ (s : Shared) (H : Hp) (C : Addr) (cl : List (Str × Addr)) (fp : List Addr), J (X.blk s H scope (compEnvC scope cl C X.env) fp) T (fun _ _ _ _ => False) elt f)
    (hs : ∀ x, foldedSetIterable iter X.env x = pure x := by intro _; rfl) : JS X T W (.Assign [.Name y py] (.ListComp elt [⟨tg, iter, [], 0⟩] scope pos) spos) (sSet i (eLc (own.map (·.2)) src t bYes f)) :=
  ps_weak (ps_setLc hc hN hy hyl hsw hi ok hg (fun s H C cl fp => pts_nil) he hs) fun F s H => setlc_read hu (fun _ _ _ h => h) fun s H Q ⟨e, st, m, he, ok, h⟩ => h true H m (.refl H) (.refl m) ok rfl
theorem js_setLc1 {i : Nat} {y : Str} {py spos : Pos} {cd : Expr} (hc : X.calm = true) (hN : X.N.Nodup) (hy : X.N[i]? = some y) (hyl : X.env.scope.names.lookup y = some .local)
    (hsw : swapsWith (.ListComp elt [⟨tg, iter, [cd], 0⟩] scope pos) (some (.Name y py)) spos.line X.env = pure true) (hi : JI X T W tg iter src) (ok : BlkOk X.N X.env.scope scope own) (hu : ∀ i ∈ us, i ∈ own.map (·.2))
    (hg : ∀ (s : Shared) (H : Hp) (C : Addr) (cl : List (Str × Addr)) (fp : List Addr), JG (X.blk s H scope (compEnvC scope cl C X.env) fp) T us tg t)
    (ht : ∀ (s : Shared) (H : Hp) (C : Addr) (cl : List (Str × Addr)) (fp : List Addr), JT (X.blk s H scope (compEnvC scope cl C X.env) fp) T (fun _ _ _ _ => False) cd c)
    (he : ∀ (s : Shared) (H : Hp) (C : Addr) (cl : List (Str × Addr)) (fp : List Addr), J (X.blk s H scope (compEnvC scope cl C X.env) fp) T (fun _ _ _ _ => False) elt f)
    (hs : ∀ x, foldedSetIterable iter X.env x = pure x := by intro _; rfl) : JS X T W (.Assign [.Name y py] (.ListComp elt [⟨tg, iter, [cd], 0⟩] scope pos) spos) (sSet i (eLc (own.map (·.2)) src t c f)) :=
  ps_weak (ps_setLc hc hN hy hyl hsw hi ok hg (fun s H C cl fp => pts_one (ht s H C cl fp)) he hs) fun F s H => setlc_read hu (fun _ _ _ h => h) fun _ _ _ h => h
end
/-! ### the law's end -/
section
open PySem.Spec PyProof.Rows
variable {P : Program} {w : World} {K : PySem.W.Frag} {mg mb : Str → Option Value} {k : Nat} {fa a : Addr} {fd : FuncData} {x : Str} {g : List D → Sto → R D} {s1 : Shared} {vs : List Value} {ns : List Int}
/-- the promise of the law's def, at the heap behind the top -/
theorem law_callG (KX : K.In s1.heap) (hns : s1.heap.Ns mainGlobals mg) (hb : s1.heap.Ns builtinsNs mb) (hbb : ∀ x : Str, x ≠ "__name__" → mb x = bootBuiltins x) (hlim : s1.heap.NoLimit) (hg : s1.gens = #[])
    (ha : s1.heap.get? a = some { cls := .type "list", data := .seq vs.toArray }) (hi : IntsAre vs ns) (hl : ns.length ≤ sizeLine) (hr : Room k callerA)
    (F : ∀ base : Heap, K.In base → base.Ns mainGlobals mg → FnG P w K mg base (L2.CX P w) k fa fd [x] (SpG K [] mg 1 g)) (hbind : ∀ (s : Shared) (u : Value), BindsTo s fd ⟨[u], []⟩ [(x, u)])
    (hlaw : ∃ st', g [.ref 0] [.ro (ns.map D.int)] = .ok (.bl true) st') :
    codeAny (model P w) callerA (.call (.ref fa) ⟨[.ref a], []⟩) (fun r s' => r = .ok (.ret (.bool true)) ∧ OldK s1.heap s'.heap ∧ s'.os = s1.os ∧ AllBare s'.gens) s1 := by
  -- one heap H in which at most the script is tracked (known, never written)
  obtain ⟨H, hO, hS, hok, hA, hK⟩ : ∃ H : Hp, Only H ∧ (∀ H', Le H H' → SqL K H' a (ns.map V.int)) ∧ HOk P w H s1.heap ∧ (∀ b, H b ≠ none → b = a) ∧ (H a ≠ none → K.lookup a = none) := by
    have rv := vals_ints hi
    cases hk : K.lookup a with
    | some o =>
      have e := KX a o hk
      rw [ha] at e
      cases e
      refine ⟨fun _ => none, fun _ => .inl rfl, fun H' _ => .inr ⟨_, vs.toArray, _, hk, rfl, rfl, rfl, ?_, ?_⟩, fun b u z => ?_, fun b z => absurd rfl z, fun z => absurd rfl z⟩
      · rw [List.size_toArray, hi.length]; exact hl
      · simpa using rv
      · have z' : (none : Option HO) = some u := z
        cases z'
    | none =>
      let u : HO := .frz { cls := .type "list", data := .seq vs.toArray } (.lst (ns.map V.int))
      have at_a : (fun b => if b = a then some u else none) a = some u := if_pos rfl
      refine ⟨fun b => if b = a then some u else none, fun b => ?_, fun H' le => .inl (.inr ⟨_, le.frz a _ _ at_a⟩), fun b o z => ?_, fun b z => ?_, fun _ => rfl⟩
      · by_cases hb : b = a
        · exact .inr ⟨_, _, if_pos hb⟩
        · exact .inl (if_neg hb)
      · by_cases hb : b = a
        · have z' := (if_pos hb).symm.trans z
          cases z'
          subst hb
          exact ⟨ha, by rw [List.length_map]; exact hl, vs, _, rv, ha⟩
        · have z' := (if_neg hb).symm.trans z
          cases z'
      · by_cases hb : b = a
        · exact hb
        · exact absurd (if_neg hb) z
  have same : ∀ {b : Addr} {o : Obj}, s1.heap.get? b = some o → H b = none → (hidT s1.heap H).get? b = some o := fun e n => hidT_get e n
  have nodict : ∀ {b : Addr} {o : Obj} {es : Array DictEntry} {ep : Nat}, s1.heap.get? b = some o → o.data = .dict es ep → H b = none := fun {b o es ep} e d => by
    cases q : H b with
    | none => rfl
    | some u =>
      have e' : b = a := hA b (by rw [q]; simp)
      subst e'
      rw [ha] at e; cases e
      have d' : Data.seq vs.toArray _ = Data.dict es ep := d
      cases d'
  have keepNs : ∀ {b : Addr} {m : Str → Option Value}, s1.heap.Ns b m → (hidT s1.heap H).Ns b m := fun {b m} ⟨o, es, ep, e, d, r⟩ => ⟨o, es, ep, same e (nodict e d), d, r⟩
  have hKb : K.In (hidT s1.heap H) := fun b o e => same (KX b o e) (by
    cases q : H b with
    | none => rfl
    | some u =>
      have e' : b = a := hA b (by rw [q]; simp)
      subst e'
      rw [hK (by rw [q]; simp)] at e; cases e)
  have hM : Mod K mg (hidT s1.heap H) := ⟨hKb, keepNs hns, ⟨mb, keepNs hb, hbb⟩, let ⟨mc, h1, h2⟩ := hlim; ⟨mc, keepNs h1, h2⟩⟩
  have e0 : Env0 P w K mg (hidT s1.heap H) callerA [] s1 H := ⟨rfl, hM, fun b o e => of_hidT e, Nat.le_of_eq (hidT_size _ _), trivial, fun b hb => absurd (show b ∈ ([] : List Addr) from hb) (by simp), hok, .of_eq hg⟩
  have hsp : SpG K [] mg 1 g [.ref a] H (fun v _ => v = .bl true) fun _ _ _ => False := by
    refine ⟨rfl, [.ref 0], [.ro (ns.map D.int)], [a], ⟨_, [], rfl, ⟨a, rfl, rfl⟩, rfl⟩, ⟨rfl, fun i j b xs ys h1 h2 h3 h4 => ?_, fun i c hc => ?_, fun p hp => absurd hp (by simp)⟩, ?_⟩
    · match i, h3 with
      | 0, h3 => cases h3
      | i + 1, h3 => simp at h3
    · match i, hc with
      | 0, hc => cases hc; exact ⟨a, rfl, ns.map V.int, hS, Reps.of_ints ns⟩
      | i + 1, hc => simp at hc
    · obtain ⟨st', e⟩ := hlaw
      show Den K [] mg _ (RD K) [] H [a] (g [.ref 0] [.ro (ns.map D.int)]) _
      rw [e]
      exact fun y H' m' _ _ _ r => r
  refine codeAny_mono ((F _ hKb (keepNs hns)).run callerA [] s1 H ⟨[.ref a], []⟩ [.ref a] [.ref a] _ _ rfl hr e0 (hbind s1 (.ref a)) (.cons rfl .nil) hsp) fun r s' h => ?_
  cases r with
  | error e =>
    obtain ⟨_, _, _, _, _, _, _, _, _, _, _, _, z⟩ := (show L2.CX P w [] H s1 (fun _ _ _ => False) e s' from h)
    exact z.elim
  | ok fl =>
    cases fl with
    | next => exact False.elim h
    | brk => exact False.elim h
    | cont => exact False.elim h
    | ret u =>
      obtain ⟨v, H', os, bare, un, hok', r', q⟩ := h
      have q' : v = .bl true := q
      subst q'
      obtain rfl : u = Value.bool true := r'
      refine ⟨rfl, OldK.of_keep fun b o e => ?_, os, bare⟩
      cases q : H b with
      | none => exact un.keep b o e q (fun z => absurd (show b ∈ ([] : List Addr) from z) (by simp)) (by simp)
      | some u =>
        rcases hO b with z | ⟨ob, xs, z⟩
        · rw [q] at z; cases z
        · obtain ⟨e1, _⟩ := hok b _ z
          obtain ⟨e2, _⟩ := hok' b _ (un.frzs b ob _ z)
          rw [e] at e1; cases e1
          exact e2
/-- what k_head leaves of a law -/
theorem walk_ofG {l : PySem.W.OpenLaw} {n k : Nat} {q : Program} {loose : List Str} {XP : (Str → Option Value) → Heap → Prop} {YP : World → Heap → Prop} {d : DefRec} {K : Params → PySem.W.Frag} {g : List D → Sto → R D} {x : Str}
    (hn : l.most = some n) (hn2 : n ≤ sizeLine) (hdf : d.params.defaults = []) (hr : Room k callerA) (hY : ∀ (w : World) (h : Heap), YP w h → (K w.params).In h)
    (F : ∀ (w : World) (mg : Str → Option Value) (fa : Addr) (h : Heap), (K w.params).In h → h.Ns mainGlobals mg → mg d.name = some (.ref fa) →
      ∃ fd : FuncData, (∀ (s : Shared) (u : Value), BindsTo s fd ⟨[u], []⟩ [(x, u)]) ∧
        ∀ base : Heap, (K w.params).In base → base.Ns mainGlobals mg → FnG l.prog w (K w.params) mg base (L2.CX l.prog w) k fa fd [x] (SpG (K w.params) [] mg 1 g))
    (hlaw : ∀ ns : List Int, ns.length ≤ n → ∃ st', g [.ref 0] [.ro (ns.map D.int)] = .ok (.bl true) st') :
    PySem.W.WalkO q loose XP YP l.row.toRowW d [] (fun f vs => PySem.call f vs) := by
  refine Att.attach_call hn hdf fun w s0 s1 mg mb fa o pm cd doc a vs ns G Y ho hd hcd hmg hobj hints hlen hg => ?_
  have KX := hY w _ Y
  obtain ⟨fd, hb, hF⟩ := F w mg fa _ KX G.T.g hmg
  exact law_callG KX G.T.g G.T.b G.T.builtins G.T.nolimit hg hobj hints (Nat.le_trans hlen hn2) hr hF hb (hlaw ns hlen)
end
end Mm

namespace Mm
open PySem L2
section
open PySem PyProof.Rows AutoSeq1
/-- enumerate(t), t a tuple -/
theorem meets_enum_tup (l : Addr) (items : Array Value) (n : Nat) (dct : Option Addr) (sl : Array (Option Value)) :
    Meets (Builtin.«enumerate.__new__» ⟨[.type "enumerate", .ref l], []⟩) (fun _ R s => s.heap.get? l = some { cls := .type "tuple", dict := dct, data := .seq items n, slots := sl } ∧
      R (.ok (.ret (.ref (s.heap.push { cls := .type "tuple_iterator", data := .fields #[.ref l, .int 0 0] }).objs.size)))
        { s with heap := (s.heap.push { cls := .type "tuple_iterator", data := .fields #[.ref l, .int 0 0] }).push { cls := .type "enumerate", data := .fields #[.none, .bool false, .ref s.heap.objs.size, rawInt 0, .none, .none] } }) :=
  .of_wp fun prog w A R s h => by
    obtain ⟨hp, g, d, tk, os⟩ := s
    obtain ⟨hl, h⟩ := h
    have hsub := sub_enumerate
    have hT : Heap.IsTuple (Shared.heap ⟨hp, g, d, tk, os⟩) l items := ⟨_, hl, rfl, n, rfl⟩
    wp_walk using wpAny_loadPart' hl
    refine wpAny_stack_any fun st => wpAny_pure ?_
    split
    · rename_i c _ _ _ _ _
      cases (c == Value.type "enumerate")
      · wp_walk using wpAny_loadPart' hl, wpAny_pyIter_tuple hT
        exact ⟨_, rfl, h⟩
      · wp_walk using wpAny_loadPart' hl, wpAny_pyIter_tuple hT
        exact ⟨_, rfl, h⟩
    · wp_walk using wpAny_loadPart' hl, wpAny_pyIter_tuple hT
      exact ⟨_, rfl, h⟩
variable {prog : Program} {w : World} {A : Around} {E : Value → Shared → Prop} {s : Shared}
theorem call_enum_tup {l : Addr} {items : Array Value} {Q : Value → Shared → Prop} (hL : s.heap.IsTuple l items)
    (h : ∀ h', IsEnum h' (s.heap.objs.size + 1) s.heap.objs.size 0 .none → h'.IsTupleIter s.heap.objs.size l 0 → h'.objs.size = s.heap.objs.size + 2 →
      (∀ b o, s.heap.get? b = some o → h'.get? b = some o) → Q (.ref (s.heap.objs.size + 1)) { s with heap := h' }) :
    wpAny (model prog w) A (call (.type "enumerate") [.ref l]) Q E s := by
  obtain ⟨⟨c, dct, dt, sl⟩, hl, hc, n, hd⟩ := hL
  simp only at hc hd
  subst hc hd
  refine callType_new F.called_enumerate (by decide) (F.typeCall_enumerate_1 _) (F.newCall_enumerate_1 _) (fun obj => F.args_object_init_2 obj _) F.entry_enumerate_new
    (meets_enum_tup l items n dct sl) ⟨hl, ?_⟩
  have hz : (s.heap.push { cls := .type "tuple_iterator", data := .fields #[.ref l, .int 0 0] }).objs.size = s.heap.objs.size + 1 := Heap.size_push ..
  show _ ∧ _
  rw [hz]
  have he : IsEnum ((s.heap.push { cls := .type "tuple_iterator", data := .fields #[.ref l, .int 0 0] }).push
      { cls := .type "enumerate", data := .fields #[.none, .bool false, .ref s.heap.objs.size, rawInt 0, .none, .none] }) (s.heap.objs.size + 1) s.heap.objs.size 0 .none := by
    have := Heap.get?_push_size (s.heap.push { cls := .type "tuple_iterator", data := .fields #[.ref l, .int 0 0] })
      (o := { cls := .type "enumerate", data := .fields #[.none, .bool false, .ref s.heap.objs.size, rawInt 0, .none, .none] }) rfl
    rw [hz] at this; exact this
  exact ⟨⟨_, he, rfl⟩, h _ he ⟨_, Heap.get?_push_of_some _ (Heap.get?_push_size _ rfl), rfl, rfl⟩ (by rw [Heap.size_push, hz]) fun b o x => Heap.get?_push_of_some _ (Heap.get?_push_of_some _ x)⟩
end
/-- the tuple at a, each item in a new pair behind its place -/
def Itu (K : PySem.W.Frag) (a : Addr) : It :=
  ⟨fun i H => ∃ (xs : List V) (x : V), SqT K H a xs ∧ xs[i]? = some x, fun i H v H' => ∃ p x, v = .ref p ∧ H p = none ∧ H' = upd H p (.tup [.int (i : Nat), x]) ∧ ∀ xs, SqT K H a xs → xs[i]? = some x, fun i H => ∃ xs : List V, SqT K H a xs ∧ xs.length = i⟩
section
open PyProof.Rows
theorem turn_enum_tup {P : Program} {w : World} {K : PySem.W.Frag} {elts : List Expr} {kk : Nat} {tpos : Pos} (a e it : Addr) :
    Turn P w K (.Tuple elts kk tpos) (Itu K a) [e, it] e (fun i h => (∃ old, IsEnum h e it ((i : Nat) : Int) old) ∧ h.IsTupleIter it a i ∧ e ≠ it ∧ a ≠ it ∧ a ≠ e) where
  mem := by simp
  obj := fun i h st b hb => by
    obtain ⟨⟨old, he⟩, ⟨o, ho, hc, hd⟩, _⟩ := st
    have e' : b = e ∨ b = it := by simpa using hb
    rcases e' with z | z
    · rw [z]; exact ⟨_, he, fun v q => nomatch q⟩
    · rw [z]; exact ⟨o, ho, fun v q => by rw [hd] at q; cases q⟩
  keep := fun i h h' st k => let ⟨⟨old, he⟩, hi, hne⟩ := st; ⟨⟨old, k e (by simp) _ he⟩, hi.at fun o q => k it (by simp) o q, hne⟩
  item := by
    intro X hP hw hK hc i pins s σ H E I hf st hg
    subst hP hw hK
    obtain ⟨⟨old, he⟩, hit, hne, hai, hae⟩ := st
    obtain ⟨xs, x, hq, hx⟩ := hg
    obtain ⟨its, rv, p, hz⟩ := I.tuple hq
    obtain ⟨u, hu, ru⟩ := rv.get hx
    have hlt : i < its.toArray.size := by
      have := (List.getElem?_eq_some_iff.mp hu).1
      simpa using this
    have D := Draws.tuple (prog := X.prog) (w := X.w) (A := X.A.in1) (I.ok.hd hc) it a hai its.toArray
    have hel : e < s.heap.objs.size := Heap.lt_size he
    have hil : it < s.heap.objs.size := by obtain ⟨_, q, _⟩ := hit; exact Heap.lt_size q
    refine wpAny_pyNext_enum_itemD D he ⟨hit, p⟩ hlt hne (by simp [hne, Ne.symm hae]) fun y h' tk hy ho hs' hT hsz hk => ?_
    have hyu : y = u := by
      have hy : its.toArray[i]? = some y := hy
      have hu' : its.toArray[i]? = some u := by simpa using hu
      rw [hu'] at hy; cases hy; rfl
    subst hyu
    refine ⟨_, rfl, wpAny_letOwnedTupleGo_enum (s := { s with heap := h', toks := tk + 1 }) ho fun h'' he' sb => ?_⟩
    have hT2 : h''.get? s.heap.objs.size = some { cls := .type "tuple", data := .seq #[.int i tk, y] } := (sb.2 _ (Nat.ne_of_gt hel)).trans hT
    have new : ObjOk X.prog X.w (upd H s.heap.objs.size (.tup [.int (i : Nat), x])) h'' s.heap.objs.size (.tup [.int (i : Nat), x]) :=
      ⟨by show 2 ≤ sizeLine; decide, [.int i tk, y], .cons ⟨_, rfl⟩ (.cons ru .nil), ⟨_, hT2, rfl, _, rfl⟩⟩
    have I1 : Inv X pins σ (upd H s.heap.objs.size (.tup [.int (i : Nat), x])) { s with heap := h'', toks := tk + 1 } :=
      I.turnedNew (ch := [e, it]) (fun b ob hb q => (sb.2 b (fun z => hb (by simp [z]))).trans (hk b ob (fun z => hb (by simp [z])) (fun z => hb (by simp [z])) q)) hf (Nat.le_refl _) new
    refine ⟨.ref s.heap.objs.size, _, I1, rfl, ⟨_, x, rfl, I.hok.fresh (Nat.le_refl _), rfl, fun ys hy => by rw [I.tuple_inj hy hq]; exact hx⟩, ⟨⟨y, ?_⟩, hs'.1.at fun o q => (sb.2 it (Ne.symm hne)).trans q, hne, hai, hae⟩, fun b hb => ?_⟩
    · have e1 : ((i + 1 : Nat) : Int) = (i : Int) + 1 := by omega
      rw [e1]; exact he'
    · have hb' : b < s.heap.objs.size := by
        have e' : b = e ∨ b = it := by simpa using hb
        rcases e' with z | z
        · rw [z]; exact hel
        · rw [z]; exact hil
      rw [upd_ne (Nat.ne_of_lt hb')]
      exact (hf b hb).1
  done := by
    intro X hP hw hK hc i pins s σ H E I hf st hg
    subst hP hw hK
    obtain ⟨⟨old, he⟩, hit, hne, hai, hae⟩ := st
    obtain ⟨xs, hq, hx⟩ := hg
    obtain ⟨its, rv, p, hz⟩ := I.tuple hq
    obtain ⟨f0, f1, f2, f3, f4, f5⟩ := hf it (by simp)
    have hl := rv.length
    have D := Draws.tuple (prog := X.prog) (w := X.w) (A := X.A.in1) (I.ok.hd hc) it a hai its.toArray
    have hsz : its.toArray.size = i := by rw [List.size_toArray, ← hl, hx]
    rw [hsz] at D
    exact wpAny_pyNext_enum_endD D he ⟨hit, p⟩ fun h' eb => ⟨rfl, I.turned (t' := s.toks) (fun b o hb q => eb b o hb q) f0 f1 f3 f4 f5⟩
  self := fun A i s Q E st h => let ⟨⟨_, he⟩, _⟩ := st; wpAny_pyIter_enum he h
end
def enumD (i : Nat) : List D → List D
  | [] => []
  | d :: ds => .tup [.int (i : Nat), d] :: enumD (i + 1) ds
theorem enumD_len : ∀ (ds : List D) (i : Nat), (enumD i ds).length = ds.length
  | [], _ => rfl
  | d :: ds, i => by simp [enumD, enumD_len ds]
theorem enumD_get : ∀ (ds : List D) (i j : Nat) (d : D), ds[j]? = some d → (enumD i ds)[j]? = some (.tup [.int ((i + j : Nat) : Int), d])
  | [], _, _, _, h => by simp at h
  | x :: ds, i, 0, d, h => by simp at h; subst h; simp [enumD]
  | x :: ds, i, j + 1, d, h => by
    rw [enumD, List.getElem?_cons_succ, enumD_get ds (i + 1) j d (by simpa using h)]
    congr 4
    omega
def iEn (a : EX) : IX := fun e st => (a e st).bind fun x st1 => match x with
  | .tup ds => .ok ⟨enumD 0 ds, fun _ => true⟩ st1
  | .ref i => match cellItems st1[i]? with
    | some ds => .ok ⟨enumD 0 ds, fun s => decide (s[i]? = st1[i]?)⟩ st1
    | none => .no
  | _ => .no
section
open PyProof.Rows
variable {X : Cx} {T : List (Addr × Str)} {W : WX} {a : Expr} {fa : EX} {pos p2 tpos : Pos} {elts : List Expr} {kk : Nat}
theorem pair_rep {K : PySem.W.Frag} {H : Hp} {m : List Addr} {st : Sto} {i : Nat} {d : D} {x : V} {p : Addr} (ok : Ok K T H m st) (hp : H p = none) (r : Rep K H m d x) :
    Le H (upd H p (.tup [.int (i : Nat), x])) ∧ Ok K T (upd H p (.tup [.int (i : Nat), x])) m st ∧ Rep K (upd H p (.tup [.int (i : Nat), x])) m (.tup [.int (i : Nat), d]) (.ref p) :=
  ⟨Le.new hp, ok.new hp, p, _, rfl, .of upd_same, .int (i : Nat), [x], rfl, rfl, x, [], rfl, r.mono (Le.new hp) (.refl m), rfl⟩
theorem good_enL {K : PySem.W.Frag} {H : Hp} {m : List Addr} {st1 : Sto} {i : Nat} {ds : List D} {a : Addr} (h : cellItems st1[i]? = some ds) (hm : m[i]? = some a) : Good K T (Ite K a) ⟨enumD 0 ds, fun s => decide (s[i]? = st1[i]?)⟩ H m := fun H' m' st l p ok g => by
  have g : st[i]? = st1[i]? := of_decide_eq_true g
  obtain ⟨a', vs, h1, h2, h3⟩ := cellItems_ok ok (by rw [g]; exact h)
  rw [p.get hm] at h1
  cases h1
  have w := walk_enum (K := K) (a := a) (xs := vs)
  have e := Reps.length h3
  simp only [enumD_len]
  refine ⟨fun j hj => w.goes j H' (by rw [← e]; exact hj) h2, by rw [e]; exact w.stops H' h2, fun j x H2 hj hy => ?_⟩
  obtain ⟨q, u, v, rfl, hq, rfl, e1, e2⟩ := w.yields j H' x H2 (by rw [← e]; exact hj) h2 hy
  cases e1
  obtain ⟨d, hd, rd⟩ := h3.back e2
  obtain ⟨k1, k2, k3⟩ := pair_rep (i := j) ok hq rd
  exact ⟨k1, k2, _, by rw [enumD_get ds 0 j d hd, Nat.zero_add], k3⟩
theorem good_enT {K : PySem.W.Frag} {H : Hp} {m : List Addr} {ds : List D} {vs : List V} {a : Addr} (h2 : SqT K H a vs) (h3 : Reps K H m ds vs) : Good K T (Itu K a) ⟨enumD 0 ds, fun _ => true⟩ H m := fun H' m' st l p ok g => by
  have h2' := l.sqT h2
  have h3 := Reps.mono l p h3
  have e := Reps.length h3
  simp only [enumD_len]
  refine ⟨fun j hj => ⟨vs, vs[j]'(by rw [← e]; exact hj), h2', List.getElem?_eq_getElem _⟩, ⟨vs, h2', e.symm⟩, fun j x H2 hj hy => ?_⟩
  obtain ⟨q, v, rfl, hq, rfl, hv⟩ := hy
  obtain ⟨d, hd, rd⟩ := h3.back (hv vs h2')
  obtain ⟨k1, k2, k3⟩ := pair_rep (i := j) ok hq rd
  exact ⟨k1, k2, _, by rw [enumD_get ds 0 j d hd, Nat.zero_add], k3⟩
theorem Den.imp {K : PySem.W.Frag} {mg : Str → Option Value} {a b : Type} {RA : Hp → List Addr → a → b → Prop} {s : L2.St} {H : Hp} {m : List Addr} {r : R a} {Q Q' : b → Hp → Prop} (h : Den K T mg W RA s H m r Q) (k : ∀ x H', Q x H' → Q' x H') : Den K T mg W RA s H m r Q' := by
  cases r with
  | no => exact h
  | ex x st => exact h
  | ok x st => exact fun y H' m' l p ok r => k y H' (h y H' m' l p ok r)
theorem ji_enum (hg : Gl X "enumerate") (hmm : X.mg "enumerate" = none) (ha : J X T W a fa) (hs : starEach [a] X.env = [(false, eval a X.env)] := by rfl) (he : starEach (a :: []) X.env = (false, eval a X.env) :: starEach [] X.env := by rfl) :
    JI X T W (.Tuple elts kk tpos) (.Call (.Name "enumerate" p2) [a] [] pos) (iEn fa) := by
  refine ⟨fun pins s σ H R I hw => ?_⟩
  obtain ⟨e, st, m, hen, ok, h⟩ := hw
  have key : Den X.K T X.mg W (RD X.K) σ H m (fa e st) (fun x H1 => (∃ p, x = .ref p ∧ (∃ xs, SqL X.K H1 p xs) ∧ R (Ite X.K p) H1) ∨ (∃ p, x = .ref p ∧ (∃ xs, SqT X.K H1 p xs ∧ R (Itu X.K p) H1))) := deni_of h fun dx x st1 H1 m1 hf l p ok1 rx h1 => by
    cases dx with
    | tup ds =>
      obtain ⟨p, vs, rfl, hs, hr⟩ := rx
      exact .inr ⟨p, rfl, vs, hs, h1 _ H1 m1 (.refl H1) (.refl m1) ok1 (good_enT hs hr)⟩
    | ref i =>
      obtain ⟨p, hm, rfl⟩ := rx
      cases hc : cellItems st1[i]? with
      | none =>
        simp only [hc] at h1
        exact False.elim h1
      | some ds =>
        simp only [hc] at h1
        obtain ⟨a', vs, q1, q2, q3⟩ := cellItems_ok ok1 hc
        rw [hm] at q1
        cases q1
        exact .inl ⟨p, rfl, ⟨vs, q2⟩, h1 _ H1 m1 (.refl H1) (.refl m1) ok1 (good_enL hc hm)⟩
    | non | bl _ | str _ | int _ => exact False.elim h1
  have one : PA X [a] (tCons (tE X.K T X.mg W fa) tNil) := pa_cons ha pa_nil he
  refine Call_ (ld_blt I hg hmm boot_enumerate (PyProof.Rows.callWith_type1 (thn (one.run pos pins s σ H (fun vs H1 => ∃ x, vs = [x] ∧ ((∃ p, x = .ref p ∧ (∃ xs, SqL X.K H1 p xs) ∧ R (Ite X.K p) H1) ∨ (∃ p, x = .ref p ∧ (∃ xs, SqT X.K H1 p xs ∧ R (Itu X.K p) H1)))) I ⟨e, st, m, hen, ok, Den.imp key fun x H1 q => ⟨x, rfl, q⟩⟩) fun us s1 ⟨vs, H1, I1, r1, x, ex, q1⟩ => ?_) hs rfl))
  subst ex
  obtain ⟨u, rfl, ru⟩ := vals1 r1
  rcases q1 with ⟨p, rfl, ⟨xs, hq⟩, q⟩ | ⟨p, rfl, xs, hq, q⟩
  · cases ru
    obtain ⟨its, rv, pl, hz⟩ := I1.list hq
    refine call_enumerate_list pl.isList fun h' he hit hsz hk => wpAny_pyIter_enum he ?_
    have I2 : Inv X pins σ H1 { s1 with heap := h' } := I1.kept (t' := s1.toks) hk
    refine ⟨s1.heap.objs.size + 1, [s1.heap.objs.size + 1, s1.heap.objs.size], _, _, H1, rfl, I2, turn_enum p (s1.heap.objs.size + 1) s1.heap.objs.size, ⟨⟨.none, he⟩, hit, Nat.succ_ne_self _⟩, fun b hb => ?_, q⟩
    have e' : b = s1.heap.objs.size + 1 ∨ b = s1.heap.objs.size := by simpa using hb
    have hle : s1.heap.objs.size ≤ b := by
      rcases e' with z | z
      · rw [z]; exact Nat.le_add_right _ _
      · rw [z]; exact Nat.le_refl _
    exact I1.fpOk hle (I1.hok.fresh hle)
  · cases ru
    obtain ⟨its, rv, pl, hz⟩ := I1.tuple hq
    have hlt : p < s1.heap.objs.size := pl.lt
    refine call_enum_tup (show s1.heap.IsTuple p its.toArray from pl) fun h' he hit hsz hk => wpAny_pyIter_enum he ?_
    have I2 : Inv X pins σ H1 { s1 with heap := h' } := I1.kept (t' := s1.toks) hk
    refine ⟨s1.heap.objs.size + 1, [s1.heap.objs.size + 1, s1.heap.objs.size], _, _, H1, rfl, I2, turn_enum_tup p (s1.heap.objs.size + 1) s1.heap.objs.size, ⟨⟨.none, he⟩, hit, Nat.succ_ne_self _, Nat.ne_of_lt hlt, Nat.ne_of_lt (Nat.lt_succ_of_lt hlt)⟩, fun b hb => ?_, q⟩
    have e' : b = s1.heap.objs.size + 1 ∨ b = s1.heap.objs.size := by simpa using hb
    have hle : s1.heap.objs.size ≤ b := by
      rcases e' with z | z
      · rw [z]; exact Nat.le_add_right _ _
      · rw [z]; exact Nat.le_refl _
    exact I1.fpOk hle (I1.hok.fresh hle)
end
/-! small things -/
def oNeg : O1 := fun x st => match x with
  | .int i => some (.int (-i), st)
  | _ => none
theorem une_neg {X : Cx} {T : List (Addr × Str)} : UnR X (unaryOp .USub) (r1 X.K T oNeg) := by
  intro pins s σ H x v Q I rx h
  obtain ⟨d, st, m, q1, ok, q3⟩ := h
  cases d with
  | int i => cases q1; exact un_neg pins s σ H _ v Q I rx ⟨i, rfl, deno_val q3 ok rfl⟩
  | non | bl _ | str _ | tup _ | ref _ => exact False.elim q3
theorem takes_no {X : Cx} : Takes X (fun _ _ _ _ => False) := fun _ _ x => by
  obtain ⟨_, _, _, _, _, _, _, _, _, _, _, _, _, _, _, _, z⟩ := x
  exact z.elim
end Mm

namespace Mm
open PySem
/-! ### running: what simp needs -/
section
variable {a b : Type}
theorem R.bind_ok (x : a) (st : Sto) (k : a → Sto → R b) : (R.ok x st).bind k = k x st := rfl
theorem R.st_ok (e : Env) (d : D) (st : Sto) (k : D → Sto → RS) : (R.ok d st).st e k = k d st := rfl
end
theorem kit_int_int : L2.kitB "int" "int" = some true := by decide +kernel
theorem kit_int_bool : L2.kitB "int" "bool" = some false := by decide +kernel
theorem kit_bool_int : L2.kitB "bool" "int" = some true := by decide +kernel
theorem kit_bool_bool : L2.kitB "bool" "bool" = some true := by decide +kernel
theorem kit_tup_tup : L2.kitB "tuple" "tuple" = some true := by decide +kernel
theorem kit_list_tup : L2.kitB "list" "tuple" = some false := by decide +kernel
theorem kit_tup_int : L2.kitB "tuple" "int" = some false := by decide +kernel
theorem kit_str_int : L2.kitB "str" "int" = some false := by decide +kernel
theorem kit_non_int : L2.kitB "NoneType" "int" = some false := by decide +kernel
theorem kit_list_int : L2.kitB "list" "int" = some false := by decide +kernel
theorem kit_int_tup : L2.kitB "int" "tuple" = some false := by decide +kernel
theorem kit_bool_tup : L2.kitB "bool" "tuple" = some false := by decide +kernel
theorem kit_str_tup : L2.kitB "str" "tuple" = some false := by decide +kernel
theorem kit_non_tup : L2.kitB "NoneType" "tuple" = some false := by decide +kernel
/-- a def that leaves the store as it is -/
theorem fin_same {st : Sto} {d : D} (h : lowD st.length d = true) : fin st d st = .ok d st := by
  unfold fin
  rw [if_pos (.inl (by simp)), if_pos h]
  simp
theorem mul_i {i j : Int} (h : (b64 i || b64 j) = true) (st : Sto) : oMul (.int i) (.int j) st = some (.int (i * j), st) := by
  unfold oMul
  simp only [h, if_true]
theorem fin_i (st : Sto) (i : Int) : fin st (.int i) st = .ok (.int i) st := fin_same rfl
theorem fin_b (st : Sto) (i : Bool) : fin st (.bl i) st = .ok (.bl i) st := fin_same rfl
theorem fin_n (st : Sto) : fin st .non st = .ok .non st := fin_same rfl
theorem fin_s (st : Sto) (i : Str) : fin st (.str i) st = .ok (.str i) st := fin_same rfl
mutual
def flatD : D → Bool
  | .ref _ => false
  | .tup xs => flatDs xs
  | _ => true
def flatDs : List D → Bool
  | [] => true
  | x :: xs => flatD x && flatDs xs
end
mutual
theorem low_flat (n : Nat) : ∀ d : D, flatD d = true → lowD n d = true
  | .non, _ => rfl
  | .bl _, _ => rfl
  | .int _, _ => rfl
  | .str _, _ => rfl
  | .ref _, h => by cases h
  | .tup xs, h => lows_flat n xs h
theorem lows_flat (n : Nat) : ∀ ds : List D, flatDs ds = true → lowDs n ds = true
  | [], _ => rfl
  | x :: xs, h => by
    simp only [flatDs, Bool.and_eq_true] at h
    simp only [lowDs, low_flat n x h.1, lows_flat n xs h.2, Bool.and_self]
end
theorem fin_f {st : Sto} {d : D} (h : flatD d = true) : fin st d st = .ok d st := fin_same (low_flat _ d h)
theorem fin_t2 (st : Sto) (i j : Int) : fin st (.tup [.int i, .int j]) st = .ok (.tup [.int i, .int j]) st := fin_f rfl
theorem flat_ints : ∀ ns : List Int, flatDs (ns.map D.int) = true
  | [] => rfl
  | _ :: r => by simp only [List.map, flatDs, flatD, flat_ints r, Bool.and_self]
/-- the store has changed below and grown: what is above falls away -/
theorem fin_low {st st' : Sto} {d : D} (h : lowS st.length (st'.take st.length) = true) (hd : lowD st.length d = true) : fin st d st' = .ok d (st'.take st.length) := by
  unfold fin
  rw [if_pos (.inr h), if_pos hd]
theorem pys_ints : ∀ ns : List Int, pys (ns.map D.int) = some (ns.map PyData.int)
  | [] => rfl
  | n :: r => by simp only [List.map, pys, py, pys_ints r, Option.bind, Option.map]
theorem lay_ints : ∀ ns : List Int, PyData.canLayAll0 (ns.map PyData.int) = true
  | [] => rfl
  | n :: r => by simp only [List.map, PyData.canLayAll0, PyData.canLay0, lay_ints r, Bool.and_self]
theorem dep_ints : ∀ ns : List Int, PyData.depthAll (ns.map PyData.int) = 0
  | [] => rfl
  | n :: r => by simp only [List.map, PyData.depthAll, PyData.depth, dep_ints r, Nat.max_self]
theorem shaped_lints (ns : List Int) : SeqAt.shaped (.list (ns.map PyData.int)) = true := by
  simp [SeqAt.shaped, PyData.canLay0, lay_ints, PyData.depth, dep_ints]
theorem shaped_tints (ns : List Int) : SeqAt.shaped (.tuple (ns.map PyData.int)) = true := by
  simp [SeqAt.shaped, PyData.canLay0, lay_ints, PyData.depth, dep_ints]
theorem eqv_ints : ∀ a b : List Int, PyData.eqvAll (a.map PyData.int) (b.map PyData.int) = decide (a = b)
  | [], [] => rfl
  | [], _ :: _ => rfl
  | _ :: _, [] => rfl
  | x :: xs, y :: ys => by
    simp only [List.map, PyData.eqvAll, PyData.eqv, eqv_ints xs ys, List.cons.injEq]
    by_cases h : x = y <;> simp [h]
/-- lists of numbers, by == -/
theorem eq_ints {st : Sto} {i j : Nat} {a b : List Int} (h1 : cellItems st[i]? = some (a.map D.int)) (h2 : cellItems st[j]? = some (b.map D.int)) : eqF st (.ref i) (.ref j) = some (decide (a = b)) := by
  simp only [eqF, eqD, pyS, h1, h2, pys_ints, Option.map, shaped_lints, PyData.eqv, eqv_ints, Bool.and_self, if_true]
theorem eq_tints {st : Sto} {a b : List Int} : eqF st (.tup (a.map D.int)) (.tup (b.map D.int)) = some (decide (a = b)) := by
  simp only [eqF, eqD, pyS, py, pys_ints, Option.map, shaped_tints, PyData.eqv, eqv_ints, Bool.and_self, if_true]
theorem atN {α : Type} (xs : List α) (i : Nat) (h : i < xs.length) : L2.atI xs (i : Int) = some xs[i] := by
  simp [L2.atI, L2.ixN, h]
theorem at0 {α : Type} (x : α) (r : List α) : L2.atI (x :: r) 0 = some x := atN (x :: r) 0 (by simp)
theorem at1 {α : Type} (x y : α) (r : List α) : L2.atI (x :: y :: r) 1 = some y := atN (x :: y :: r) 1 (by simp)
theorem at2 {α : Type} (x y z : α) (r : List α) : L2.atI (x :: y :: z :: r) 2 = some z := atN (x :: y :: z :: r) 2 (by simp)
theorem at3 {α : Type} (x y z u : α) (r : List α) : L2.atI (x :: y :: z :: u :: r) 3 = some u := atN (x :: y :: z :: u :: r) 3 (by simp)
theorem at4 {α : Type} (x y z u v : α) (r : List α) : L2.atI (x :: y :: z :: u :: v :: r) 4 = some v := atN (x :: y :: z :: u :: v :: r) 4 (by simp)
theorem ixN_nat {n i : Nat} (h : i < n) : L2.ixN n (i : Int) = some i := by simp [L2.ixN, h]
theorem ix0 {n : Nat} (h : 0 < n) : L2.ixN n 0 = some 0 := ixN_nat h
theorem ix1 {n : Nat} (h : 1 < n) : L2.ixN n 1 = some 1 := ixN_nat h
theorem ix2 {n : Nat} (h : 2 < n) : L2.ixN n 2 = some 2 := ixN_nat h
theorem cut1 (x : D) (r : List D) : cutD (x :: r) (some 1) none = r := by
  simp [cutD, HT.sIx]
/-! ### the numbers drawn out of a script -/
/-- the cells of a pool, then others -/
def pst (xs sl : List D) (ks : List Int) (a b : Int) (rest : Sto) : Sto := Cell.ro xs :: Cell.lst sl :: Cell.lst (ks.map D.int) :: Cell.lst [.int a, .int b, .ref 2] :: rest
def Pst (rest st : Sto) : Prop := ∃ xs sl ks a b, flatDs xs = true ∧ flatDs sl = true ∧ List.length ks ≤ 100 ∧ 0 ≤ a ∧ 0 ≤ b ∧ b < 4294967296 ∧ st = pst xs sl ks a b rest
theorem low_ints (n : Nat) (ks : List Int) : lowDs n (ks.map D.int) = true := lows_flat n _ (flat_ints ks)
theorem low_pst {xs sl : List D} {ks : List Int} {a b : Int} {rest : Sto} (h1 : flatDs xs = true) (h2 : flatDs sl = true) (h : lowS (4 + rest.length) rest = true) : lowS (4 + rest.length) (pst xs sl ks a b rest) = true := by
  simp only [lowS, pst, List.all_cons, lowC, lows_flat _ _ h1, lows_flat _ _ h2, low_ints, lowDs, lowD, Bool.true_and, Bool.and_true]
  simp only [lowS] at h
  simp [h]
  omega
theorem fin_pool (xs sl ks : List D) (a b : Int) : fin [Cell.ro xs] (.ref 3) [Cell.ro xs, Cell.lst sl, Cell.lst ks, Cell.lst [.int a, .int b, .ref 2]] = .ok (.ref 3) [Cell.ro xs, Cell.lst sl, Cell.lst ks, Cell.lst [.int a, .int b, .ref 2]] := by
  simp [fin, lowD, lowDs]
theorem pst_pool (n : Int) (r : List Int) (a b : Int) (hl : r.length ≤ 100) (ha : 0 ≤ a) (hb : 0 ≤ b) (hb2 : b < 4294967296) : Pst [] [Cell.ro (D.int n :: List.map D.int r), Cell.lst (List.map D.int r), Cell.lst (List.map D.int r), Cell.lst [.int a, .int b, .ref 2]] :=
  ⟨_, _, r, a, b, flat_ints (n :: r), flat_ints r, hl, ha, hb, hb2, rfl⟩
theorem fin_draw {xs sl : List D} {ks ks' : List Int} {a b a' b' : Int} {rest : Sto} {r : Int} (h1 : flatDs xs = true) (h2 : flatDs sl = true) (h : lowS (4 + rest.length) rest = true) {st' : Sto} (e : st'.take (4 + rest.length) = pst xs sl ks' a' b' rest) :
    fin (pst xs sl ks a b rest) (.int r) st' = .ok (.int r) (pst xs sl ks' a' b' rest) := by
  have hl : (pst xs sl ks a b rest).length = 4 + rest.length := by simp [pst]; omega
  have := fin_low (st := pst xs sl ks a b rest) (st' := st') (d := .int r) (by rw [hl, e]; exact low_pst h1 h2 h) rfl
  rw [hl, e] at this
  exact this
theorem fmod_lo (a b : Int) (h : 0 < b) : 0 ≤ Int.fmod a b := Int.fmod_nonneg_of_pos _ h
theorem fmod_hi (a b : Int) (h : 0 < b) : Int.fmod a b < b := Int.fmod_lt_of_pos _ h
theorem b64_47 (x : Int) : b64 (x.fmod 2147483647) = true := decide_eq_true (by have := fmod_lo x 2147483647 (by decide); have := fmod_hi x 2147483647 (by decide); omega)
theorem eqD_pool (xs sl : List D) (ks : List Int) (c : Cell) (rest : Sto) : eqD (Cell.ro xs :: Cell.lst sl :: Cell.lst (ks.map .int) :: c :: (rest ++ [Cell.lst []])) (.ref 2) (.ref (rest.length + 1 + 1 + 1 + 1)) = some (decide (ks = [])) := by
  have := eq_ints (st := Cell.ro xs :: Cell.lst sl :: Cell.lst (ks.map .int) :: c :: (rest ++ [Cell.lst []])) (i := 2) (j := rest.length + 1 + 1 + 1 + 1) (a := ks) (b := []) (by simp [cellItems]) (by simp [cellItems])
  exact this
theorem eqD_pool0 (xs sl : List D) (c : Cell) (rest : Sto) : eqD (Cell.ro xs :: Cell.lst sl :: Cell.lst [] :: c :: (rest ++ [Cell.lst []])) (.ref 2) (.ref (rest.length + 1 + 1 + 1 + 1)) = some true := eqD_pool xs sl [] c rest
theorem eqD_pool1 (xs sl : List D) (n : Int) (r : List Int) (c : Cell) (rest : Sto) : eqD (Cell.ro xs :: Cell.lst sl :: Cell.lst (.int n :: r.map .int) :: c :: (rest ++ [Cell.lst []])) (.ref 2) (.ref (rest.length + 1 + 1 + 1 + 1)) = some false := eqD_pool xs sl (n :: r) c rest
theorem take_a (c0 c1 c2 c3 x : Cell) (rest : Sto) : List.take (4 + rest.length) (c0 :: c1 :: c2 :: c3 :: (rest ++ [x])) = c0 :: c1 :: c2 :: c3 :: rest := by
  rw [show 4 + rest.length = rest.length + 1 + 1 + 1 + 1 by omega]
  simp
theorem take_b (c0 c1 c2 c3 : Cell) (rest : Sto) : List.take (4 + rest.length) (c0 :: c1 :: c2 :: c3 :: rest) = c0 :: c1 :: c2 :: c3 :: rest := by
  rw [show 4 + rest.length = rest.length + 1 + 1 + 1 + 1 by omega]
  simp
theorem b64_of {i : Int} (h1 : -1000000000 ≤ i) (h2 : i ≤ 1000000000) : b64 i = true := decide_eq_true (by omega)
theorem b64_nat {n : Nat} (h : n ≤ 1000000000) : b64 (n : Int) = true := b64_of (by omega) (by omega)
/-! ### loops -/
def RSok (P : RS → Prop) (I : Env → Sto → Prop) : RS → Prop
  | .nx e st => I e st
  | .ct e st => I e st
  | .brk e st => P (.nx e st)
  | r => P r
theorem forL_wp {g : Sto → Bool} {t : TX} {body : SX} (I : List D → Env → Sto → Prop) (P : RS → Prop)
    (step : ∀ d ds e st, I (d :: ds) e st → g st = true ∧ ∃ e1, t d e = some e1 ∧ RSok P (I ds) (body e1 st))
    (done : ∀ e st, I [] e st → g st = true ∧ P (.nx e st)) : ∀ ds e st, I ds e st → P (forL g t body ds e st)
  | [], e, st, h => by
    obtain ⟨h1, h2⟩ := done e st h
    rw [forL, if_pos h1]; exact h2
  | d :: ds, e, st, h => by
    obtain ⟨h1, e1, h2, h3⟩ := step d ds e st h
    rw [forL, if_pos h1, h2]
    simp only
    revert h3
    generalize body e1 st = r
    intro h3
    cases r with
    | nx e st => exact forL_wp I P step done ds e st h3
    | ct e st => exact forL_wp I P step done ds e st h3
    | brk e st => exact h3
    | ret d st => exact h3
    | exc x e st => exact h3
    | no => exact h3
theorem whL_wp {c : BX} {body : SX} (I : Nat → Env → Sto → Prop) (P : RS → Prop)
    (step : ∀ n e st, I n e st → ∃ st1, (c e st = .ok false st1 ∧ P (.nx e st1)) ∨ (c e st = .ok true st1 ∧ RSok P (fun e2 st2 => ∃ m, m < n ∧ I m e2 st2) (body e st1))) :
    ∀ (fuel n : Nat) e st, n < fuel → I n e st → P (whL c body fuel e st)
  | 0, n, e, st, h, _ => absurd h (Nat.not_lt_zero _)
  | fuel + 1, n, e, st, h, hi => by
    obtain ⟨st1, h1 | h1⟩ := step n e st hi
    · rw [whL, h1.1]; exact h1.2
    · rw [whL, h1.1]
      simp only
      have h3 := h1.2
      revert h3
      generalize body e st1 = r
      intro h3
      cases r with
      | nx e st => obtain ⟨m, h4, h5⟩ := h3; exact whL_wp I P step fuel m e st (by omega) h5
      | ct e st => obtain ⟨m, h4, h5⟩ := h3; exact whL_wp I P step fuel m e st (by omega) h5
      | brk e st => exact h3
      | ret d st => exact h3
      | exc x e st => exact h3
      | no => exact h3
theorem seq_nx {f g : SX} {e e1 : Env} {st st1 : Sto} {r : RS} (h : f e st = .nx e1 st1) (h2 : g e1 st1 = r) : sSeq f g e st = r := by
  unfold sSeq; rw [h]; exact h2
theorem seq_ret {f g : SX} {e : Env} {st st1 : Sto} {d : D} (h : f e st = .ret d st1) : sSeq f g e st = .ret d st1 := by
  unfold sSeq; rw [h]
theorem seq_exc {f g : SX} {e e1 : Env} {st st1 : Sto} {x : Exn} (h : f e st = .exc x e1 st1) : sSeq f g e st = .exc x e1 st1 := by
  unfold sSeq; rw [h]
theorem seq_if {c : BX} {f g : SX} {e : Env} {st : Sto} {r : RS} (h : c e st = .ok false st) (h2 : g e st = r) : sSeq (sIf c f sNx) g e st = r := by
  refine seq_nx (e1 := e) (st1 := st) ?_ h2
  unfold sIf; rw [h]; rfl
theorem fn_ret {n : Nat} {body : SX} {ds : List D} {st st' : Sto} {d : D} {r : R D} (h : body (ds.map some ++ List.replicate (n - ds.length) none) st = .ret d st') (h2 : fin st d st' = r) : fnS n body ds st = r := by
  unfold fnS; rw [h]; exact h2
theorem fn_nx {n : Nat} {body : SX} {ds : List D} {e : Env} {st st' : Sto} {r : R D} (h : body (ds.map some ++ List.replicate (n - ds.length) none) st = .nx e st') (h2 : fin st .non st' = r) : fnS n body ds st = r := by
  unfold fnS; rw [h]; exact h2
theorem or_ff {a b : BX} {e : Env} {st : Sto} (h : a e st = .ok false st) (h2 : b e st = .ok false st) : bOr a b e st = .ok false st := by
  unfold bOr; rw [h]; exact h2
theorem and_f {a b : BX} {e : Env} {st : Sto} (h : a e st = .ok false st) : bAnd a b e st = .ok false st := by
  unfold bAnd; rw [h]; rfl
theorem and_t {a b : BX} {e : Env} {st : Sto} {r : R Bool} (h : a e st = .ok true st) (h2 : b e st = r) : bAnd a b e st = r := by
  unfold bAnd; rw [h]; exact h2
theorem or_t {a b : BX} {e : Env} {st : Sto} (h : a e st = .ok true st) : bOr a b e st = .ok true st := by
  unfold bOr; rw [h]; rfl
theorem or_f {a b : BX} {e : Env} {st : Sto} {r : R Bool} (h : a e st = .ok false st) (h2 : b e st = r) : bOr a b e st = r := by
  unfold bOr; rw [h]; exact h2
theorem seq_nxE {f g : SX} {e : Env} {st : Sto} {r : RS} (h : ∃ e1 st1, f e st = .nx e1 st1 ∧ g e1 st1 = r) : sSeq f g e st = r :=
  let ⟨_, _, h1, h2⟩ := h; seq_nx h1 h2
end Mm

/-! the defs of the law undertwo_k34_more_kinds_are_dearer over data, and that each does so -/
namespace Gk34
open PySem L2 Mm
def topS (i : Nat) : Stmt := PySem.Challenge.pw_undertwo_k34_more_kinds_are_dearer.main.body.getD i (.Pass ⟨0, 0, 0, 0⟩)
def s_is_number : List D → Sto → R D := fnS 1
  (sRet (eAndT (e1 (oIsi "int") (eV 0)) (eNotT (e1 (oIsi "bool") (eV 0)))))
def s_is_within : List D → Sto → R D := fnS 3
  (sRet (eAndT (eCall s_is_number (aC (eV 0) aN)) (eCh oLe oLe (eV 1) (eV 0) (eV 2))))
def s_check_many : List D → Sto → R D := fnS 3
  (sIf (bNot (bTru (eCall s_is_within (aC (eV 0) (aC (eV 1) (aC (eV 2) aN)))))) sNo sNx)
def s_made_k : List D → Sto → R D := fnS 1
  (sSeq (sIf (bNot (bTru (eCall s_is_within (aC (eV 0) (aC (eC (.int 1)) (aC (eC (.int 60)) aN)))))) sNo sNx)
    (sRet (eV 0)))
def s_most : List D → Sto → R D := fnS 2
  (sSeq (sEx (eCall s_made_k (aC (eV 0) aN)))
    (sSeq (sEx (eCall s_check_many (aC (eV 1) (aC (eC (.int 1)) (aC (eC (.int 30)) aN)))))
    (sRet (e2 oDiv (eV 0) (e2 oSub (e2 oMul (eC (.int 2)) (eV 1)) (eC (.int 1)))))))
def s_lowest : List D → Sto → R D := fnS 3
  (sSeq (sSet 2 (eN oGcd (aC (eV 0) (aC (eV 1) aN))))
    (sRet (eTup (aC (e2 oDiv (eV 0) (eV 2)) (aC (e2 oDiv (eV 1) (eV 2)) aN)))))
def s_least_density : List D → Sto → R D := fnS 3
  (sSeq (sSet 2 (eCall s_most (aC (eV 0) (aC (eV 1) aN))))
    (sSeq (sIf (bB (e2 oEq (eV 2) (eC (.int 0)))) (sRet (eC .non)) sNx)
    (sRet (eCall s_lowest (aC (eC (.int 2)) (aC (e2 oAdd (eV 0) (eV 2)) aN))))))
def s__law_pool : List D → Sto → R D := fnS 3
  (sSeq (sSet 1 (eIf (bB (e2 oGt (eN oLen (aC (eV 0) aN)) (eC (.int 0)))) (eN oInt (aC (e2 oIx (eV 0) (eC (.int 0))) aN)) (eC (.int 0))))
    (sSeq (sSet 2 (eIf (bB (e2 oGe (eV 1) (eC (.int 0)))) (e2 oMul (eC (.int 2)) (eV 1)) (e2 oSub (e1 oNeg (eC (.int 1))) (e2 oMul (eC (.int 2)) (eV 1)))))
    (sRet (eLst (aC (eIf (bB (e2 oGe (eV 2) (e2 oPow (eC (.int 10)) (eC (.int 18))))) (eV 2) (eC (.int 0))) (aC (e2 oAdd (e2 oMod (eN oInt (aC (e2 oAdd (e2 oMul (eV 2) (eC (.int 48271))) (eC (.int 1009))) aN)) (eC (.int 2147483629))) (eC (.int 3))) (aC (eN oListOf (aC (eSl (eV 0) (some (eC (.int 1))) none) aN)) aN)))))))
def s__law_draw : List D → Sto → R D := fnS 5
  (sSeq (sIf (bAnd (bB (e2 oEq (e2 oIx (eV 0) (eC (.int 0))) (eC (.int 0)))) (bB (e2 oNe (e2 oIx (eV 0) (eC (.int 2))) (eLst aN)))) (sSeq (sSet 2 (eN oInt (aC (eM1 oPopAt (e2 oIx (eV 0) (eC (.int 2))) (eC (.int 0))) aN)))
    (sSeq (sSet 3 (eIf (bB (e2 oGe (eV 2) (eC (.int 0)))) (e2 oMul (eC (.int 2)) (eV 2)) (e2 oSub (e1 oNeg (eC (.int 1))) (e2 oMul (eC (.int 2)) (eV 2)))))
    (sSeq (sStore (eV 0) (eC (.int 0)) (eIf (bB (e2 oGe (eV 3) (e2 oPow (eC (.int 10)) (eC (.int 18))))) (eV 3) (eC (.int 0))))
    (sStore (eV 0) (eC (.int 1)) (e2 oAdd (e2 oMod (eN oInt (aC (e2 oAdd (e2 oIx (eV 0) (eC (.int 1))) (e2 oMul (eV 3) (eC (.int 69621)))) aN)) (eC (.int 2147483629))) (eC (.int 3))))))) sNx)
    (sSeq (sIf (bB (e2 oGt (e2 oIx (eV 0) (eC (.int 0))) (eC (.int 0)))) (sSeq (sSet 4 (e2 oMod (eN oInt (aC (e2 oIx (eV 0) (eC (.int 0))) aN)) (eV 1)))
    (sSeq (sStore (eV 0) (eC (.int 0)) (e2 oDiv (e2 oIx (eV 0) (eC (.int 0))) (eV 1)))
    (sRet (eV 4)))) sNx)
    (sSeq (sStore (eV 0) (eC (.int 1)) (e2 oMod (eN oInt (aC (e2 oAdd (e2 oMul (e2 oIx (eV 0) (eC (.int 1))) (eC (.int 48271))) (eC (.int 11))) aN)) (eC (.int 2147483647))))
    (sRet (e2 oMod (e2 oDiv (e2 oMod (eN oInt (aC (e2 oMul (e2 oIx (eV 0) (eC (.int 1))) (e2 oIx (eV 0) (eC (.int 1)))) aN)) (eC (.int 2147483629))) (eC (.int 32))) (eV 1))))))
def s_wrong_at : List D → Sto → R D := fnS 7
  (sSeq (sIf (bOr (bNot (bTru (e1 (oIsi "tuple") (eV 0)))) (bNot (bB (eCh oLe oLe (eV 1) (eN oLen (aC (eV 0) aN)) (eV 2))))) (sRet (e1 oNeg (eC (.int 1)))) sNx)
    (sSeq (sFor (iEn (eV 0)) (tgTup (tgCons (tgN 5) (tgCons (tgN 6) tgNil))) (sIf (bNot (bTru (eCall s_is_within (aC (eV 6) (aC (eV 3) (aC (eV 4) aN)))))) (sRet (eV 5)) sNx))
    (sRet (eC .non))))
def s_made_ts : List D → Sto → R D := fnS 2
  (sSeq (sSet 1 (eCall s_wrong_at (aC (eV 0) (aC (eC (.int 1)) (aC (eC (.int 8)) (aC (eC (.int 1)) (aC (eC (.int 60)) aN)))))))
    (sSeq (sIf (bB (e2 oIsN (eV 1) (eC .non))) sNo sNx)
    (sRet (eV 0))))
def s_left_over : List D → Sto → R D := fnS 2
  (sRet (e2 oSub (e2 oAdd (eV 0) (eN oMax (aC (eV 1) aN))) (e2 oMul (eC (.int 2)) (eN oSum (aC (eV 1) aN)))))
def s_spare : List D → Sto → R D := fnS 2
  (sSeq (sEx (eCall s_made_k (aC (eV 0) aN)))
    (sSeq (sEx (eCall s_made_ts (aC (eV 1) aN)))
    (sRet (eCall s_left_over (aC (eV 0) (aC (eV 1) aN))))))
def s_fits : List D → Sto → R D := fnS 2
  (sRet (e2 oGe (eCall s_spare (aC (eV 0) (aC (eV 1) aN))) (eC (.int 0))))
def s__law_is_whole : List D → Sto → R D := fnS 1
  (sRet (eAndT (e1 (oIsi "int") (eV 0)) (eNotT (e1 (oIsi "bool") (eV 0)))))
def s__law_row_gcd : List D → Sto → R D := fnS 2
  (sSeq (sWh (bB (e2 oNe (eV 1) (eC (.int 0)))) (sPar 0 1 (eV 1) (e2 oMod (eN oInt (aC (eV 0) aN)) (eV 1))))
    (sRet (eV 0)))
def s__law_row_low : List D → Sto → R D := fnS 3
  (sSeq (sSet 2 (eCall s__law_row_gcd (aC (eV 0) (aC (eV 1) aN))))
    (sRet (eTup (aC (e2 oDiv (eV 0) (eV 2)) (aC (e2 oDiv (eV 1) (eV 2)) aN)))))
def s__law_more_right : List D → Sto → R D := fnS 5
  (sSeq (sPar 2 3 (eCall s_most (aC (eV 0) (aC (eV 1) aN))) (eCall s_least_density (aC (eV 0) (aC (eV 1) aN))))
    (sSeq (sIf (bOr (bNot (bTru (eCall s__law_is_whole (aC (eV 2) aN)))) (bB (e2 oLt (eV 2) (eC (.int 0))))) (sRet (eC (.bl false))) sNx)
    (sSeq (sIf (bB (e2 oEq (eV 2) (eC (.int 0)))) (sRet (e2 oIs (eV 3) (eC .non))) sNx)
    (sSeq (sIf (bB (e2 oNe (eN oRepr (aC (eV 3) aN)) (eN oRepr (aC (eCall s__law_row_low (aC (eC (.int 2)) (aC (e2 oAdd (eV 0) (eV 2)) aN))) aN)))) (sRet (eC (.bl false))) sNx)
    (sSeq (sIf (bOr (bB (e2 oGe (e2 oMul (e2 oIx (eV 3) (eC (.int 0))) (eV 0)) (e2 oMul (eC (.int 2)) (e2 oIx (eV 3) (eC (.int 1)))))) (bOr (bB (e2 oLt (e2 oMul (e2 oIx (eV 3) (eC (.int 0))) (eV 0)) (e2 oIx (eV 3) (eC (.int 1))))) (bAnd (bB (e2 oEq (eV 1) (eC (.int 1)))) (bB (e2 oNe (e2 oMul (e2 oIx (eV 3) (eC (.int 0))) (eV 0)) (e2 oIx (eV 3) (eC (.int 1)))))))) (sRet (eC (.bl false))) sNx)
    (sSeq (sIf (bAnd (bB (e2 oLt (eV 1) (eC (.int 9)))) (bOr (bB (e2 oIsN (eCall s_fits (aC (eV 0) (aC (e2 oMul (eTup (aC (eV 2) aN)) (eV 1)) aN))) (eC (.bl true)))) (bAnd (bB (e2 oLt (eV 2) (eC (.int 60)))) (bB (e2 oIsN (eCall s_fits (aC (eV 0) (aC (e2 oMul (eTup (aC (e2 oAdd (eV 2) (eC (.int 1))) aN)) (eV 1)) aN))) (eC (.bl false))))))) (sRet (eC (.bl false))) sNx)
    (sSeq (sSet 4 (e2 oSub (e2 oMul (e2 oMul (e2 oIx (eV 3) (eC (.int 0))) (eV 0)) (eV 1)) (e2 oMul (e2 oSub (e2 oMul (eC (.int 2)) (eV 1)) (eC (.int 1))) (e2 oIx (eV 3) (eC (.int 1))))))
    (sRet (eCh oLe oLt (eC (.int 0)) (e2 oMul (eV 4) (eV 0)) (e2 oMul (e2 oMul (e2 oMul (eC (.int 2)) (e2 oIx (eV 3) (eC (.int 1)))) (eV 1)) (e2 oSub (e2 oMul (eC (.int 2)) (eV 1)) (eC (.int 1)))))))))))))
def s_law : List D → Sto → R D := fnS 10
  (sSeq (sSet 1 (eCall s__law_pool (aC (eV 0) aN)))
    (sSeq (sSet 2 (e2 oAdd (eC (.int 1)) (eCall s__law_draw (aC (eV 1) (aC (eIf (bB (e2 oEq (eCall s__law_draw (aC (eV 1) (aC (eC (.int 4)) aN))) (eC (.int 0)))) (eC (.int 60)) (eC (.int 12))) aN)))))
    (sSeq (sPar3 3 4 5 (eN oMin (aC (eC (.int 60)) (aC (e2 oAdd (e2 oAdd (eV 2) (eC (.int 1))) (eCall s__law_draw (aC (eV 1) (aC (eC (.int 9)) aN)))) aN))) (eC .non) (eTup (aC (eC (.int 0)) (aC (eC (.int 1)) aN))))
    (sSeq (sFor (iR2 (aC (eC (.int 1)) (aC (eC (.int 31)) aN))) (tgN 6) (sSeq (sIf (bNot (bTru (eCall s__law_more_right (aC (eV 2) (aC (eV 6) aN))))) (sRet (eC (.bl false))) sNx)
    (sSeq (sPar3 7 8 9 (eCall s_most (aC (eV 2) (aC (eV 6) aN))) (eCall s_least_density (aC (eV 2) (aC (eV 6) aN))) (eCall s_least_density (aC (eV 3) (aC (eV 6) aN))))
    (sSeq (sIf (bAnd (bB (e2 oIsN (eV 4) (eC .non))) (bB (e2 oGt (eV 7) (eV 4)))) (sRet (eC (.bl false))) sNx)
    (sSeq (sIf (bAnd (bB (e2 oIsN (eV 8) (eC .non))) (bOr (bB (e2 oLt (e2 oMul (e2 oIx (eV 8) (eC (.int 0))) (e2 oIx (eV 5) (eC (.int 1)))) (e2 oMul (e2 oIx (eV 5) (eC (.int 0))) (e2 oIx (eV 8) (eC (.int 1)))))) (bOr (bB (e2 oIs (eV 9) (eC .non))) (bB (e2 oGt (e2 oMul (e2 oIx (eV 9) (eC (.int 0))) (e2 oIx (eV 8) (eC (.int 1)))) (e2 oMul (e2 oIx (eV 8) (eC (.int 0))) (e2 oIx (eV 9) (eC (.int 1))))))))) (sRet (eC (.bl false))) sNx)
    (sPar 4 5 (eV 7) (eIf (bB (e2 oIsN (eV 8) (eC .non))) (eV 8) (eV 5))))))))
    (sRet (eC (.bl true)))))))
abbrev N_is_number : List Str := ["thing"]
theorem sc_is_number : FnScope N_is_number ["thing"] (defScope (topS 7)) := ⟨rfl, rfl, rfl, by decide +kernel, rfl, by decide +kernel, by decide +kernel⟩
abbrev N_is_within : List Str := ["thing", "low", "high"]
theorem sc_is_within : FnScope N_is_within ["thing", "low", "high"] (defScope (topS 8)) := ⟨rfl, rfl, rfl, by decide +kernel, rfl, by decide +kernel, by decide +kernel⟩
abbrev N_check_many : List Str := ["many", "low", "high"]
theorem sc_check_many : FnScope N_check_many ["many", "low", "high"] (defScope (topS 10)) := ⟨rfl, rfl, rfl, by decide +kernel, rfl, by decide +kernel, by decide +kernel⟩
abbrev N_made_k : List Str := ["thing"]
theorem sc_made_k : FnScope N_made_k ["thing"] (defScope (topS 14)) := ⟨rfl, rfl, rfl, by decide +kernel, rfl, by decide +kernel, by decide +kernel⟩
abbrev N_most : List Str := ["k", "many"]
theorem sc_most : FnScope N_most ["k", "many"] (defScope (topS 23)) := ⟨rfl, rfl, rfl, by decide +kernel, rfl, by decide +kernel, by decide +kernel⟩
abbrev N_lowest : List Str := ["above", "below", "common"]
theorem sc_lowest : FnScope N_lowest ["above", "below"] (defScope (topS 11)) := ⟨rfl, rfl, rfl, by decide +kernel, rfl, by decide +kernel, by decide +kernel⟩
abbrev N_least_density : List Str := ["k", "many", "thick"]
theorem sc_least_density : FnScope N_least_density ["k", "many"] (defScope (topS 24)) := ⟨rfl, rfl, rfl, by decide +kernel, rfl, by decide +kernel, by decide +kernel⟩
abbrev N__law_pool : List Str := ["script", "first", "size"]
theorem sc__law_pool : FnScope N__law_pool ["script"] (defScope (topS 26)) := ⟨rfl, rfl, rfl, by decide +kernel, rfl, by decide +kernel, by decide +kernel⟩
abbrev N__law_draw : List Str := ["pool", "many", "cell", "size", "found"]
theorem sc__law_draw : FnScope N__law_draw ["pool", "many"] (defScope (topS 27)) := ⟨rfl, rfl, rfl, by decide +kernel, rfl, by decide +kernel, by decide +kernel⟩
abbrev N_wrong_at : List Str := ["thing", "fewest", "greatest", "low", "high", "at", "item"]
theorem sc_wrong_at : FnScope N_wrong_at ["thing", "fewest", "greatest", "low", "high"] (defScope (topS 9)) := ⟨rfl, rfl, rfl, by decide +kernel, rfl, by decide +kernel, by decide +kernel⟩
abbrev N_made_ts : List Str := ["thing", "wrong"]
theorem sc_made_ts : FnScope N_made_ts ["thing"] (defScope (topS 19)) := ⟨rfl, rfl, rfl, by decide +kernel, rfl, by decide +kernel, by decide +kernel⟩
abbrev N_left_over : List Str := ["k", "ts"]
theorem sc_left_over : FnScope N_left_over ["k", "ts"] (defScope (topS 20)) := ⟨rfl, rfl, rfl, by decide +kernel, rfl, by decide +kernel, by decide +kernel⟩
abbrev N_spare : List Str := ["k", "ts"]
theorem sc_spare : FnScope N_spare ["k", "ts"] (defScope (topS 21)) := ⟨rfl, rfl, rfl, by decide +kernel, rfl, by decide +kernel, by decide +kernel⟩
abbrev N_fits : List Str := ["k", "ts"]
theorem sc_fits : FnScope N_fits ["k", "ts"] (defScope (topS 22)) := ⟨rfl, rfl, rfl, by decide +kernel, rfl, by decide +kernel, by decide +kernel⟩
abbrev N__law_is_whole : List Str := ["thing"]
theorem sc__law_is_whole : FnScope N__law_is_whole ["thing"] (defScope (topS 28)) := ⟨rfl, rfl, rfl, by decide +kernel, rfl, by decide +kernel, by decide +kernel⟩
abbrev N__law_row_gcd : List Str := ["one", "two"]
theorem sc__law_row_gcd : FnScope N__law_row_gcd ["one", "two"] (defScope (topS 29)) := ⟨rfl, rfl, rfl, by decide +kernel, rfl, by decide +kernel, by decide +kernel⟩
abbrev N__law_row_low : List Str := ["p", "q", "by"]
theorem sc__law_row_low : FnScope N__law_row_low ["p", "q"] (defScope (topS 30)) := ⟨rfl, rfl, rfl, by decide +kernel, rfl, by decide +kernel, by decide +kernel⟩
abbrev N__law_more_right : List Str := ["k", "many", "t", "told", "near"]
theorem sc__law_more_right : FnScope N__law_more_right ["k", "many"] (defScope (topS 31)) := ⟨rfl, rfl, rfl, by decide +kernel, rfl, by decide +kernel, by decide +kernel⟩
abbrev N_law : List Str := ["script", "pool", "k", "other", "last", "cost", "many", "t", "told", "less"]
theorem sc_law : FnScope N_law ["script"] (defScope (topS 32)) := ⟨rfl, rfl, rfl, by decide +kernel, rfl, by decide +kernel, by decide +kernel⟩
structure Top (K : PySem.W.Frag) (mg : Str → Option Value) where
  a_is_number : Addr
  d_is_number : FuncData
  g_is_number : mg "is_number" = some (.ref a_is_number)
  F_is_number : Fun K "is_number" "is_number" (topS 7) a_is_number d_is_number
  b_is_number : Binds K d_is_number ["thing"] []
  a_is_within : Addr
  d_is_within : FuncData
  g_is_within : mg "is_within" = some (.ref a_is_within)
  F_is_within : Fun K "is_within" "is_within" (topS 8) a_is_within d_is_within
  b_is_within : Binds K d_is_within ["thing", "low", "high"] []
  a_check_many : Addr
  d_check_many : FuncData
  g_check_many : mg "check_many" = some (.ref a_check_many)
  F_check_many : Fun K "check_many" "check_many" (topS 10) a_check_many d_check_many
  b_check_many : Binds K d_check_many ["many", "low", "high"] []
  a_made_k : Addr
  d_made_k : FuncData
  g_made_k : mg "made_k" = some (.ref a_made_k)
  F_made_k : Fun K "made_k" "made_k" (topS 14) a_made_k d_made_k
  b_made_k : Binds K d_made_k ["thing"] []
  a_most : Addr
  d_most : FuncData
  g_most : mg "most" = some (.ref a_most)
  F_most : Fun K "most" "most" (topS 23) a_most d_most
  b_most : Binds K d_most ["k", "many"] []
  a_lowest : Addr
  d_lowest : FuncData
  g_lowest : mg "lowest" = some (.ref a_lowest)
  F_lowest : Fun K "lowest" "lowest" (topS 11) a_lowest d_lowest
  b_lowest : Binds K d_lowest ["above", "below"] []
  a_least_density : Addr
  d_least_density : FuncData
  g_least_density : mg "least_density" = some (.ref a_least_density)
  F_least_density : Fun K "least_density" "least_density" (topS 24) a_least_density d_least_density
  b_least_density : Binds K d_least_density ["k", "many"] []
  a__law_pool : Addr
  d__law_pool : FuncData
  g__law_pool : mg "_law_pool" = some (.ref a__law_pool)
  F__law_pool : Fun K "_law_pool" "_law_pool" (topS 26) a__law_pool d__law_pool
  b__law_pool : Binds K d__law_pool ["script"] []
  a__law_draw : Addr
  d__law_draw : FuncData
  g__law_draw : mg "_law_draw" = some (.ref a__law_draw)
  F__law_draw : Fun K "_law_draw" "_law_draw" (topS 27) a__law_draw d__law_draw
  b__law_draw : Binds K d__law_draw ["pool", "many"] []
  a_wrong_at : Addr
  d_wrong_at : FuncData
  g_wrong_at : mg "wrong_at" = some (.ref a_wrong_at)
  F_wrong_at : Fun K "wrong_at" "wrong_at" (topS 9) a_wrong_at d_wrong_at
  b_wrong_at : Binds K d_wrong_at ["thing", "fewest", "greatest", "low", "high"] []
  a_made_ts : Addr
  d_made_ts : FuncData
  g_made_ts : mg "made_ts" = some (.ref a_made_ts)
  F_made_ts : Fun K "made_ts" "made_ts" (topS 19) a_made_ts d_made_ts
  b_made_ts : Binds K d_made_ts ["thing"] []
  a_left_over : Addr
  d_left_over : FuncData
  g_left_over : mg "left_over" = some (.ref a_left_over)
  F_left_over : Fun K "left_over" "left_over" (topS 20) a_left_over d_left_over
  b_left_over : Binds K d_left_over ["k", "ts"] []
  a_spare : Addr
  d_spare : FuncData
  g_spare : mg "spare" = some (.ref a_spare)
  F_spare : Fun K "spare" "spare" (topS 21) a_spare d_spare
  b_spare : Binds K d_spare ["k", "ts"] []
  a_fits : Addr
  d_fits : FuncData
  g_fits : mg "fits" = some (.ref a_fits)
  F_fits : Fun K "fits" "fits" (topS 22) a_fits d_fits
  b_fits : Binds K d_fits ["k", "ts"] []
  a__law_is_whole : Addr
  d__law_is_whole : FuncData
  g__law_is_whole : mg "_law_is_whole" = some (.ref a__law_is_whole)
  F__law_is_whole : Fun K "_law_is_whole" "_law_is_whole" (topS 28) a__law_is_whole d__law_is_whole
  b__law_is_whole : Binds K d__law_is_whole ["thing"] []
  a__law_row_gcd : Addr
  d__law_row_gcd : FuncData
  g__law_row_gcd : mg "_law_row_gcd" = some (.ref a__law_row_gcd)
  F__law_row_gcd : Fun K "_law_row_gcd" "_law_row_gcd" (topS 29) a__law_row_gcd d__law_row_gcd
  b__law_row_gcd : Binds K d__law_row_gcd ["one", "two"] []
  a__law_row_low : Addr
  d__law_row_low : FuncData
  g__law_row_low : mg "_law_row_low" = some (.ref a__law_row_low)
  F__law_row_low : Fun K "_law_row_low" "_law_row_low" (topS 30) a__law_row_low d__law_row_low
  b__law_row_low : Binds K d__law_row_low ["p", "q"] []
  a__law_more_right : Addr
  d__law_more_right : FuncData
  g__law_more_right : mg "_law_more_right" = some (.ref a__law_more_right)
  F__law_more_right : Fun K "_law_more_right" "_law_more_right" (topS 31) a__law_more_right d__law_more_right
  b__law_more_right : Binds K d__law_more_right ["k", "many"] []
  a_law : Addr
  d_law : FuncData
  g_law : mg "law" = some (.ref a_law)
  F_law : Fun K "law" "law" (topS 32) a_law d_law
  b_law : Binds K d_law ["script"] []
  m_bool : mg "bool" = none
  m_enumerate : mg "enumerate" = none
  m_int : mg "int" = none
  m_isinstance : mg "isinstance" = none
  m_len : mg "len" = none
  m_list : mg "list" = none
  m_max : mg "max" = none
  m_min : mg "min" = none
  m_range : mg "range" = none
  m_repr : mg "repr" = none
  m_sum : mg "sum" = none
  m_tuple : mg "tuple" = none
  k_GREATEST_K : Tok
  c_GREATEST_K : mg "GREATEST_K" = some (.int (60) k_GREATEST_K)
  k_GREATEST_THICKNESS : Tok
  c_GREATEST_THICKNESS : mg "GREATEST_THICKNESS" = some (.int (60) k_GREATEST_THICKNESS)
  k_MOST_KINDS : Tok
  c_MOST_KINDS : mg "MOST_KINDS" = some (.int (30) k_MOST_KINDS)
  k_MOST_THICKNESSES : Tok
  c_MOST_THICKNESSES : mg "MOST_THICKNESSES" = some (.int (8) k_MOST_THICKNESSES)
  x_gcd : mg "gcd" = some (.builtin "math.gcd")
section
variable {P : Program} {w : World} {K : PySem.W.Frag} {mg : Str → Option Value} {base : Heap}
theorem ok_is_number (t : Top K mg) : FnG P w K mg base (L2.CX P w) 1 t.a_is_number t.d_is_number ["thing"] (SpG K [] mg 1 s_is_number) :=
  fnG_ok t.F_is_number sc_is_number fun cdv A outer s H E hgd hr tk => by
    exact (js_one (js_ret (j_and (j_isi (j_var (pv 0)) (by rfl) t.m_isinstance (by rfl) t.m_int (by decide +kernel)) (j_one (j_not (j_isi (j_var (pv 0)) (by rfl) t.m_isinstance (by rfl) t.m_bool (by decide +kernel)))))))
theorem ok_is_within (t : Top K mg) : FnG P w K mg base (L2.CX P w) 2 t.a_is_within t.d_is_within ["thing", "low", "high"] (SpG K [] mg 3 s_is_within) :=
  fnG_ok t.F_is_within sc_is_within fun cdv A outer s H E hgd hr tk => by
    exact (js_one (js_ret (j_and (j_call (ok_is_number t) hgd (hr.mono (by decide)) tk (by rfl) t.g_is_number t.F_is_number.kp t.b_is_number (ja_cons (j_var (pv 0)) ja_nil)) (j_one (j_chain ope_le ope_le (j_var (pv 1)) (j_var (pv 0)) (j_var (pv 2)))))))
theorem ok_check_many (t : Top K mg) : FnG P w K mg base (L2.CX P w) 3 t.a_check_many t.d_check_many ["many", "low", "high"] (SpG K [] mg 3 s_check_many) :=
  fnG_ok t.F_check_many sc_check_many fun cdv A outer s H E hgd hr tk => by
    exact (js_one (js_if (jt_not (jt_tru (j_call (ok_is_within t) hgd (hr.mono (by decide)) tk (by rfl) t.g_is_within t.F_is_within.kp t.b_is_within (ja_cons (j_var (pv 0)) (ja_cons (j_var (pv 1)) (ja_cons (j_var (pv 2)) ja_nil)))))) (js_one js_no) js_nil))
theorem ok_made_k (t : Top K mg) : FnG P w K mg base (L2.CX P w) 3 t.a_made_k t.d_made_k ["thing"] (SpG K [] mg 1 s_made_k) :=
  fnG_ok t.F_made_k sc_made_k fun cdv A outer s H E hgd hr tk => by
    exact (js_cons (js_if (jt_not (jt_tru (j_call (ok_is_within t) hgd (hr.mono (by decide)) tk (by rfl) t.g_is_within t.F_is_within.kp t.b_is_within (ja_cons (j_var (pv 0)) (ja_cons j_int (ja_cons (j_c (pe_glob (v := (.int 60)) (by rfl) t.c_GREATEST_K ⟨_, rfl⟩) fun _ _ => rfl) ja_nil)))))) (js_one js_no) js_nil)
    (js_one (js_ret (j_var (pv 0)))))
theorem ok_most (t : Top K mg) : FnG P w K mg base (L2.CX P w) 4 t.a_most t.d_most ["k", "many"] (SpG K [] mg 2 s_most) :=
  fnG_ok t.F_most sc_most fun cdv A outer s H E hgd hr tk => by
    exact (js_cons (js_ex (j_call (ok_made_k t) hgd (hr.mono (by decide)) tk (by rfl) t.g_made_k t.F_made_k.kp t.b_made_k (ja_cons (j_var (pv 0)) ja_nil)))
    (js_cons (js_ex (j_call (ok_check_many t) hgd (hr.mono (by decide)) tk (by rfl) t.g_check_many t.F_check_many.kp t.b_check_many (ja_cons (j_var (pv 1)) (ja_cons j_int (ja_cons (j_c (pe_glob (v := (.int 30)) (by rfl) t.c_MOST_KINDS ⟨_, rfl⟩) fun _ _ => rfl) ja_nil)))))
    (js_one (js_ret (j_bin ope_div (j_var (pv 0)) (j_bin ope_sub (j_bin ope_mul j_int (j_var (pv 1))) j_int))))))
theorem ok_lowest (t : Top K mg) : FnG P w K mg base (L2.CX P w) 1 t.a_lowest t.d_lowest ["above", "below"] (SpG K [] mg 2 s_lowest) :=
  fnG_ok t.F_lowest sc_lowest fun cdv A outer s H E hgd hr tk => by
    exact (js_cons (js_set (i := 2) sc_lowest.nd rfl (by first | exact Or.inl rfl | exact Or.inr rfl) (j_bf cre_gcd (by rfl) t.x_gcd (ja_cons (j_var (pv 0)) (ja_cons (j_var (pv 1)) ja_nil))))
    (js_one (js_ret (j_tup (ja_cons (j_bin ope_div (j_var (pv 0)) (j_var (pv 2))) (ja_cons (j_bin ope_div (j_var (pv 1)) (j_var (pv 2))) ja_nil))))))
theorem ok_least_density (t : Top K mg) : FnG P w K mg base (L2.CX P w) 5 t.a_least_density t.d_least_density ["k", "many"] (SpG K [] mg 2 s_least_density) :=
  fnG_ok t.F_least_density sc_least_density fun cdv A outer s H E hgd hr tk => by
    have hu64 : (CxB P w K mg base N_least_density "least_density" (topS 24) t.a_least_density cdv A outer s H E).A.units + 64 < cLine := by have := hr.un; omega
    exact (js_cons (js_set (i := 2) sc_least_density.nd rfl (by first | exact Or.inl rfl | exact Or.inr rfl) (j_call (ok_most t) hgd (hr.mono (by decide)) tk (by rfl) t.g_most t.F_most.kp t.b_most (ja_cons (j_var (pv 0)) (ja_cons (j_var (pv 1)) ja_nil))))
    (js_cons (js_if (jt_cmp (ope_eq hu64) (j_var (pv 2)) j_int (nomark _)) (js_one (js_ret j_non)) js_nil)
    (js_one (js_ret (j_call (ok_lowest t) hgd (hr.mono (by decide)) tk (by rfl) t.g_lowest t.F_lowest.kp t.b_lowest (ja_cons j_int (ja_cons (j_bin ope_add (j_var (pv 0)) (j_var (pv 2))) ja_nil)))))))
theorem ok__law_pool (t : Top K mg) : FnG P w K mg base (L2.CX P w) 1 t.a__law_pool t.d__law_pool ["script"] (SpG K [] mg 1 s__law_pool) :=
  fnG_ok t.F__law_pool sc__law_pool fun cdv A outer s H E hgd hr tk => by
    exact (js_cons (js_set (i := 1) sc__law_pool.nd rfl (by first | exact Or.inl rfl | exact Or.inr rfl) (j_if (jt_cmp ope_gt (j_bi cre_len (by rfl) t.m_len (by decide +kernel) (ja_cons (j_var (pv 0)) ja_nil)) j_int (nomark _)) (j_ty cre_int (by rfl) t.m_int (by decide +kernel) (ja_cons (j_ix ixe (j_var (pv 0)) j_int (fun _ _ => rfl)) ja_nil)) j_int))
    (js_cons (js_set (i := 2) sc__law_pool.nd rfl (by first | exact Or.inl rfl | exact Or.inr rfl) (j_if (jt_cmp ope_ge (j_var (pv 1)) j_int (nomark _)) (j_bin ope_mul j_int (j_var (pv 1))) (j_bin ope_sub (j_un une_neg j_int) (j_bin ope_mul j_int (j_var (pv 1))))))
    (js_one (js_ret (j_lst (ja_cons (j_if (jt_cmp ope_ge (j_var (pv 2)) (j_bin ope_pow j_int j_int) (nomark _)) (j_var (pv 2)) j_int) (ja_cons (j_bin ope_add (j_bin ope_mod (j_ty cre_int (by rfl) t.m_int (by decide +kernel) (ja_cons (j_bin ope_add (j_bin ope_mul (j_var (pv 2)) j_int) j_int) ja_nil)) j_int) j_int) (ja_cons (j_ty cre_list (by rfl) t.m_list (by decide +kernel) (ja_cons (j_sl (j_var (pv 0)) (jo_some j_int) jo_none) ja_nil)) ja_nil))))))))
theorem ok__law_draw (t : Top K mg) : FnG P w K mg base (L2.CX P w) 1 t.a__law_draw t.d__law_draw ["pool", "many"] (SpG K [] mg 2 s__law_draw) :=
  fnG_ok t.F__law_draw sc__law_draw fun cdv A outer s H E hgd hr tk => by
    have hu64 : (CxB P w K mg base N__law_draw "_law_draw" (topS 27) t.a__law_draw cdv A outer s H E).A.units + 64 < cLine := by have := hr.un; omega
    exact (js_cons (js_if (jt_w (jw_and (jt_cmp (ope_eq hu64) (j_ix ixe (j_var (pv 0)) j_int (fun _ _ => rfl)) j_int (nomark _)) (jw_and1 (jt_cmp (ope_ne hu64) (j_ix ixe (j_var (pv 0)) j_int (fun _ _ => rfl)) (j_lst ja_nil) (nomark _))))) (js_cons (js_set (i := 2) sc__law_draw.nd rfl (by first | exact Or.inl rfl | exact Or.inr rfl) (j_ty cre_int (by rfl) t.m_int (by decide +kernel) (ja_cons (j_popAt (j_ix ixe (j_var (pv 0)) j_int (fun _ _ => rfl)) j_int) ja_nil)))
    (js_cons (js_set (i := 3) sc__law_draw.nd rfl (by first | exact Or.inl rfl | exact Or.inr rfl) (j_if (jt_cmp ope_ge (j_var (pv 2)) j_int (nomark _)) (j_bin ope_mul j_int (j_var (pv 2))) (j_bin ope_sub (j_un une_neg j_int) (j_bin ope_mul j_int (j_var (pv 2))))))
    (js_cons (js_store (j_var (pv 0)) j_int (j_if (jt_cmp ope_ge (j_var (pv 3)) (j_bin ope_pow j_int j_int) (nomark _)) (j_var (pv 3)) j_int))
    (js_one (js_store (j_var (pv 0)) j_int (j_bin ope_add (j_bin ope_mod (j_ty cre_int (by rfl) t.m_int (by decide +kernel) (ja_cons (j_bin ope_add (j_ix ixe (j_var (pv 0)) j_int (fun _ _ => rfl)) (j_bin ope_mul (j_var (pv 3)) j_int)) ja_nil)) j_int) j_int)))))) js_nil)
    (js_cons (js_if (jt_cmp ope_gt (j_ix ixe (j_var (pv 0)) j_int (fun _ _ => rfl)) j_int (nomark _)) (js_cons (js_set (i := 4) sc__law_draw.nd rfl (by first | exact Or.inl rfl | exact Or.inr rfl) (j_bin ope_mod (j_ty cre_int (by rfl) t.m_int (by decide +kernel) (ja_cons (j_ix ixe (j_var (pv 0)) j_int (fun _ _ => rfl)) ja_nil)) (j_var (pv 1))))
    (js_cons (js_store (j_var (pv 0)) j_int (j_bin ope_div (j_ix ixe (j_var (pv 0)) j_int (fun _ _ => rfl)) (j_var (pv 1))))
    (js_one (js_ret (j_var (pv 4)))))) js_nil)
    (js_cons (js_store (j_var (pv 0)) j_int (j_bin ope_mod (j_ty cre_int (by rfl) t.m_int (by decide +kernel) (ja_cons (j_bin ope_add (j_bin ope_mul (j_ix ixe (j_var (pv 0)) j_int (fun _ _ => rfl)) j_int) j_int) ja_nil)) j_int))
    (js_one (js_ret (j_bin ope_mod (j_bin ope_div (j_bin ope_mod (j_ty cre_int (by rfl) t.m_int (by decide +kernel) (ja_cons (j_bin ope_mul (j_ix ixe (j_var (pv 0)) j_int (fun _ _ => rfl)) (j_ix ixe (j_var (pv 0)) j_int (fun _ _ => rfl))) ja_nil)) j_int) j_int) (j_var (pv 1))))))))
theorem ok_wrong_at (t : Top K mg) : FnG P w K mg base (L2.CX P w) 3 t.a_wrong_at t.d_wrong_at ["thing", "fewest", "greatest", "low", "high"] (SpG K [] mg 5 s_wrong_at) :=
  fnG_ok t.F_wrong_at sc_wrong_at fun cdv A outer s H E hgd hr tk => by
    exact (js_cons (js_if (jt_w (jw_or (jt_not (jt_tru (j_isi (j_var (pv 0)) (by rfl) t.m_isinstance (by rfl) t.m_tuple (by decide +kernel)))) (jw_or1 (jt_not (jt_chain ope_le ope_le (j_var (pv 1)) (j_bi cre_len (by rfl) t.m_len (by decide +kernel) (ja_cons (j_var (pv 0)) ja_nil)) (j_var (pv 2))))))) (js_one (js_ret (j_un une_neg j_int))) js_nil)
    (js_cons (js_for (passes_of rfl) rfl (ji_enum (by rfl) t.m_enumerate (j_var (pv 0))) (jg_tup rfl (jgs_cons (jg_name (i := 5) sc_wrong_at.nd rfl (by first | exact Or.inl rfl | exact Or.inr rfl)) (jgs_cons (jg_name (i := 6) sc_wrong_at.nd rfl (by first | exact Or.inl rfl | exact Or.inr rfl)) jgs_nil))) (js_one (js_if (jt_not (jt_tru (j_call (ok_is_within t) hgd (hr.mono (by decide)) tk (by rfl) t.g_is_within t.F_is_within.kp t.b_is_within (ja_cons (j_var (pv 6)) (ja_cons (j_var (pv 3)) (ja_cons (j_var (pv 4)) ja_nil)))))) (js_one (js_ret (j_var (pv 5)))) js_nil)))
    (js_one (js_ret j_non))))
theorem ok_made_ts (t : Top K mg) : FnG P w K mg base (L2.CX P w) 4 t.a_made_ts t.d_made_ts ["thing"] (SpG K [] mg 1 s_made_ts) :=
  fnG_ok t.F_made_ts sc_made_ts fun cdv A outer s H E hgd hr tk => by
    exact (js_cons (js_set (i := 1) sc_made_ts.nd rfl (by first | exact Or.inl rfl | exact Or.inr rfl) (j_call (ok_wrong_at t) hgd (hr.mono (by decide)) tk (by rfl) t.g_wrong_at t.F_wrong_at.kp t.b_wrong_at (ja_cons (j_var (pv 0)) (ja_cons j_int (ja_cons (j_c (pe_glob (v := (.int 8)) (by rfl) t.c_MOST_THICKNESSES ⟨_, rfl⟩) fun _ _ => rfl) (ja_cons j_int (ja_cons (j_c (pe_glob (v := (.int 60)) (by rfl) t.c_GREATEST_THICKNESS ⟨_, rfl⟩) fun _ _ => rfl) ja_nil)))))))
    (js_cons (js_if (jt_cmp ope_isN (j_var (pv 1)) j_non (nomark _)) (js_one js_no) js_nil)
    (js_one (js_ret (j_var (pv 0))))))
theorem ok_left_over (t : Top K mg) : FnG P w K mg base (L2.CX P w) 1 t.a_left_over t.d_left_over ["k", "ts"] (SpG K [] mg 2 s_left_over) :=
  fnG_ok t.F_left_over sc_left_over fun cdv A outer s H E hgd hr tk => by
    have hu100 : (CxB P w K mg base N_left_over "left_over" (topS 20) t.a_left_over cdv A outer s H E).A.units + 100 < cLine := by have := hr.un; omega
    exact (js_one (js_ret (j_bin ope_sub (j_bin ope_add (j_var (pv 0)) (j_bi (cre_max rfl hu100) (by rfl) t.m_max (by decide +kernel) (ja_cons (j_var (pv 1)) ja_nil))) (j_bin ope_mul j_int (j_bi (cre_sum rfl) (by rfl) t.m_sum (by decide +kernel) (ja_cons (j_var (pv 1)) ja_nil))))))
theorem ok_spare (t : Top K mg) : FnG P w K mg base (L2.CX P w) 5 t.a_spare t.d_spare ["k", "ts"] (SpG K [] mg 2 s_spare) :=
  fnG_ok t.F_spare sc_spare fun cdv A outer s H E hgd hr tk => by
    exact (js_cons (js_ex (j_call (ok_made_k t) hgd (hr.mono (by decide)) tk (by rfl) t.g_made_k t.F_made_k.kp t.b_made_k (ja_cons (j_var (pv 0)) ja_nil)))
    (js_cons (js_ex (j_call (ok_made_ts t) hgd (hr.mono (by decide)) tk (by rfl) t.g_made_ts t.F_made_ts.kp t.b_made_ts (ja_cons (j_var (pv 1)) ja_nil)))
    (js_one (js_ret (j_call (ok_left_over t) hgd (hr.mono (by decide)) tk (by rfl) t.g_left_over t.F_left_over.kp t.b_left_over (ja_cons (j_var (pv 0)) (ja_cons (j_var (pv 1)) ja_nil)))))))
theorem ok_fits (t : Top K mg) : FnG P w K mg base (L2.CX P w) 6 t.a_fits t.d_fits ["k", "ts"] (SpG K [] mg 2 s_fits) :=
  fnG_ok t.F_fits sc_fits fun cdv A outer s H E hgd hr tk => by
    exact (js_one (js_ret (j_cmp ope_ge (j_call (ok_spare t) hgd (hr.mono (by decide)) tk (by rfl) t.g_spare t.F_spare.kp t.b_spare (ja_cons (j_var (pv 0)) (ja_cons (j_var (pv 1)) ja_nil))) j_int (nomark _))))
theorem ok__law_is_whole (t : Top K mg) : FnG P w K mg base (L2.CX P w) 1 t.a__law_is_whole t.d__law_is_whole ["thing"] (SpG K [] mg 1 s__law_is_whole) :=
  fnG_ok t.F__law_is_whole sc__law_is_whole fun cdv A outer s H E hgd hr tk => by
    exact (js_one (js_ret (j_and (j_isi (j_var (pv 0)) (by rfl) t.m_isinstance (by rfl) t.m_int (by decide +kernel)) (j_one (j_not (j_isi (j_var (pv 0)) (by rfl) t.m_isinstance (by rfl) t.m_bool (by decide +kernel)))))))
theorem ok__law_row_gcd (t : Top K mg) : FnG P w K mg base (L2.CX P w) 1 t.a__law_row_gcd t.d__law_row_gcd ["one", "two"] (SpG K [] mg 2 s__law_row_gcd) :=
  fnG_ok t.F__law_row_gcd sc__law_row_gcd fun cdv A outer s H E hgd hr tk => by
    have hu64 : (CxB P w K mg base N__law_row_gcd "_law_row_gcd" (topS 29) t.a__law_row_gcd cdv A outer s H E).A.units + 64 < cLine := by have := hr.un; omega
    exact (js_cons (js_wh (passes_of rfl) (jt_cmp (ope_ne hu64) (j_var (pv 1)) j_int (nomark _)) (js_one (js_par rfl sc__law_row_gcd.nd rfl rfl (by decide) rfl rfl (j_var (pv 1)) (j_bin ope_mod (j_ty cre_int (by rfl) t.m_int (by decide +kernel) (ja_cons (j_var (pv 0)) ja_nil)) (j_var (pv 1))))))
    (js_one (js_ret (j_var (pv 0)))))
theorem ok__law_row_low (t : Top K mg) : FnG P w K mg base (L2.CX P w) 2 t.a__law_row_low t.d__law_row_low ["p", "q"] (SpG K [] mg 2 s__law_row_low) :=
  fnG_ok t.F__law_row_low sc__law_row_low fun cdv A outer s H E hgd hr tk => by
    exact (js_cons (js_set (i := 2) sc__law_row_low.nd rfl (by first | exact Or.inl rfl | exact Or.inr rfl) (j_call (ok__law_row_gcd t) hgd (hr.mono (by decide)) tk (by rfl) t.g__law_row_gcd t.F__law_row_gcd.kp t.b__law_row_gcd (ja_cons (j_var (pv 0)) (ja_cons (j_var (pv 1)) ja_nil))))
    (js_one (js_ret (j_tup (ja_cons (j_bin ope_div (j_var (pv 0)) (j_var (pv 2))) (ja_cons (j_bin ope_div (j_var (pv 1)) (j_var (pv 2))) ja_nil))))))
theorem ok__law_more_right (t : Top K mg) : FnG P w K mg base (L2.CX P w) 7 t.a__law_more_right t.d__law_more_right ["k", "many"] (SpG K [] mg 2 s__law_more_right) :=
  fnG_ok t.F__law_more_right sc__law_more_right fun cdv A outer s H E hgd hr tk => by
    have hu64 : (CxB P w K mg base N__law_more_right "_law_more_right" (topS 31) t.a__law_more_right cdv A outer s H E).A.units + 64 < cLine := by have := hr.un; omega
    have hu100 : (CxB P w K mg base N__law_more_right "_law_more_right" (topS 31) t.a__law_more_right cdv A outer s H E).A.units + 100 < cLine := by have := hr.un; omega
    exact (js_cons (js_par rfl sc__law_more_right.nd rfl rfl (by decide) rfl rfl (j_call (ok_most t) hgd (hr.mono (by decide)) tk (by rfl) t.g_most t.F_most.kp t.b_most (ja_cons (j_var (pv 0)) (ja_cons (j_var (pv 1)) ja_nil))) (j_call (ok_least_density t) hgd (hr.mono (by decide)) tk (by rfl) t.g_least_density t.F_least_density.kp t.b_least_density (ja_cons (j_var (pv 0)) (ja_cons (j_var (pv 1)) ja_nil))))
    (js_cons (js_if (jt_w (jw_or (jt_not (jt_tru (j_call (ok__law_is_whole t) hgd (hr.mono (by decide)) tk (by rfl) t.g__law_is_whole t.F__law_is_whole.kp t.b__law_is_whole (ja_cons (j_var (pv 2)) ja_nil)))) (jw_or1 (jt_cmp ope_lt (j_var (pv 2)) j_int (nomark _))))) (js_one (js_ret j_bl)) js_nil)
    (js_cons (js_if (jt_cmp (ope_eq hu64) (j_var (pv 2)) j_int (nomark _)) (js_one (js_ret (j_cmp ope_is (j_var (pv 3)) j_non (nomark _)))) js_nil)
    (js_cons (js_if (jt_cmp (ope_ne hu64) (j_bi (cre_repr hgd hu100) (by rfl) t.m_repr (by decide +kernel) (ja_cons (j_var (pv 3)) ja_nil)) (j_bi (cre_repr hgd hu100) (by rfl) t.m_repr (by decide +kernel) (ja_cons (j_call (ok__law_row_low t) hgd (hr.mono (by decide)) tk (by rfl) t.g__law_row_low t.F__law_row_low.kp t.b__law_row_low (ja_cons j_int (ja_cons (j_bin ope_add (j_var (pv 0)) (j_var (pv 2))) ja_nil))) ja_nil)) (nomark _)) (js_one (js_ret j_bl)) js_nil)
    (js_cons (js_if (jt_w (jw_or (jt_cmp ope_ge (j_bin ope_mul (j_ix ixe (j_var (pv 3)) j_int (fun _ _ => rfl)) (j_var (pv 0))) (j_bin ope_mul j_int (j_ix ixe (j_var (pv 3)) j_int (fun _ _ => rfl))) (nomark _)) (jw_or (jt_cmp ope_lt (j_bin ope_mul (j_ix ixe (j_var (pv 3)) j_int (fun _ _ => rfl)) (j_var (pv 0))) (j_ix ixe (j_var (pv 3)) j_int (fun _ _ => rfl)) (nomark _)) (jw_or1 (jt_w (jw_and (jt_cmp (ope_eq hu64) (j_var (pv 1)) j_int (nomark _)) (jw_and1 (jt_cmp (ope_ne hu64) (j_bin ope_mul (j_ix ixe (j_var (pv 3)) j_int (fun _ _ => rfl)) (j_var (pv 0))) (j_ix ixe (j_var (pv 3)) j_int (fun _ _ => rfl)) (nomark _))))))))) (js_one (js_ret j_bl)) js_nil)
    (js_cons (js_if (jt_w (jw_and (jt_cmp ope_lt (j_var (pv 1)) j_int (nomark _)) (jw_and1 (jt_w (jw_or (jt_cmp ope_isN (j_call (ok_fits t) hgd (hr.mono (by decide)) tk (by rfl) t.g_fits t.F_fits.kp t.b_fits (ja_cons (j_var (pv 0)) (ja_cons (j_bin ope_mul (j_tup (ja_cons (j_var (pv 2)) ja_nil)) (j_var (pv 1))) ja_nil))) j_bl (nomark _)) (jw_or1 (jt_w (jw_and (jt_cmp ope_lt (j_var (pv 2)) j_int (nomark _)) (jw_and1 (jt_cmp ope_isN (j_call (ok_fits t) hgd (hr.mono (by decide)) tk (by rfl) t.g_fits t.F_fits.kp t.b_fits (ja_cons (j_var (pv 0)) (ja_cons (j_bin ope_mul (j_tup (ja_cons (j_bin ope_add (j_var (pv 2)) j_int) ja_nil)) (j_var (pv 1))) ja_nil))) j_bl (nomark _))))))))))) (js_one (js_ret j_bl)) js_nil)
    (js_cons (js_set (i := 4) sc__law_more_right.nd rfl (by first | exact Or.inl rfl | exact Or.inr rfl) (j_bin ope_sub (j_bin ope_mul (j_bin ope_mul (j_ix ixe (j_var (pv 3)) j_int (fun _ _ => rfl)) (j_var (pv 0))) (j_var (pv 1))) (j_bin ope_mul (j_bin ope_sub (j_bin ope_mul j_int (j_var (pv 1))) j_int) (j_ix ixe (j_var (pv 3)) j_int (fun _ _ => rfl)))))
    (js_one (js_ret (j_chain ope_le ope_lt j_int (j_bin ope_mul (j_var (pv 4)) (j_var (pv 0))) (j_bin ope_mul (j_bin ope_mul (j_bin ope_mul j_int (j_ix ixe (j_var (pv 3)) j_int (fun _ _ => rfl))) (j_var (pv 1))) (j_bin ope_sub (j_bin ope_mul j_int (j_var (pv 1))) j_int))))))))))))
theorem ok_law (t : Top K mg) : FnG P w K mg base (L2.CX P w) 8 t.a_law t.d_law ["script"] (SpG K [] mg 1 s_law) :=
  fnG_ok t.F_law sc_law fun cdv A outer s H E hgd hr tk => by
    have hu64 : (CxB P w K mg base N_law "law" (topS 32) t.a_law cdv A outer s H E).A.units + 64 < cLine := by have := hr.un; omega
    have hu100 : (CxB P w K mg base N_law "law" (topS 32) t.a_law cdv A outer s H E).A.units + 100 < cLine := by have := hr.un; omega
    exact (js_cons (js_set (i := 1) sc_law.nd rfl (by first | exact Or.inl rfl | exact Or.inr rfl) (j_call (ok__law_pool t) hgd (hr.mono (by decide)) tk (by rfl) t.g__law_pool t.F__law_pool.kp t.b__law_pool (ja_cons (j_var (pv 0)) ja_nil)))
    (js_cons (js_set (i := 2) sc_law.nd rfl (by first | exact Or.inl rfl | exact Or.inr rfl) (j_bin ope_add j_int (j_call (ok__law_draw t) hgd (hr.mono (by decide)) tk (by rfl) t.g__law_draw t.F__law_draw.kp t.b__law_draw (ja_cons (j_var (pv 1)) (ja_cons (j_if (jt_cmp (ope_eq hu64) (j_call (ok__law_draw t) hgd (hr.mono (by decide)) tk (by rfl) t.g__law_draw t.F__law_draw.kp t.b__law_draw (ja_cons (j_var (pv 1)) (ja_cons j_int ja_nil))) j_int (nomark _)) j_int j_int) ja_nil)))))
    (js_cons (js_par3 rfl sc_law.nd rfl rfl rfl (by decide) (by decide) (by decide) rfl rfl rfl (j_bi (cre_min rfl hu100) (by rfl) t.m_min (by decide +kernel) (ja_cons j_int (ja_cons (j_bin ope_add (j_bin ope_add (j_var (pv 2)) j_int) (j_call (ok__law_draw t) hgd (hr.mono (by decide)) tk (by rfl) t.g__law_draw t.F__law_draw.kp t.b__law_draw (ja_cons (j_var (pv 1)) (ja_cons j_int ja_nil)))) ja_nil))) j_non (j_tup (ja_cons j_int (ja_cons j_int ja_nil))))
    (js_cons (js_for (passes_of rfl) rfl (ji_r2 (by rfl) t.m_range (ja_cons j_int (ja_cons j_int ja_nil))) (jg_name (i := 6) sc_law.nd rfl (by first | exact Or.inl rfl | exact Or.inr rfl)) (js_cons (js_if (jt_not (jt_tru (j_call (ok__law_more_right t) hgd (hr.mono (by decide)) tk (by rfl) t.g__law_more_right t.F__law_more_right.kp t.b__law_more_right (ja_cons (j_var (pv 2)) (ja_cons (j_var (pv 6)) ja_nil))))) (js_one (js_ret j_bl)) js_nil)
    (js_cons (js_par3 rfl sc_law.nd rfl rfl rfl (by decide) (by decide) (by decide) rfl rfl rfl (j_call (ok_most t) hgd (hr.mono (by decide)) tk (by rfl) t.g_most t.F_most.kp t.b_most (ja_cons (j_var (pv 2)) (ja_cons (j_var (pv 6)) ja_nil))) (j_call (ok_least_density t) hgd (hr.mono (by decide)) tk (by rfl) t.g_least_density t.F_least_density.kp t.b_least_density (ja_cons (j_var (pv 2)) (ja_cons (j_var (pv 6)) ja_nil))) (j_call (ok_least_density t) hgd (hr.mono (by decide)) tk (by rfl) t.g_least_density t.F_least_density.kp t.b_least_density (ja_cons (j_var (pv 3)) (ja_cons (j_var (pv 6)) ja_nil))))
    (js_cons (js_if (jt_w (jw_and (jt_cmp ope_isN (j_var (pv 4)) j_non (nomark _)) (jw_and1 (jt_cmp ope_gt (j_var (pv 7)) (j_var (pv 4)) (nomark _))))) (js_one (js_ret j_bl)) js_nil)
    (js_cons (js_if (jt_w (jw_and (jt_cmp ope_isN (j_var (pv 8)) j_non (nomark _)) (jw_and1 (jt_w (jw_or (jt_cmp ope_lt (j_bin ope_mul (j_ix ixe (j_var (pv 8)) j_int (fun _ _ => rfl)) (j_ix ixe (j_var (pv 5)) j_int (fun _ _ => rfl))) (j_bin ope_mul (j_ix ixe (j_var (pv 5)) j_int (fun _ _ => rfl)) (j_ix ixe (j_var (pv 8)) j_int (fun _ _ => rfl))) (nomark _)) (jw_or (jt_cmp ope_is (j_var (pv 9)) j_non (nomark _)) (jw_or1 (jt_cmp ope_gt (j_bin ope_mul (j_ix ixe (j_var (pv 9)) j_int (fun _ _ => rfl)) (j_ix ixe (j_var (pv 8)) j_int (fun _ _ => rfl))) (j_bin ope_mul (j_ix ixe (j_var (pv 8)) j_int (fun _ _ => rfl)) (j_ix ixe (j_var (pv 9)) j_int (fun _ _ => rfl))) (nomark _))))))))) (js_one (js_ret j_bl)) js_nil)
    (js_one (js_par rfl sc_law.nd rfl rfl (by decide) rfl rfl (j_var (pv 7)) (j_if (jt_cmp ope_isN (j_var (pv 8)) j_non (nomark _)) (j_var (pv 8)) (j_var (pv 5))))))))))
    (js_one (js_ret j_bl))))))
end
end Gk34

namespace Gk34
open Mm
theorem pool_ok (ns : List Int) (hl : ns.length ≤ 63) : ∃ st', s__law_pool [.ref 0] [.ro (ns.map D.int)] = .ok (.ref 3) st' ∧ Pst [] st' := by
  cases ns with
  | nil =>
    refine ⟨_, rfl, [], [], [], 0, _, rfl, rfl, by decide, by decide, ?_, ?_, rfl⟩ <;> decide
  | cons n r =>
    have m1 := fun x => fmod_lo x 2147483629 (by decide)
    have m2 := fun x => fmod_hi x 2147483629 (by decide)
    by_cases hn : 0 ≤ n
    · by_cases h2 : 1000000000000000000 ≤ 2 * n <;> simp [s__law_pool, hn, h2, fnS, eV, eC, Mm.e1, Mm.e2, eN, aN, aC, eCall, eTup, eLst, eIf, eCh, eAndT, eOrT, eNotT, bB, bAnd, bOr, bNot, bTru, tru, sSeq, sSet, sEx, sRet, sRetN, sNx, sNo, sBrk, sCt, sIf, sPar, sPar3, sAsg, tgN, tgNil, tgCons, tgTup, Mm.R.bind, Mm.R.of, Mm.R.st, oAdd, oSub, mul_i, oDiv, oMod, oPow, oCmpI, oLt, oLe, oGt, oGe, oIs, oIsN, oEq, oNe, eqF, b64_of, oIx, seqOf, lstOf, cellItems, sStore, eSl, eO, oLen, oInt, oListOf, oTupOf, oMax, oMin, oSum, oGcd, intsOf, oIsi, tyName, oNeg, eM1, eM0, isLst, oApp, oExt, oPopAt, oPop, fin_i, fin_b, fin_n, fin_s, fin_t2, at0, at1, at2, at3, at4, cut1, ix0, ix1, ix2, fin_pool]
      · exact pst_pool _ _ _ _ (by simp at hl; omega) (by omega) (by have := m1 (2 * n * 48271 + 1009); omega) (by have := m2 (2 * n * 48271 + 1009); omega)
      · exact pst_pool _ _ _ _ (by simp at hl; omega) (by omega) (by have := m1 (2 * n * 48271 + 1009); omega) (by have := m2 (2 * n * 48271 + 1009); omega)
    · by_cases h2 : 1000000000000000000 ≤ -1 - 2 * n <;> simp [s__law_pool, hn, h2, fnS, eV, eC, Mm.e1, Mm.e2, eN, aN, aC, eCall, eTup, eLst, eIf, eCh, eAndT, eOrT, eNotT, bB, bAnd, bOr, bNot, bTru, tru, sSeq, sSet, sEx, sRet, sRetN, sNx, sNo, sBrk, sCt, sIf, sPar, sPar3, sAsg, tgN, tgNil, tgCons, tgTup, Mm.R.bind, Mm.R.of, Mm.R.st, oAdd, oSub, mul_i, oDiv, oMod, oPow, oCmpI, oLt, oLe, oGt, oGe, oIs, oIsN, oEq, oNe, eqF, b64_of, oIx, seqOf, lstOf, cellItems, sStore, eSl, eO, oLen, oInt, oListOf, oTupOf, oMax, oMin, oSum, oGcd, intsOf, oIsi, tyName, oNeg, eM1, eM0, isLst, oApp, oExt, oPopAt, oPop, fin_i, fin_b, fin_n, fin_s, fin_t2, at0, at1, at2, at3, at4, cut1, ix0, ix1, ix2, fin_pool]
      · exact pst_pool _ _ _ _ (by simp at hl; omega) (by omega) (by have := m1 ((-1 - 2 * n) * 48271 + 1009); omega) (by have := m2 ((-1 - 2 * n) * 48271 + 1009); omega)
      · exact pst_pool _ _ _ _ (by simp at hl; omega) (by omega) (by have := m1 ((-1 - 2 * n) * 48271 + 1009); omega) (by have := m2 ((-1 - 2 * n) * 48271 + 1009); omega)

theorem draw_ok {rest st : Sto} {many : Int} (hp : Pst rest st) (hr : lowS (4 + rest.length) rest = true) (h1 : 1 ≤ many) (h2 : many < 1000000) : ∃ r st', s__law_draw [.ref 3, .int many] st = .ok (.int r) st' ∧ 0 ≤ r ∧ r < many ∧ Pst rest st' := by
  obtain ⟨xs, sl, ks, a, b, f1, f2, hk, ha, hb, hb2, rfl⟩ := hp
  have hz : many ≠ 0 := by omega
  have hn : many.natAbs < 1073741824 := by omega
  have fin1 : ∀ (ks ks' : List Int) (a b a' b' : Int) (r : Int) (st' : Sto), ks'.length ≤ 100 → 0 ≤ a' → 0 ≤ b' → b' < 4294967296 → 0 ≤ r → r < many → st'.take (4 + rest.length) = pst xs sl ks' a' b' rest → ∃ q st2, fin (pst xs sl ks a b rest) (.int r) st' = .ok (.int q) st2 ∧ 0 ≤ q ∧ q < many ∧ Pst rest st2 :=
    fun ks ks' a b a' b' r st' q0 q1 q2 q3 q4 q5 e => ⟨_, _, fin_draw f1 f2 hr e, q4, q5, _, _, _, _, _, f1, f2, q0, q1, q2, q3, rfl⟩
  have m1 : ∀ x, 0 ≤ Int.fmod x many := fun x => fmod_lo x many (by omega)
  have m2 : ∀ x, Int.fmod x many < many := fun x => fmod_hi x many (by omega)
  have m3 : ∀ x, 0 ≤ Int.fmod x 2147483647 := fun x => fmod_lo x 2147483647 (by decide)
  have m4 : ∀ x, Int.fmod x 2147483647 < 4294967296 := fun x => by have := fmod_hi x 2147483647 (by decide); omega
  have m5 : ∀ x, 0 ≤ Int.fmod x 2147483629 + 3 := fun x => by have := fmod_lo x 2147483629 (by decide); omega
  have m6 : ∀ x, Int.fmod x 2147483629 + 3 < 4294967296 := fun x => by have := fmod_hi x 2147483629 (by decide); omega
  have m7 : ∀ x, 0 ≤ x → 0 ≤ Int.fdiv x many := fun x hx => Int.fdiv_nonneg hx (by omega)
  by_cases h0 : a = 0
  · cases ks with
    | nil =>
      subst h0
      simp [s__law_draw, fnS, eV, eC, Mm.e1, Mm.e2, eN, aN, aC, eCall, eTup, eLst, eIf, eCh, eAndT, eOrT, eNotT, bB, bAnd, bOr, bNot, bTru, tru, sSeq, sSet, sEx, sRet, sRetN, sNx, sNo, sBrk, sCt, sIf, sPar, sPar3, sAsg, tgN, tgNil, tgCons, tgTup, Mm.R.bind, Mm.R.of, Mm.R.st, oAdd, oSub, mul_i, oDiv, oMod, oPow, oCmpI, oLt, oLe, oGt, oGe, oIs, oIsN, oEq, oNe, eqF, b64_of, oIx, seqOf, lstOf, cellItems, sStore, eSl, eO, oLen, oInt, oListOf, oTupOf, oMax, oMin, oSum, oGcd, intsOf, oIsi, tyName, oNeg, eM1, eM0, isLst, oApp, oExt, oPopAt, oPop, fin_i, fin_b, fin_n, fin_s, fin_t2, at0, at1, at2, at3, at4, cut1, ix0, ix1, ix2, pst, eqD_pool0, hz, hn, b64_47]
      exact fin1 [] [] _ _ 0 _ _ _ (by decide) (by omega) (m3 _) (m4 _) (m1 _) (m2 _) (take_a _ _ _ _ _ _)
    | cons n r =>
      subst h0
      have hk2 : r.length ≤ 100 := by simp at hk; omega
      have hk : r.length + 1 ≤ lim := by unfold lim; omega
      by_cases hn0 : 0 ≤ n
      · by_cases h3 : 1000000000000000000 ≤ 2 * n
        · have hp : 0 < 2 * n := by omega
          simp [s__law_draw, fnS, eV, eC, Mm.e1, Mm.e2, eN, aN, aC, eCall, eTup, eLst, eIf, eCh, eAndT, eOrT, eNotT, bB, bAnd, bOr, bNot, bTru, tru, sSeq, sSet, sEx, sRet, sRetN, sNx, sNo, sBrk, sCt, sIf, sPar, sPar3, sAsg, tgN, tgNil, tgCons, tgTup, Mm.R.bind, Mm.R.of, Mm.R.st, oAdd, oSub, mul_i, oDiv, oMod, oPow, oCmpI, oLt, oLe, oGt, oGe, oIs, oIsN, oEq, oNe, eqF, b64_of, oIx, seqOf, lstOf, cellItems, sStore, eSl, eO, oLen, oInt, oListOf, oTupOf, oMax, oMin, oSum, oGcd, intsOf, oIsi, tyName, oNeg, eM1, eM0, isLst, oApp, oExt, oPopAt, oPop, fin_i, fin_b, fin_n, fin_s, fin_t2, at0, at1, at2, at3, at4, cut1, ix0, ix1, ix2, pst, eqD_pool1, hz, hn, b64_47, hn0, h3, hp, hk]
          exact fin1 (n :: r) r _ _ _ _ _ _ hk2 (m7 _ (by omega)) (m5 _) (m6 _) (m1 _) (m2 _) (take_a _ _ _ _ _ _)
        · simp [s__law_draw, fnS, eV, eC, Mm.e1, Mm.e2, eN, aN, aC, eCall, eTup, eLst, eIf, eCh, eAndT, eOrT, eNotT, bB, bAnd, bOr, bNot, bTru, tru, sSeq, sSet, sEx, sRet, sRetN, sNx, sNo, sBrk, sCt, sIf, sPar, sPar3, sAsg, tgN, tgNil, tgCons, tgTup, Mm.R.bind, Mm.R.of, Mm.R.st, oAdd, oSub, mul_i, oDiv, oMod, oPow, oCmpI, oLt, oLe, oGt, oGe, oIs, oIsN, oEq, oNe, eqF, b64_of, oIx, seqOf, lstOf, cellItems, sStore, eSl, eO, oLen, oInt, oListOf, oTupOf, oMax, oMin, oSum, oGcd, intsOf, oIsi, tyName, oNeg, eM1, eM0, isLst, oApp, oExt, oPopAt, oPop, fin_i, fin_b, fin_n, fin_s, fin_t2, at0, at1, at2, at3, at4, cut1, ix0, ix1, ix2, pst, eqD_pool1, hz, hn, b64_47, hn0, h3, hk]
          exact fin1 (n :: r) r _ _ 0 _ _ _ hk2 (by omega) (m3 _) (m4 _) (m1 _) (m2 _) (take_a _ _ _ _ _ _)
      · by_cases h3 : 1000000000000000000 ≤ -1 - 2 * n
        · have hp : 2 * n < -1 := by omega
          simp [s__law_draw, fnS, eV, eC, Mm.e1, Mm.e2, eN, aN, aC, eCall, eTup, eLst, eIf, eCh, eAndT, eOrT, eNotT, bB, bAnd, bOr, bNot, bTru, tru, sSeq, sSet, sEx, sRet, sRetN, sNx, sNo, sBrk, sCt, sIf, sPar, sPar3, sAsg, tgN, tgNil, tgCons, tgTup, Mm.R.bind, Mm.R.of, Mm.R.st, oAdd, oSub, mul_i, oDiv, oMod, oPow, oCmpI, oLt, oLe, oGt, oGe, oIs, oIsN, oEq, oNe, eqF, b64_of, oIx, seqOf, lstOf, cellItems, sStore, eSl, eO, oLen, oInt, oListOf, oTupOf, oMax, oMin, oSum, oGcd, intsOf, oIsi, tyName, oNeg, eM1, eM0, isLst, oApp, oExt, oPopAt, oPop, fin_i, fin_b, fin_n, fin_s, fin_t2, at0, at1, at2, at3, at4, cut1, ix0, ix1, ix2, pst, eqD_pool1, hz, hn, b64_47, hn0, h3, hp, hk]
          exact fin1 (n :: r) r _ _ _ _ _ _ hk2 (m7 _ (by omega)) (m5 _) (m6 _) (m1 _) (m2 _) (take_a _ _ _ _ _ _)
        · simp [s__law_draw, fnS, eV, eC, Mm.e1, Mm.e2, eN, aN, aC, eCall, eTup, eLst, eIf, eCh, eAndT, eOrT, eNotT, bB, bAnd, bOr, bNot, bTru, tru, sSeq, sSet, sEx, sRet, sRetN, sNx, sNo, sBrk, sCt, sIf, sPar, sPar3, sAsg, tgN, tgNil, tgCons, tgTup, Mm.R.bind, Mm.R.of, Mm.R.st, oAdd, oSub, mul_i, oDiv, oMod, oPow, oCmpI, oLt, oLe, oGt, oGe, oIs, oIsN, oEq, oNe, eqF, b64_of, oIx, seqOf, lstOf, cellItems, sStore, eSl, eO, oLen, oInt, oListOf, oTupOf, oMax, oMin, oSum, oGcd, intsOf, oIsi, tyName, oNeg, eM1, eM0, isLst, oApp, oExt, oPopAt, oPop, fin_i, fin_b, fin_n, fin_s, fin_t2, at0, at1, at2, at3, at4, cut1, ix0, ix1, ix2, pst, eqD_pool1, hz, hn, b64_47, hn0, h3, hk]
          exact fin1 (n :: r) r _ _ 0 _ _ _ hk2 (by omega) (m3 _) (m4 _) (m1 _) (m2 _) (take_a _ _ _ _ _ _)
  · have hp : 0 < a := by omega
    simp [s__law_draw, fnS, eV, eC, Mm.e1, Mm.e2, eN, aN, aC, eCall, eTup, eLst, eIf, eCh, eAndT, eOrT, eNotT, bB, bAnd, bOr, bNot, bTru, tru, sSeq, sSet, sEx, sRet, sRetN, sNx, sNo, sBrk, sCt, sIf, sPar, sPar3, sAsg, tgN, tgNil, tgCons, tgTup, Mm.R.bind, Mm.R.of, Mm.R.st, oAdd, oSub, mul_i, oDiv, oMod, oPow, oCmpI, oLt, oLe, oGt, oGe, oIs, oIsN, oEq, oNe, eqF, b64_of, oIx, seqOf, lstOf, cellItems, sStore, eSl, eO, oLen, oInt, oListOf, oTupOf, oMax, oMin, oSum, oGcd, intsOf, oIsi, tyName, oNeg, eM1, eM0, isLst, oApp, oExt, oPopAt, oPop, fin_i, fin_b, fin_n, fin_s, fin_t2, at0, at1, at2, at3, at4, cut1, ix0, ix1, ix2, pst, hz, hn, b64_47, hp, h0]
    exact fin1 ks ks _ _ _ _ _ _ hk (m7 _ (by omega)) hb hb2 (m1 _) (m2 _) (take_b _ _ _ _ _)

theorem is_number_int (i : Int) (st : Sto) : s_is_number [.int i] st = .ok (.bl true) st := by
  simp [s_is_number, fnS, eV, eC, Mm.e1, Mm.e2, eN, aN, aC, eCall, eTup, eLst, eIf, eCh, eAndT, eOrT, eNotT, bB, bAnd, bOr, bNot, bTru, tru, sSeq, sSet, sEx, sRet, sRetN, sNx, sNo, sBrk, sCt, sIf, sPar, sPar3, sAsg, tgN, tgNil, tgCons, tgTup, Mm.R.bind, Mm.R.of, Mm.R.st, oAdd, oSub, mul_i, oDiv, oMod, oPow, oCmpI, oLt, oLe, oGt, oGe, oIs, oIsN, oEq, oNe, eqF, b64_of, oIx, seqOf, lstOf, cellItems, sStore, eSl, eO, oLen, oInt, oListOf, oTupOf, oMax, oMin, oSum, oGcd, intsOf, oIsi, tyName, oNeg, eM1, eM0, isLst, oApp, oExt, oPopAt, oPop, fin_i, fin_b, fin_n, fin_s, fin_t2, at0, at1, at2, at3, at4, cut1, ix0, ix1, ix2, kit_int_int, kit_int_bool]
theorem is_within_int (i a b : Int) (st : Sto) : s_is_within [.int i, .int a, .int b] st = .ok (.bl (decide (a ≤ i) && decide (i ≤ b))) st := by
  by_cases h : a ≤ i <;> simp [s_is_within, is_number_int, fnS, eV, eC, Mm.e1, Mm.e2, eN, aN, aC, eCall, eTup, eLst, eIf, eCh, eAndT, eOrT, eNotT, bB, bAnd, bOr, bNot, bTru, tru, sSeq, sSet, sEx, sRet, sRetN, sNx, sNo, sBrk, sCt, sIf, sPar, sPar3, sAsg, tgN, tgNil, tgCons, tgTup, Mm.R.bind, Mm.R.of, Mm.R.st, oAdd, oSub, mul_i, oDiv, oMod, oPow, oCmpI, oLt, oLe, oGt, oGe, oIs, oIsN, oEq, oNe, eqF, b64_of, oIx, seqOf, lstOf, cellItems, sStore, eSl, eO, oLen, oInt, oListOf, oTupOf, oMax, oMin, oSum, oGcd, intsOf, oIsi, tyName, oNeg, eM1, eM0, isLst, oApp, oExt, oPopAt, oPop, fin_i, fin_b, fin_n, fin_s, fin_t2, at0, at1, at2, at3, at4, cut1, ix0, ix1, ix2, h]

theorem made_k_ok (k : Int) (st : Sto) (h : 1 ≤ k) (h2 : k ≤ 60) : s_made_k [.int k] st = .ok (.int k) st := by
  simp [s_made_k, is_within_int, fnS, eV, eC, Mm.e1, Mm.e2, eN, aN, aC, eCall, eTup, eLst, eIf, eCh, eAndT, eOrT, eNotT, bB, bAnd, bOr, bNot, bTru, tru, sSeq, sSet, sEx, sRet, sRetN, sNx, sNo, sBrk, sCt, sIf, sPar, sPar3, sAsg, tgN, tgNil, tgCons, tgTup, Mm.R.bind, Mm.R.of, Mm.R.st, oAdd, oSub, mul_i, oDiv, oMod, oPow, oCmpI, oLt, oLe, oGt, oGe, oIs, oIsN, oEq, oNe, eqF, b64_of, oIx, seqOf, lstOf, cellItems, sStore, eSl, eO, oLen, oInt, oListOf, oTupOf, oMax, oMin, oSum, oGcd, intsOf, oIsi, tyName, oNeg, eM1, eM0, isLst, oApp, oExt, oPopAt, oPop, fin_i, fin_b, fin_n, fin_s, fin_t2, at0, at1, at2, at3, at4, cut1, ix0, ix1, ix2, h, h2]
theorem check_many_ok (k a b : Int) (st : Sto) (h : a ≤ k) (h2 : k ≤ b) : s_check_many [.int k, .int a, .int b] st = .ok .non st := by
  simp [s_check_many, is_within_int, fnS, eV, eC, Mm.e1, Mm.e2, eN, aN, aC, eCall, eTup, eLst, eIf, eCh, eAndT, eOrT, eNotT, bB, bAnd, bOr, bNot, bTru, tru, sSeq, sSet, sEx, sRet, sRetN, sNx, sNo, sBrk, sCt, sIf, sPar, sPar3, sAsg, tgN, tgNil, tgCons, tgTup, Mm.R.bind, Mm.R.of, Mm.R.st, oAdd, oSub, mul_i, oDiv, oMod, oPow, oCmpI, oLt, oLe, oGt, oGe, oIs, oIsN, oEq, oNe, eqF, b64_of, oIx, seqOf, lstOf, cellItems, sStore, eSl, eO, oLen, oInt, oListOf, oTupOf, oMax, oMin, oSum, oGcd, intsOf, oIsi, tyName, oNeg, eM1, eM0, isLst, oApp, oExt, oPopAt, oPop, fin_i, fin_b, fin_n, fin_s, fin_t2, at0, at1, at2, at3, at4, cut1, ix0, ix1, ix2, h, h2]
theorem wrong_ints (ns : List Int) (a b lo hi : Int) (st : Sto) (h1 : a ≤ ns.length) (h2 : ns.length ≤ b) (h : ∀ x ∈ ns, lo ≤ x ∧ x ≤ hi) : s_wrong_at [.tup (ns.map .int), .int a, .int b, .int lo, .int hi] st = .ok .non st := by
  have key : ∀ (ns : List Int) (i : Nat) (e : Env), (∀ x ∈ ns, lo ≤ x ∧ x ≤ hi) → e.length = 7 → e[3]? = some (some (.int lo)) → e[4]? = some (some (.int hi)) → ∃ e', forL (fun _ => true) (tgTup (tgCons (tgN 5) (tgCons (tgN 6) tgNil))) (sIf (bNot (bTru (eCall s_is_within (aC (eV 6) (aC (eV 3) (aC (eV 4) aN)))))) (sRet (eV 5)) sNx) (enumD i (ns.map .int)) e st = .nx e' st := by
    intro ns
    induction ns with
    | nil => intro i e _ _ _ _; exact ⟨e, by simp [forL, enumD]⟩
    | cons x r ih =>
      intro i e hx he h3 h4
      obtain ⟨h5, h6⟩ := hx x (by simp)
      have h7 : 6 < e.length := by omega
      simp [forL, enumD, is_within_int, fnS, eV, eC, Mm.e1, Mm.e2, eN, aN, aC, eCall, eTup, eLst, eIf, eCh, eAndT, eOrT, eNotT, bB, bAnd, bOr, bNot, bTru, tru, sSeq, sSet, sEx, sRet, sRetN, sNx, sNo, sBrk, sCt, sIf, sPar, sPar3, sAsg, tgN, tgNil, tgCons, tgTup, Mm.R.bind, Mm.R.of, Mm.R.st, oAdd, oSub, mul_i, oDiv, oMod, oPow, oCmpI, oLt, oLe, oGt, oGe, oIs, oIsN, oEq, oNe, eqF, b64_of, oIx, seqOf, lstOf, cellItems, sStore, eSl, eO, oLen, oInt, oListOf, oTupOf, oMax, oMin, oSum, oGcd, intsOf, oIsi, tyName, oNeg, eM1, eM0, isLst, oApp, oExt, oPopAt, oPop, fin_i, fin_b, fin_n, fin_s, fin_t2, at0, at1, at2, at3, at4, cut1, ix0, ix1, ix2, h3, h4, h5, h6, h7]
      exact ih (i + 1) _ (fun x hx' => hx x (by simp [hx'])) (by simp [he]) (by simp [h3]) (by simp [h4])
  obtain ⟨e', he'⟩ := key ns 0 [some (.tup (ns.map .int)), some (.int a), some (.int b), some (.int lo), some (.int hi), none, none] h rfl rfl rfl
  simp [s_wrong_at, fnS, eV, eC, Mm.e1, Mm.e2, eN, aN, aC, eCall, eTup, eLst, eIf, eCh, eAndT, eOrT, eNotT, bB, bAnd, bOr, bNot, bTru, tru, sSeq, sSet, sEx, sRet, sRetN, sNx, sNo, sBrk, sCt, sIf, sPar, sPar3, sAsg, tgN, tgNil, tgCons, tgTup, Mm.R.bind, Mm.R.of, Mm.R.st, oAdd, oSub, mul_i, oDiv, oMod, oPow, oCmpI, oLt, oLe, oGt, oGe, oIs, oIsN, oEq, oNe, eqF, b64_of, oIx, seqOf, lstOf, cellItems, sStore, eSl, eO, oLen, oInt, oListOf, oTupOf, oMax, oMin, oSum, oGcd, intsOf, oIsi, tyName, oNeg, eM1, eM0, isLst, oApp, oExt, oPopAt, oPop, fin_i, fin_b, fin_n, fin_s, fin_t2, at0, at1, at2, at3, at4, cut1, ix0, ix1, ix2, sFor, iEn, kit_tup_tup, h1, h2, he']

theorem int_replicate (n : Nat) (t : Int) : (List.replicate n [D.int t]).flatten = (List.replicate n t).map D.int := by
  induction n with
  | zero => rfl
  | succ n ih => simp [List.replicate_succ, ih]
theorem intsOf_map : ∀ ns : List Int, intsOf (ns.map D.int) = some ns
  | [] => rfl
  | n :: r => by simp [intsOf, intsOf_map r]
theorem maxI_rep (t : Int) : ∀ n : Nat, maxI t (List.replicate n t) = t
  | 0 => rfl
  | n + 1 => by
    have := maxI_rep t n
    simp [maxI, List.replicate_succ] at this ⊢
    exact this
theorem made_ts_ok (ns : List Int) (st : Sto) (h1 : 1 ≤ ns.length) (h2 : ns.length ≤ 8) (h : ∀ x ∈ ns, 1 ≤ x ∧ x ≤ 60) : s_made_ts [.tup (ns.map .int)] st = .ok (.tup (ns.map .int)) st := by
  have := wrong_ints ns 1 8 1 60 st (by omega) (by omega) h
  simp [s_made_ts, fnS, eV, eC, Mm.e1, Mm.e2, eN, aN, aC, eCall, eTup, eLst, eIf, eCh, eAndT, eOrT, eNotT, bB, bAnd, bOr, bNot, bTru, tru, sSeq, sSet, sEx, sRet, sRetN, sNx, sNo, sBrk, sCt, sIf, sPar, sPar3, sAsg, tgN, tgNil, tgCons, tgTup, Mm.R.bind, Mm.R.of, Mm.R.st, oAdd, oSub, mul_i, oDiv, oMod, oPow, oCmpI, oLt, oLe, oGt, oGe, oIs, oIsN, oEq, oNe, eqF, b64_of, oIx, seqOf, lstOf, cellItems, sStore, eSl, eO, oLen, oInt, oListOf, oTupOf, oMax, oMin, oSum, oGcd, intsOf, oIsi, tyName, oNeg, eM1, eM0, isLst, oApp, oExt, oPopAt, oPop, fin_i, fin_b, fin_n, fin_s, fin_t2, at0, at1, at2, at3, at4, cut1, ix0, ix1, ix2, this, fin_f, flatD, flat_ints]
theorem left_over_ok (k t : Int) (r : List Int) (st : Sto) : s_left_over [.int k, .tup ((t :: r).map .int)] st = .ok (.int (k + maxI t r - 2 * (t :: r).sum)) st := by
  have h1 := intsOf_map (t :: r)
  simp [s_left_over, fnS, eV, eC, Mm.e1, Mm.e2, eN, aN, aC, eCall, eTup, eLst, eIf, eCh, eAndT, eOrT, eNotT, bB, bAnd, bOr, bNot, bTru, tru, sSeq, sSet, sEx, sRet, sRetN, sNx, sNo, sBrk, sCt, sIf, sPar, sPar3, sAsg, tgN, tgNil, tgCons, tgTup, Mm.R.bind, Mm.R.of, Mm.R.st, oAdd, oSub, mul_i, oDiv, oMod, oPow, oCmpI, oLt, oLe, oGt, oGe, oIs, oIsN, oEq, oNe, eqF, b64_of, oIx, seqOf, lstOf, cellItems, sStore, eSl, eO, oLen, oInt, oListOf, oTupOf, oMax, oMin, oSum, oGcd, intsOf, oIsi, tyName, oNeg, eM1, eM0, isLst, oApp, oExt, oPopAt, oPop, fin_i, fin_b, fin_n, fin_s, fin_t2, at0, at1, at2, at3, at4, cut1, ix0, ix1, ix2, intsOf_map]
theorem fits_ok (k t : Int) (r : List Int) (st : Sto) (hk : 1 ≤ k) (hk2 : k ≤ 60) (h2 : r.length ≤ 7) (h : ∀ x ∈ t :: r, 1 ≤ x ∧ x ≤ 60) : s_fits [.int k, .tup ((t :: r).map .int)] st = .ok (.bl (decide (0 ≤ k + maxI t r - 2 * (t :: r).sum))) st := by
  have h1 := made_ts_ok (t :: r) st (by simp) (by simp; omega) h
  have h3 := left_over_ok k t r st
  simp only [List.map] at h1 h3 ⊢
  simp [s_fits, s_spare, made_k_ok, hk, hk2, fnS, eV, eC, Mm.e1, Mm.e2, eN, aN, aC, eCall, eTup, eLst, eIf, eCh, eAndT, eOrT, eNotT, bB, bAnd, bOr, bNot, bTru, tru, sSeq, sSet, sEx, sRet, sRetN, sNx, sNo, sBrk, sCt, sIf, sPar, sPar3, sAsg, tgN, tgNil, tgCons, tgTup, Mm.R.bind, Mm.R.of, Mm.R.st, oAdd, oSub, mul_i, oDiv, oMod, oPow, oCmpI, oLt, oLe, oGt, oGe, oIs, oIsN, oEq, oNe, eqF, b64_of, oIx, seqOf, lstOf, cellItems, sStore, eSl, eO, oLen, oInt, oListOf, oTupOf, oMax, oMin, oSum, oGcd, intsOf, oIsi, tyName, oNeg, eM1, eM0, isLst, oApp, oExt, oPopAt, oPop, fin_i, fin_b, fin_n, fin_s, fin_t2, at0, at1, at2, at3, at4, cut1, ix0, ix1, ix2, h1, h3]
theorem most_ok (k n : Nat) (st : Sto) (h : 1 ≤ k) (h0 : k ≤ 60) (h2 : 1 ≤ n) (h22 : n ≤ 30) : s_most [.int k, .int n] st = .ok (.int ((k / (2 * n - 1) : Nat) : Int)) st := by
  have h3 : 2 * (n : Int) - 1 ≠ 0 := by omega
  have h4 : (2 * (n : Int) - 1).natAbs < 1073741824 := by omega
  have h5 : Int.fdiv k (2 * (n : Int) - 1) = ((k / (2 * n - 1) : Nat) : Int) := by
    rw [show 2 * (n : Int) - 1 = ((2 * n - 1 : Nat) : Int) by omega]
    exact Int.fdiv_eq_ediv_of_nonneg _ (by omega)
  have := made_k_ok (k : Int) st (by omega) (by omega)
  have := check_many_ok (n : Int) 1 30 st (by omega) (by omega)
  simp [s_most, fnS, eV, eC, Mm.e1, Mm.e2, eN, aN, aC, eCall, eTup, eLst, eIf, eCh, eAndT, eOrT, eNotT, bB, bAnd, bOr, bNot, bTru, tru, sSeq, sSet, sEx, sRet, sRetN, sNx, sNo, sBrk, sCt, sIf, sPar, sPar3, sAsg, tgN, tgNil, tgCons, tgTup, Mm.R.bind, Mm.R.of, Mm.R.st, oAdd, oSub, mul_i, oDiv, oMod, oPow, oCmpI, oLt, oLe, oGt, oGe, oIs, oIsN, oEq, oNe, eqF, b64_of, oIx, seqOf, lstOf, cellItems, sStore, eSl, eO, oLen, oInt, oListOf, oTupOf, oMax, oMin, oSum, oGcd, intsOf, oIsi, tyName, oNeg, eM1, eM0, isLst, oApp, oExt, oPopAt, oPop, fin_i, fin_b, fin_n, fin_s, fin_t2, at0, at1, at2, at3, at4, cut1, ix0, ix1, ix2, *]

theorem fdiv_nat (a b : Nat) : Int.fdiv (a : Int) (b : Int) = ((a / b : Nat) : Int) := Int.fdiv_eq_ediv_of_nonneg _ (by omega)
theorem fmod_nat (a b : Nat) : Int.fmod (a : Int) (b : Int) = ((a % b : Nat) : Int) := Int.fmod_eq_emod_of_nonneg _ (by omega)
def lowT (p q : Nat) : D := .tup [.int ((p / Nat.gcd p q : Nat) : Int), .int ((q / Nat.gcd p q : Nat) : Int)]
theorem lowest_ok (p q : Nat) (st : Sto) (h : 0 < p) (h2 : p < 1000000000) : s_lowest [.int p, .int q] st = .ok (lowT p q) st := by
  have h3 : Nat.gcd p q ≠ 0 := by have := Nat.gcd_pos_of_pos_left q h; omega
  have h4 : Nat.gcd p q < 1073741824 := by have := Nat.gcd_le_left q h; omega
  have h5 := fdiv_nat p (Nat.gcd p q)
  have h6 := fdiv_nat q (Nat.gcd p q)
  simp [s_lowest, fnS, eV, eC, Mm.e1, Mm.e2, eN, aN, aC, eCall, eTup, eLst, eIf, eCh, eAndT, eOrT, eNotT, bB, bAnd, bOr, bNot, bTru, tru, sSeq, sSet, sEx, sRet, sRetN, sNx, sNo, sBrk, sCt, sIf, sPar, sPar3, sAsg, tgN, tgNil, tgCons, tgTup, Mm.R.bind, Mm.R.of, Mm.R.st, oAdd, oSub, mul_i, oDiv, oMod, oPow, oCmpI, oLt, oLe, oGt, oGe, oIs, oIsN, oEq, oNe, eqF, b64_of, oIx, seqOf, lstOf, cellItems, sStore, eSl, eO, oLen, oInt, oListOf, oTupOf, oMax, oMin, oSum, oGcd, intsOf, oIsi, tyName, oNeg, eM1, eM0, isLst, oApp, oExt, oPopAt, oPop, fin_i, fin_b, fin_n, fin_s, fin_t2, at0, at1, at2, at3, at4, cut1, ix0, ix1, ix2, h3, h4, lowT, -Int.natCast_ediv, h5, h6]
theorem row_gcd_ok (a b : Nat) (st : Sto) (hb : b < 1000000000) : s__law_row_gcd [.int a, .int b] st = .ok (.int (Nat.gcd a b : Nat)) st := by
  have key : whL (bB (e2 oNe (eV 1) (eC (.int 0)))) (sPar 0 1 (eV 1) (e2 oMod (eN oInt (aC (eV 0) aN)) (eV 1))) whMost [some (.int a), some (.int b)] st = .nx [some (.int (Nat.gcd a b : Nat)), some (.int 0)] st := by
    refine whL_wp (fun n e s => ∃ a' b' : Nat, e = [some (.int a'), some (.int b')] ∧ s = st ∧ b' = n ∧ Nat.gcd a' b' = Nat.gcd a b) (fun r => r = .nx [some (.int (Nat.gcd a b : Nat)), some (.int 0)] st) ?_ whMost b _ _ hb ⟨a, b, rfl, rfl, rfl, rfl⟩
    rintro n e s ⟨a', b', rfl, rfl, rfl, hg⟩
    refine ⟨s, ?_⟩
    by_cases h0 : b' = 0
    · subst h0
      refine .inl ⟨by simp [fnS, eV, eC, Mm.e1, Mm.e2, eN, aN, aC, eCall, eTup, eLst, eIf, eCh, eAndT, eOrT, eNotT, bB, bAnd, bOr, bNot, bTru, tru, sSeq, sSet, sEx, sRet, sRetN, sNx, sNo, sBrk, sCt, sIf, sPar, sPar3, sAsg, tgN, tgNil, tgCons, tgTup, Mm.R.bind, Mm.R.of, Mm.R.st, oAdd, oSub, mul_i, oDiv, oMod, oPow, oCmpI, oLt, oLe, oGt, oGe, oIs, oIsN, oEq, oNe, eqF, b64_of, oIx, seqOf, lstOf, cellItems, sStore, eSl, eO, oLen, oInt, oListOf, oTupOf, oMax, oMin, oSum, oGcd, intsOf, oIsi, tyName, oNeg, eM1, eM0, isLst, oApp, oExt, oPopAt, oPop, fin_i, fin_b, fin_n, fin_s, fin_t2, at0, at1, at2, at3, at4, cut1, ix0, ix1, ix2], ?_⟩
      simp at hg
      simp [hg]
    · refine .inr ⟨by simp [fnS, eV, eC, Mm.e1, Mm.e2, eN, aN, aC, eCall, eTup, eLst, eIf, eCh, eAndT, eOrT, eNotT, bB, bAnd, bOr, bNot, bTru, tru, sSeq, sSet, sEx, sRet, sRetN, sNx, sNo, sBrk, sCt, sIf, sPar, sPar3, sAsg, tgN, tgNil, tgCons, tgTup, Mm.R.bind, Mm.R.of, Mm.R.st, oAdd, oSub, mul_i, oDiv, oMod, oPow, oCmpI, oLt, oLe, oGt, oGe, oIs, oIsN, oEq, oNe, eqF, b64_of, oIx, seqOf, lstOf, cellItems, sStore, eSl, eO, oLen, oInt, oListOf, oTupOf, oMax, oMin, oSum, oGcd, intsOf, oIsi, tyName, oNeg, eM1, eM0, isLst, oApp, oExt, oPopAt, oPop, fin_i, fin_b, fin_n, fin_s, fin_t2, at0, at1, at2, at3, at4, cut1, ix0, ix1, ix2, h0], ?_⟩
      have h1 := fmod_nat a' b'
      simp only [RSok, fnS, eV, eC, Mm.e1, Mm.e2, eN, aN, aC, eCall, eTup, eLst, eIf, eCh, eAndT, eOrT, eNotT, bB, bAnd, bOr, bNot, bTru, tru, sSeq, sSet, sEx, sRet, sRetN, sNx, sNo, sBrk, sCt, sIf, sPar, sPar3, sAsg, tgN, tgNil, tgCons, tgTup, Mm.R.bind, Mm.R.of, Mm.R.st, oAdd, oSub, mul_i, oDiv, oMod, oPow, oCmpI, oLt, oLe, oGt, oGe, oIs, oIsN, oEq, oNe, eqF, b64_of, oIx, seqOf, lstOf, cellItems, sStore, eSl, eO, oLen, oInt, oListOf, oTupOf, oMax, oMin, oSum, oGcd, intsOf, oIsi, tyName, oNeg, eM1, eM0, isLst, oApp, oExt, oPopAt, oPop, fin_i, fin_b, fin_n, fin_s, fin_t2, at0, at1, at2, at3, at4, cut1, ix0, ix1, ix2, List.length, List.getElem?_cons_zero, List.getElem?_cons_succ]
      simp [h0, List.set, h1, -Int.natCast_emod]
      refine ⟨a' % b', Nat.mod_lt _ (by omega), b', a' % b', ⟨rfl, rfl⟩, rfl, ?_⟩
      rw [← hg, Nat.gcd_comm a' b', Nat.gcd_rec b' a', Nat.gcd_comm]
  simp [s__law_row_gcd, sWh, fnS, eV, eC, Mm.e1, Mm.e2, eN, aN, aC, eCall, eTup, eLst, eIf, eCh, eAndT, eOrT, eNotT, bB, bAnd, bOr, bNot, bTru, tru, sSeq, sSet, sEx, sRet, sRetN, sNx, sNo, sBrk, sCt, sIf, sPar, sPar3, sAsg, tgN, tgNil, tgCons, tgTup, Mm.R.bind, Mm.R.of, Mm.R.st, oAdd, oSub, mul_i, oDiv, oMod, oPow, oCmpI, oLt, oLe, oGt, oGe, oIs, oIsN, oEq, oNe, eqF, b64_of, oIx, seqOf, lstOf, cellItems, sStore, eSl, eO, oLen, oInt, oListOf, oTupOf, oMax, oMin, oSum, oGcd, intsOf, oIsi, tyName, oNeg, eM1, eM0, isLst, oApp, oExt, oPopAt, oPop, fin_i, fin_b, fin_n, fin_s, fin_t2, at0, at1, at2, at3, at4, cut1, ix0, ix1, ix2, key]
theorem row_low_ok (p q : Nat) (st : Sto) (h : 0 < p) (h2 : p < 1000000000) (hq : q < 1000000000) : s__law_row_low [.int p, .int q] st = .ok (lowT p q) st := by
  have h3 : Nat.gcd p q ≠ 0 := by have := Nat.gcd_pos_of_pos_left q h; omega
  have h4 : Nat.gcd p q < 1073741824 := by have := Nat.gcd_le_left q h; omega
  have h5 := fdiv_nat p (Nat.gcd p q)
  have h6 := fdiv_nat q (Nat.gcd p q)
  have h7 := row_gcd_ok p q st hq
  simp [s__law_row_low, fnS, eV, eC, Mm.e1, Mm.e2, eN, aN, aC, eCall, eTup, eLst, eIf, eCh, eAndT, eOrT, eNotT, bB, bAnd, bOr, bNot, bTru, tru, sSeq, sSet, sEx, sRet, sRetN, sNx, sNo, sBrk, sCt, sIf, sPar, sPar3, sAsg, tgN, tgNil, tgCons, tgTup, Mm.R.bind, Mm.R.of, Mm.R.st, oAdd, oSub, mul_i, oDiv, oMod, oPow, oCmpI, oLt, oLe, oGt, oGe, oIs, oIsN, oEq, oNe, eqF, b64_of, oIx, seqOf, lstOf, cellItems, sStore, eSl, eO, oLen, oInt, oListOf, oTupOf, oMax, oMin, oSum, oGcd, intsOf, oIsi, tyName, oNeg, eM1, eM0, isLst, oApp, oExt, oPopAt, oPop, fin_i, fin_b, fin_n, fin_s, fin_t2, at0, at1, at2, at3, at4, cut1, ix0, ix1, ix2, h7, h3, h4, lowT, -Int.natCast_ediv, h5, h6]

theorem flat_lowT (p q : Nat) : flatD (lowT p q) = true := rfl
theorem least_density_ok (k n : Nat) (st : Sto) (h : 1 ≤ k) (h0 : k ≤ 60) (h2 : 1 ≤ n) (h22 : n ≤ 30) : s_least_density [.int k, .int n] st = .ok (if k / (2 * n - 1) = 0 then .non else lowT 2 (k + k / (2 * n - 1))) st := by
  have h3 := most_ok k n st h h0 h2 h22
  have h4 := lowest_ok 2 (k + k / (2 * n - 1)) st (by decide) (by decide)
  have h5 : (k : Int) + ((k / (2 * n - 1) : Nat) : Int) = ((k + k / (2 * n - 1) : Nat) : Int) := by omega
  by_cases hz : k / (2 * n - 1) = 0
  · simp [s_least_density, -Int.natCast_ediv, -Int.natCast_add, fnS, eV, eC, Mm.e1, Mm.e2, eN, aN, aC, eCall, eTup, eLst, eIf, eCh, eAndT, eOrT, eNotT, bB, bAnd, bOr, bNot, bTru, tru, sSeq, sSet, sEx, sRet, sRetN, sNx, sNo, sBrk, sCt, sIf, sPar, sPar3, sAsg, tgN, tgNil, tgCons, tgTup, Mm.R.bind, Mm.R.of, Mm.R.st, oAdd, oSub, mul_i, oDiv, oMod, oPow, oCmpI, oLt, oLe, oGt, oGe, oIs, oIsN, oEq, oNe, eqF, b64_of, oIx, seqOf, lstOf, cellItems, sStore, eSl, eO, oLen, oInt, oListOf, oTupOf, oMax, oMin, oSum, oGcd, intsOf, oIsi, tyName, oNeg, eM1, eM0, isLst, oApp, oExt, oPopAt, oPop, fin_i, fin_b, fin_n, fin_s, fin_t2, at0, at1, at2, at3, at4, cut1, ix0, ix1, ix2, h3, hz]
  · simp only [hz, if_false]
    generalize k / (2 * n - 1) = t at *
    have hz2 : (t : Int) ≠ 0 := by omega
    have h6 : s_lowest [.int 2, .int ((k : Int) + (t : Int))] st = .ok (lowT 2 (k + t)) st := by rw [h5]; exact h4
    simp [s_least_density, fnS, eV, eC, Mm.e1, Mm.e2, eN, aN, aC, eCall, eTup, eLst, eIf, eCh, eAndT, eOrT, eNotT, bB, bAnd, bOr, bNot, bTru, tru, sSeq, sSet, sEx, sRet, sRetN, sNx, sNo, sBrk, sCt, sIf, sPar, sPar3, sAsg, tgN, tgNil, tgCons, tgTup, Mm.R.bind, Mm.R.of, Mm.R.st, oAdd, oSub, mul_i, oDiv, oMod, oPow, oCmpI, oLt, oLe, oGt, oGe, oIs, oIsN, oEq, oNe, eqF, b64_of, oIx, seqOf, lstOf, cellItems, sStore, eSl, eO, oLen, oInt, oListOf, oTupOf, oMax, oMin, oSum, oGcd, intsOf, oIsi, tyName, oNeg, eM1, eM0, isLst, oApp, oExt, oPopAt, oPop, fin_i, fin_b, fin_n, fin_s, fin_t2, at0, at1, at2, at3, at4, cut1, ix0, ix1, ix2, h3, hz, h6]
    exact fin_f rfl
theorem is_whole_ok (i : Int) (st : Sto) : s__law_is_whole [.int i] st = .ok (.bl true) st := by
  simp [s__law_is_whole, fnS, eV, eC, Mm.e1, Mm.e2, eN, aN, aC, eCall, eTup, eLst, eIf, eCh, eAndT, eOrT, eNotT, bB, bAnd, bOr, bNot, bTru, tru, sSeq, sSet, sEx, sRet, sRetN, sNx, sNo, sBrk, sCt, sIf, sPar, sPar3, sAsg, tgN, tgNil, tgCons, tgTup, Mm.R.bind, Mm.R.of, Mm.R.st, oAdd, oSub, mul_i, oDiv, oMod, oPow, oCmpI, oLt, oLe, oGt, oGe, oIs, oIsN, oEq, oNe, eqF, b64_of, oIx, seqOf, lstOf, cellItems, sStore, eSl, eO, oLen, oInt, oListOf, oTupOf, oMax, oMin, oSum, oGcd, intsOf, oIsi, tyName, oNeg, eM1, eM0, isLst, oApp, oExt, oPopAt, oPop, fin_i, fin_b, fin_n, fin_s, fin_t2, at0, at1, at2, at3, at4, cut1, ix0, ix1, ix2, kit_int_int, kit_int_bool]
theorem repr_low : ∀ q : Nat, q < 200 → ∀ st : Sto, oRepr [lowT 2 q] st = some (.str (PySem.PyData.tuple [PySem.PyData.int ((2 / Nat.gcd 2 q : Nat) : Int), PySem.PyData.int ((q / Nat.gcd 2 q : Nat) : Int)]).shown, st) := by
  have key : ∀ q : Nat, q < 200 → ((PySem.PyData.tuple [PySem.PyData.int ((2 / Nat.gcd 2 q : Nat) : Int), PySem.PyData.int ((q / Nat.gcd 2 q : Nat) : Int)]).showable && !(PySem.PyData.tuple [PySem.PyData.int ((2 / Nat.gcd 2 q : Nat) : Int), PySem.PyData.int ((q / Nat.gcd 2 q : Nat) : Int)]).hasDict && decide ((PySem.PyData.tuple [PySem.PyData.int ((2 / Nat.gcd 2 q : Nat) : Int), PySem.PyData.int ((q / Nat.gcd 2 q : Nat) : Int)]).depth ≤ 60) && decide ((PySem.PyData.tuple [PySem.PyData.int ((2 / Nat.gcd 2 q : Nat) : Int), PySem.PyData.int ((q / Nat.gcd 2 q : Nat) : Int)]).shown.length ≤ 16000000)) = true := by decide +kernel
  intro q hq st
  have := key q hq
  simp only [oRepr, pyS, lowT, py, pys, Option.bind, Option.map, this, if_true]
  rfl

/-! the numbers of it -/
def moreB (k n t p q : Nat) : Bool := (k == 0) || (n == 0) || (t == 0) || (decide ((p : Int) * k < 2 * q) && decide ((q : Int) ≤ (p : Int) * k) && (!(n == 1) || decide ((p : Int) * k = q)) &&
  decide (0 ≤ ((p : Int) * k * n - (2 * n - 1) * q) * k) && decide (((p : Int) * k * n - (2 * n - 1) * q) * k < 2 * q * n * (2 * n - 1)) && decide (t ≤ 60) && decide (0 ≤ (k : Int) + t - 2 * (n * t)) && decide ((k : Int) + (t + 1) - 2 * (n * (t + 1)) < 0))
theorem more_all : ∀ k : Nat, k < 61 → ∀ n : Nat, n < 31 → moreB k n (k / (2 * n - 1)) (2 / Nat.gcd 2 (k + k / (2 * n - 1))) ((k + k / (2 * n - 1)) / Nat.gcd 2 (k + k / (2 * n - 1))) = true := by decide +kernel
theorem more_nums (k n t p q : Nat) (h : moreB k n t p q = true) (hk : 1 ≤ k) (hn : 1 ≤ n) (ht : t ≠ 0) :
    (p : Int) * k < 2 * q ∧ (q : Int) ≤ (p : Int) * k ∧ (n = 1 → (p : Int) * k = q) ∧ 0 ≤ ((p : Int) * k * n - (2 * n - 1) * q) * k ∧ ((p : Int) * k * n - (2 * n - 1) * q) * k < 2 * q * n * (2 * n - 1) ∧ t ≤ 60 ∧ 0 ≤ (k : Int) + t - 2 * (n * t) ∧ (k : Int) + (t + 1) - 2 * (n * (t + 1)) < 0 := by
  have h1 : k ≠ 0 := by omega
  have h2 : n ≠ 0 := by omega
  simp only [moreB, Bool.or_eq_true, Bool.and_eq_true, beq_iff_eq, decide_eq_true_eq, Bool.not_eq_true', beq_eq_false_iff_ne, h1, h2, ht, false_or, ne_eq] at h
  obtain ⟨⟨⟨⟨⟨⟨⟨a1, a2⟩, a3⟩, a4⟩, a5⟩, a6⟩, a7⟩, a8⟩ := h
  exact ⟨a1, a2, fun e => a3.resolve_left (fun q => q e), a4, a5, a6, a7, a8⟩
theorem sum_rep (t : Int) : ∀ n : Nat, (List.replicate n t).sum = n * t
  | 0 => by simp
  | n + 1 => by
    have h : ((n + 1 : Nat) : Int) * t = n * t + t := by rw [Int.natCast_succ, Int.add_mul, Int.one_mul]
    rw [h, List.replicate_succ, List.sum_cons, sum_rep t n, Int.add_comm]
/-- (t,) * n -/
theorem tup_times (t : Int) (n : Nat) (h : 1 ≤ n) (h2 : n ≤ 8) (st : Sto) : oMul (.tup [.int t]) (.int n) st = some (.tup ((t :: List.replicate (n - 1) t).map .int), st) := by
  by_cases h1 : n = 1
  · subst h1; rfl
  · have e : ((n : Nat) : Int) ≠ 1 := by omega
    have e2 : (2 : Int) ≤ n := by omega
    have e3 : (n : Int) ≤ 1000 := by omega
    have e4 : t :: List.replicate (n - 1) t = List.replicate n t := by
      rw [← List.replicate_succ]; congr 1; omega
    simp only [oMul, e, e2, e3, if_false, e4]
    simp [int_replicate]

theorem tup_times1 (t : Int) (n : Nat) (h : 1 ≤ n) (h2 : n ≤ 8) (st : Sto) : oMul (.tup [.int t]) (.int n) st = some (.tup (.int t :: List.replicate (n - 1) (.int t)), st) := by
  rw [tup_times t n h h2 st]; simp
theorem more_right_ok (k n : Nat) (st : Sto) (h : 1 ≤ k) (h0 : k ≤ 60) (h2 : 1 ≤ n) (h22 : n ≤ 30) : s__law_more_right [.int k, .int n] st = .ok (.bl true) st := by
  have g1 := most_ok k n st h h0 h2 h22
  have g2 := least_density_ok k n st h h0 h2 h22
  have g3 := more_all k (by omega) n (by omega)
  by_cases hz : k / (2 * n - 1) = 0
  · simp only [hz, if_true] at g1 g2
    simp [s__law_more_right, fnS, eV, eC, Mm.e1, Mm.e2, eN, aN, aC, eCall, eTup, eLst, eIf, eCh, eAndT, eOrT, eNotT, bB, bAnd, bOr, bNot, bTru, tru, sSeq, sSet, sEx, sRet, sRetN, sNx, sNo, sBrk, sCt, sIf, sPar, sPar3, sAsg, tgN, tgNil, tgCons, tgTup, Mm.R.bind, Mm.R.of, Mm.R.st, oAdd, oSub, mul_i, oDiv, oMod, oPow, oCmpI, oLt, oLe, oGt, oGe, oIs, oIsN, oEq, oNe, eqF, b64_of, oIx, seqOf, lstOf, cellItems, sStore, eSl, eO, oLen, oInt, oListOf, oTupOf, oMax, oMin, oSum, oGcd, intsOf, oIsi, tyName, oNeg, eM1, eM0, isLst, oApp, oExt, oPopAt, oPop, fin_i, fin_b, fin_n, fin_s, fin_t2, at0, at1, at2, at3, at4, cut1, ix0, ix1, ix2, g1, g2, is_whole_ok]
  · simp only [hz, if_false] at g2
    have hs : 2 * n - 1 ≥ 1 := by omega
    have ht60 : k / (2 * n - 1) ≤ 60 := Nat.le_trans (Nat.div_le_self _ _) h0
    have g5 := row_low_ok 2 (k + k / (2 * n - 1)) st (by decide) (by decide) (by omega)
    have g6 := fun st => repr_low (k + k / (2 * n - 1)) (by omega) st
    simp only [lowT] at g2 g5 g6
    have hq120 : (k + k / (2 * n - 1)) / Nat.gcd 2 (k + k / (2 * n - 1)) ≤ 120 := Nat.le_trans (Nat.div_le_self _ _) (by omega)
    generalize k / (2 * n - 1) = t at *
    generalize 2 / Nat.gcd 2 (k + t) = p at *
    generalize (k + t) / Nat.gcd 2 (k + t) = q at *
    obtain ⟨a1, a2, a3, a4, a5, a6, a7, a8⟩ := more_nums k n t p q g3 h h2 hz
    have g5' : s__law_row_low [.int 2, .int ((k : Int) + (t : Int))] st = .ok (.tup [.int p, .int q]) st := g5
    have b1 : ¬ 2 * (q : Int) ≤ p * k := by omega
    have b2 : ¬ (p : Int) * k < q := by omega
    have b3 : (t : Int) ≠ 0 := by omega
    have hpq : b64 (k : Int) = true := b64_nat (by omega)
    have hnn : b64 (n : Int) = true := b64_nat (by omega)
    have hqq : b64 (q : Int) = true := b64_nat (by omega)
    have hn2 : b64 (2 * (n : Int) - 1) = true := b64_of (by omega) (by omega)
    have b4 : ¬ (t : Int) < 0 := by omega
    have b5 : (n : Int) = 1 → (p : Int) * k = q := fun e => a3 (by omega)
    have d6 : bAnd (bB (Mm.e2 oLt (eV 1) (eC (.int 9)))) (bOr (bB (Mm.e2 oIsN (eCall s_fits (aC (eV 0) (aC (Mm.e2 oMul (eTup (aC (eV 2) aN)) (eV 1)) aN))) (eC (.bl true)))) (bAnd (bB (Mm.e2 oLt (eV 2) (eC (.int 60)))) (bB (Mm.e2 oIsN (eCall s_fits (aC (eV 0) (aC (Mm.e2 oMul (eTup (aC (Mm.e2 oAdd (eV 2) (eC (.int 1))) aN)) (eV 1)) aN))) (eC (.bl false)))))) [some (.int k), some (.int n), some (.int t), some (.tup [.int p, .int q]), none] st = .ok false st := by
     by_cases hn9 : n < 9
     · have hin : ∀ m : Nat, n < 9 → ∀ x ∈ (m : Int) :: List.replicate (n - 1) (m : Int), x = m := by
         intro m _ x hx
         rcases List.mem_cons.mp hx with h | h
         · exact h
         · exact (List.mem_replicate.mp h).2
       have hsum : ∀ m : Nat, ((m : Int) :: List.replicate (n - 1) (m : Int)).sum = n * m := by
         intro m
         have e4 : (m : Int) :: List.replicate (n - 1) (m : Int) = List.replicate n (m : Int) := by
           rw [← List.replicate_succ, Nat.sub_add_cancel h2]
         rw [e4, sum_rep]
       have hfit : ∀ m : Nat, 1 ≤ m → m ≤ 60 → s_fits [.int k, .tup (.int m :: List.replicate (n - 1) (.int m))] st = .ok (.bl (decide (0 ≤ (k : Int) + m - 2 * (n * m)))) st := by
         intro m q1 q2
         have := fits_ok k m (List.replicate (n - 1) (m : Int)) st (by omega) (by omega) (by simp; omega) (by intro x hx; have := hin m hn9 x hx; omega)
         rw [maxI_rep, hsum] at this
         simp only [List.map_cons, List.map_replicate] at this
         exact this
       have c1 := hfit t (by omega) (by omega)
       simp only [a7, decide_true] at c1
       have c3 := tup_times1 t n h2 (by omega)
       have c4 := tup_times1 (t + 1) n h2 (by omega)
       have c5 : (n : Int) < 9 := by omega
       by_cases h60 : t < 60
       · have c6 : (t : Int) < 60 := by omega
         have c7 := hfit (t + 1) (by omega) (by omega)
         have c8 : ¬ 0 ≤ (k : Int) + ((t + 1 : Nat) : Int) - 2 * (n * ((t + 1 : Nat) : Int)) := by rw [Int.natCast_succ]; omega
         simp only [c8, decide_false] at c7
         rw [Int.natCast_succ] at c7
         simp [fnS, eV, eC, Mm.e1, Mm.e2, eN, aN, aC, eCall, eTup, eLst, eIf, eCh, eAndT, eOrT, eNotT, bB, bAnd, bOr, bNot, bTru, tru, sSeq, sSet, sEx, sRet, sRetN, sNx, sNo, sBrk, sCt, sIf, sPar, sPar3, sAsg, tgN, tgNil, tgCons, tgTup, Mm.R.bind, Mm.R.of, Mm.R.st, oAdd, oSub, mul_i, oDiv, oMod, oPow, oCmpI, oLt, oLe, oGt, oGe, oIs, oIsN, oEq, oNe, eqF, b64_of, oIx, seqOf, lstOf, cellItems, sStore, eSl, eO, oLen, oInt, oListOf, oTupOf, oMax, oMin, oSum, oGcd, intsOf, oIsi, tyName, oNeg, eM1, eM0, isLst, oApp, oExt, oPopAt, oPop, fin_i, fin_b, fin_n, fin_s, fin_t2, at0, at1, at2, at3, at4, cut1, ix0, ix1, ix2, c1, c3, c4, c5, c6, c7]
       · have c6 : ¬ (t : Int) < 60 := by omega
         simp [fnS, eV, eC, Mm.e1, Mm.e2, eN, aN, aC, eCall, eTup, eLst, eIf, eCh, eAndT, eOrT, eNotT, bB, bAnd, bOr, bNot, bTru, tru, sSeq, sSet, sEx, sRet, sRetN, sNx, sNo, sBrk, sCt, sIf, sPar, sPar3, sAsg, tgN, tgNil, tgCons, tgTup, Mm.R.bind, Mm.R.of, Mm.R.st, oAdd, oSub, mul_i, oDiv, oMod, oPow, oCmpI, oLt, oLe, oGt, oGe, oIs, oIsN, oEq, oNe, eqF, b64_of, oIx, seqOf, lstOf, cellItems, sStore, eSl, eO, oLen, oInt, oListOf, oTupOf, oMax, oMin, oSum, oGcd, intsOf, oIsi, tyName, oNeg, eM1, eM0, isLst, oApp, oExt, oPopAt, oPop, fin_i, fin_b, fin_n, fin_s, fin_t2, at0, at1, at2, at3, at4, cut1, ix0, ix1, ix2, c1, c3, c5, c6]
     · have c5 : ¬ (n : Int) < 9 := by omega
       simp [fnS, eV, eC, Mm.e1, Mm.e2, eN, aN, aC, eCall, eTup, eLst, eIf, eCh, eAndT, eOrT, eNotT, bB, bAnd, bOr, bNot, bTru, tru, sSeq, sSet, sEx, sRet, sRetN, sNx, sNo, sBrk, sCt, sIf, sPar, sPar3, sAsg, tgN, tgNil, tgCons, tgTup, Mm.R.bind, Mm.R.of, Mm.R.st, oAdd, oSub, mul_i, oDiv, oMod, oPow, oCmpI, oLt, oLe, oGt, oGe, oIs, oIsN, oEq, oNe, eqF, b64_of, oIx, seqOf, lstOf, cellItems, sStore, eSl, eO, oLen, oInt, oListOf, oTupOf, oMax, oMin, oSum, oGcd, intsOf, oIsi, tyName, oNeg, eM1, eM0, isLst, oApp, oExt, oPopAt, oPop, fin_i, fin_b, fin_n, fin_s, fin_t2, at0, at1, at2, at3, at4, cut1, ix0, ix1, ix2, c5]
    unfold s__law_more_right
    refine fn_ret ?_ (fin_b _ _)
    refine seq_nx (e1 := [some (.int k), some (.int n), some (.int t), some (.tup [.int p, .int q]), none]) (st1 := st) (by simp [fnS, eV, eC, Mm.e1, Mm.e2, eN, aN, aC, eCall, eTup, eLst, eIf, eCh, eAndT, eOrT, eNotT, bB, bAnd, bOr, bNot, bTru, tru, sSeq, sSet, sEx, sRet, sRetN, sNx, sNo, sBrk, sCt, sIf, sPar, sPar3, sAsg, tgN, tgNil, tgCons, tgTup, Mm.R.bind, Mm.R.of, Mm.R.st, oAdd, oSub, mul_i, oDiv, oMod, oPow, oCmpI, oLt, oLe, oGt, oGe, oIs, oIsN, oEq, oNe, eqF, b64_of, oIx, seqOf, lstOf, cellItems, sStore, eSl, eO, oLen, oInt, oListOf, oTupOf, oMax, oMin, oSum, oGcd, intsOf, oIsi, tyName, oNeg, eM1, eM0, isLst, oApp, oExt, oPopAt, oPop, fin_i, fin_b, fin_n, fin_s, fin_t2, at0, at1, at2, at3, at4, cut1, ix0, ix1, ix2, g1, g2]) ?_
    refine seq_if (by simp [fnS, eV, eC, Mm.e1, Mm.e2, eN, aN, aC, eCall, eTup, eLst, eIf, eCh, eAndT, eOrT, eNotT, bB, bAnd, bOr, bNot, bTru, tru, sSeq, sSet, sEx, sRet, sRetN, sNx, sNo, sBrk, sCt, sIf, sPar, sPar3, sAsg, tgN, tgNil, tgCons, tgTup, Mm.R.bind, Mm.R.of, Mm.R.st, oAdd, oSub, mul_i, oDiv, oMod, oPow, oCmpI, oLt, oLe, oGt, oGe, oIs, oIsN, oEq, oNe, eqF, b64_of, oIx, seqOf, lstOf, cellItems, sStore, eSl, eO, oLen, oInt, oListOf, oTupOf, oMax, oMin, oSum, oGcd, intsOf, oIsi, tyName, oNeg, eM1, eM0, isLst, oApp, oExt, oPopAt, oPop, fin_i, fin_b, fin_n, fin_s, fin_t2, at0, at1, at2, at3, at4, cut1, ix0, ix1, ix2, is_whole_ok, b4]) ?_
    refine seq_if (by simp [fnS, eV, eC, Mm.e1, Mm.e2, eN, aN, aC, eCall, eTup, eLst, eIf, eCh, eAndT, eOrT, eNotT, bB, bAnd, bOr, bNot, bTru, tru, sSeq, sSet, sEx, sRet, sRetN, sNx, sNo, sBrk, sCt, sIf, sPar, sPar3, sAsg, tgN, tgNil, tgCons, tgTup, Mm.R.bind, Mm.R.of, Mm.R.st, oAdd, oSub, mul_i, oDiv, oMod, oPow, oCmpI, oLt, oLe, oGt, oGe, oIs, oIsN, oEq, oNe, eqF, b64_of, oIx, seqOf, lstOf, cellItems, sStore, eSl, eO, oLen, oInt, oListOf, oTupOf, oMax, oMin, oSum, oGcd, intsOf, oIsi, tyName, oNeg, eM1, eM0, isLst, oApp, oExt, oPopAt, oPop, fin_i, fin_b, fin_n, fin_s, fin_t2, at0, at1, at2, at3, at4, cut1, ix0, ix1, ix2, b3, hz]) ?_
    refine seq_if (by simp [fnS, eV, eC, Mm.e1, Mm.e2, eN, aN, aC, eCall, eTup, eLst, eIf, eCh, eAndT, eOrT, eNotT, bB, bAnd, bOr, bNot, bTru, tru, sSeq, sSet, sEx, sRet, sRetN, sNx, sNo, sBrk, sCt, sIf, sPar, sPar3, sAsg, tgN, tgNil, tgCons, tgTup, Mm.R.bind, Mm.R.of, Mm.R.st, oAdd, oSub, mul_i, oDiv, oMod, oPow, oCmpI, oLt, oLe, oGt, oGe, oIs, oIsN, oEq, oNe, eqF, b64_of, oIx, seqOf, lstOf, cellItems, sStore, eSl, eO, oLen, oInt, oListOf, oTupOf, oMax, oMin, oSum, oGcd, intsOf, oIsi, tyName, oNeg, eM1, eM0, isLst, oApp, oExt, oPopAt, oPop, fin_i, fin_b, fin_n, fin_s, fin_t2, at0, at1, at2, at3, at4, cut1, ix0, ix1, ix2, g5', g6]) ?_
    refine seq_if ?_ ?_
    · refine or_ff (by simp [fnS, eV, eC, Mm.e1, Mm.e2, eN, aN, aC, eCall, eTup, eLst, eIf, eCh, eAndT, eOrT, eNotT, bB, bAnd, bOr, bNot, bTru, tru, sSeq, sSet, sEx, sRet, sRetN, sNx, sNo, sBrk, sCt, sIf, sPar, sPar3, sAsg, tgN, tgNil, tgCons, tgTup, Mm.R.bind, Mm.R.of, Mm.R.st, oAdd, oSub, mul_i, oDiv, oMod, oPow, oCmpI, oLt, oLe, oGt, oGe, oIs, oIsN, oEq, oNe, eqF, b64_of, oIx, seqOf, lstOf, cellItems, sStore, eSl, eO, oLen, oInt, oListOf, oTupOf, oMax, oMin, oSum, oGcd, intsOf, oIsi, tyName, oNeg, eM1, eM0, isLst, oApp, oExt, oPopAt, oPop, fin_i, fin_b, fin_n, fin_s, fin_t2, at0, at1, at2, at3, at4, cut1, ix0, ix1, ix2, b1, hpq]) (or_ff (by simp [fnS, eV, eC, Mm.e1, Mm.e2, eN, aN, aC, eCall, eTup, eLst, eIf, eCh, eAndT, eOrT, eNotT, bB, bAnd, bOr, bNot, bTru, tru, sSeq, sSet, sEx, sRet, sRetN, sNx, sNo, sBrk, sCt, sIf, sPar, sPar3, sAsg, tgN, tgNil, tgCons, tgTup, Mm.R.bind, Mm.R.of, Mm.R.st, oAdd, oSub, mul_i, oDiv, oMod, oPow, oCmpI, oLt, oLe, oGt, oGe, oIs, oIsN, oEq, oNe, eqF, b64_of, oIx, seqOf, lstOf, cellItems, sStore, eSl, eO, oLen, oInt, oListOf, oTupOf, oMax, oMin, oSum, oGcd, intsOf, oIsi, tyName, oNeg, eM1, eM0, isLst, oApp, oExt, oPopAt, oPop, fin_i, fin_b, fin_n, fin_s, fin_t2, at0, at1, at2, at3, at4, cut1, ix0, ix1, ix2, b2, hpq]) ?_)
      by_cases hn1 : (n : Int) = 1
      · exact and_t (by simp [fnS, eV, eC, Mm.e1, Mm.e2, eN, aN, aC, eCall, eTup, eLst, eIf, eCh, eAndT, eOrT, eNotT, bB, bAnd, bOr, bNot, bTru, tru, sSeq, sSet, sEx, sRet, sRetN, sNx, sNo, sBrk, sCt, sIf, sPar, sPar3, sAsg, tgN, tgNil, tgCons, tgTup, Mm.R.bind, Mm.R.of, Mm.R.st, oAdd, oSub, mul_i, oDiv, oMod, oPow, oCmpI, oLt, oLe, oGt, oGe, oIs, oIsN, oEq, oNe, eqF, b64_of, oIx, seqOf, lstOf, cellItems, sStore, eSl, eO, oLen, oInt, oListOf, oTupOf, oMax, oMin, oSum, oGcd, intsOf, oIsi, tyName, oNeg, eM1, eM0, isLst, oApp, oExt, oPopAt, oPop, fin_i, fin_b, fin_n, fin_s, fin_t2, at0, at1, at2, at3, at4, cut1, ix0, ix1, ix2, hn1]) (by simp [fnS, eV, eC, Mm.e1, Mm.e2, eN, aN, aC, eCall, eTup, eLst, eIf, eCh, eAndT, eOrT, eNotT, bB, bAnd, bOr, bNot, bTru, tru, sSeq, sSet, sEx, sRet, sRetN, sNx, sNo, sBrk, sCt, sIf, sPar, sPar3, sAsg, tgN, tgNil, tgCons, tgTup, Mm.R.bind, Mm.R.of, Mm.R.st, oAdd, oSub, mul_i, oDiv, oMod, oPow, oCmpI, oLt, oLe, oGt, oGe, oIs, oIsN, oEq, oNe, eqF, b64_of, oIx, seqOf, lstOf, cellItems, sStore, eSl, eO, oLen, oInt, oListOf, oTupOf, oMax, oMin, oSum, oGcd, intsOf, oIsi, tyName, oNeg, eM1, eM0, isLst, oApp, oExt, oPopAt, oPop, fin_i, fin_b, fin_n, fin_s, fin_t2, at0, at1, at2, at3, at4, cut1, ix0, ix1, ix2, hpq, b5 hn1])
      · exact and_f (by simp [fnS, eV, eC, Mm.e1, Mm.e2, eN, aN, aC, eCall, eTup, eLst, eIf, eCh, eAndT, eOrT, eNotT, bB, bAnd, bOr, bNot, bTru, tru, sSeq, sSet, sEx, sRet, sRetN, sNx, sNo, sBrk, sCt, sIf, sPar, sPar3, sAsg, tgN, tgNil, tgCons, tgTup, Mm.R.bind, Mm.R.of, Mm.R.st, oAdd, oSub, mul_i, oDiv, oMod, oPow, oCmpI, oLt, oLe, oGt, oGe, oIs, oIsN, oEq, oNe, eqF, b64_of, oIx, seqOf, lstOf, cellItems, sStore, eSl, eO, oLen, oInt, oListOf, oTupOf, oMax, oMin, oSum, oGcd, intsOf, oIsi, tyName, oNeg, eM1, eM0, isLst, oApp, oExt, oPopAt, oPop, fin_i, fin_b, fin_n, fin_s, fin_t2, at0, at1, at2, at3, at4, cut1, ix0, ix1, ix2, hn1])
    refine seq_if d6 ?_
    refine seq_nx (e1 := [some (.int k), some (.int n), some (.int t), some (.tup [.int p, .int q]), some (.int ((p : Int) * k * n - (2 * n - 1) * q))]) (st1 := st) ?_ ?_
    · simp [fnS, eV, eC, Mm.e1, Mm.e2, eN, aN, aC, eCall, eTup, eLst, eIf, eCh, eAndT, eOrT, eNotT, bB, bAnd, bOr, bNot, bTru, tru, sSeq, sSet, sEx, sRet, sRetN, sNx, sNo, sBrk, sCt, sIf, sPar, sPar3, sAsg, tgN, tgNil, tgCons, tgTup, Mm.R.bind, Mm.R.of, Mm.R.st, oAdd, oSub, mul_i, oDiv, oMod, oPow, oCmpI, oLt, oLe, oGt, oGe, oIs, oIsN, oEq, oNe, eqF, b64_of, oIx, seqOf, lstOf, cellItems, sStore, eSl, eO, oLen, oInt, oListOf, oTupOf, oMax, oMin, oSum, oGcd, intsOf, oIsi, tyName, oNeg, eM1, eM0, isLst, oApp, oExt, oPopAt, oPop, fin_i, fin_b, fin_n, fin_s, fin_t2, at0, at1, at2, at3, at4, cut1, ix0, ix1, ix2, hpq, hnn, hqq]
    · simp [fnS, eV, eC, Mm.e1, Mm.e2, eN, aN, aC, eCall, eTup, eLst, eIf, eCh, eAndT, eOrT, eNotT, bB, bAnd, bOr, bNot, bTru, tru, sSeq, sSet, sEx, sRet, sRetN, sNx, sNo, sBrk, sCt, sIf, sPar, sPar3, sAsg, tgN, tgNil, tgCons, tgTup, Mm.R.bind, Mm.R.of, Mm.R.st, oAdd, oSub, mul_i, oDiv, oMod, oPow, oCmpI, oLt, oLe, oGt, oGe, oIs, oIsN, oEq, oNe, eqF, b64_of, oIx, seqOf, lstOf, cellItems, sStore, eSl, eO, oLen, oInt, oListOf, oTupOf, oMax, oMin, oSum, oGcd, intsOf, oIsi, tyName, oNeg, eM1, eM0, isLst, oApp, oExt, oPopAt, oPop, fin_i, fin_b, fin_n, fin_s, fin_t2, at0, at1, at2, at3, at4, cut1, ix0, ix1, ix2, hpq, hnn, hqq, hn2, a4, a5]

end Gk34

namespace Gk34
open Mm
def tt (k n : Nat) : Nat := k / (2 * n - 1)
def told (k n : Nat) : D := if tt k n = 0 then .non else lowT 2 (k + tt k n)
theorem low_eq (s : Nat) (hs : 1 ≤ s) : ∃ p q g : Nat, lowT 2 s = .tup [.int p, .int q] ∧ (g = 1 ∨ g = 2) ∧ p * g = 2 ∧ q * g = s := by
  have h : Nat.gcd 2 s ∣ 2 := Nat.gcd_dvd_left 2 s
  have h2 : Nat.gcd 2 s ≤ 2 := Nat.le_of_dvd (by decide) h
  have h3 : 0 < Nat.gcd 2 s := Nat.gcd_pos_of_pos_left s (by decide)
  refine ⟨2 / Nat.gcd 2 s, s / Nat.gcd 2 s, Nat.gcd 2 s, rfl, by omega, Nat.div_mul_cancel h, Nat.div_mul_cancel (Nat.gcd_dvd_right 2 s)⟩
theorem tt_down (k n : Nat) (h : 1 ≤ n) : tt k (n + 1) ≤ tt k n := Nat.div_le_div_left (by omega) (by omega)
theorem tt_up (k k' n : Nat) (h : k ≤ k') : tt k n ≤ tt k' n := Nat.div_le_div_right h
/-- 2 / s, compared with 2 / s' where s' is not less -/
theorem frac_le (p q g p' q' g' s s' : Nat) (hg : g = 1 ∨ g = 2) (hg' : g' = 1 ∨ g' = 2) (h1 : p * g = 2) (h2 : q * g = s) (h3 : p' * g' = 2) (h4 : q' * g' = s') (h : s ≤ s') : (p' : Int) * q ≤ p * q' := by
  rcases hg with rfl | rfl <;> rcases hg' with rfl | rfl
  · have a : p = 2 := by omega
    have b : p' = 2 := by omega
    subst a; subst b; omega
  · have a : p = 2 := by omega
    have b : p' = 1 := by omega
    subst a; subst b; omega
  · have a : p = 1 := by omega
    have b : p' = 2 := by omega
    subst a; subst b; omega
  · have a : p = 1 := by omega
    have b : p' = 1 := by omega
    subst a; subst b; omega
/-- what stands before the turn m of the law's loop -/
def Inv (k k' : Nat) (sc : D) (m : Nat) (e : Mm.Env) : Prop := ∃ la c0 c1 x6 x7 x8 x9, e = [some sc, some (.ref 3), some (.int k), some (.int k'), some la, some (.tup [.int c0, .int c1]), x6, x7, x8, x9] ∧
  0 ≤ c0 ∧ c0 ≤ 1000 ∧ 0 ≤ c1 ∧ ((m = 1 ∧ la = .non ∧ c0 = 0) ∨ (2 ≤ m ∧ la = .int (tt k (m - 1) : Nat) ∧ (tt k (m - 1) ≠ 0 → told k (m - 1) = .tup [.int c0, .int c1])))

theorem fin_any (st st' : Sto) (b : Bool) : ∃ s2, fin st (.bl b) st' = .ok (.bl b) s2 := by
  unfold fin
  split
  · exact ⟨_, if_pos rfl⟩
  · exact ⟨_, rfl⟩
theorem told_some (k n : Nat) (h : 1 ≤ k) (hz : tt k n ≠ 0) : ∃ p q g : Nat, told k n = .tup [.int p, .int q] ∧ (g = 1 ∨ g = 2) ∧ p * g = 2 ∧ q * g = k + tt k n := by
  obtain ⟨p, q, g, h1, h2⟩ := low_eq (k + tt k n) (by omega)
  exact ⟨p, q, g, by rw [told, if_neg hz, h1], h2⟩
theorem step_ok (k k' m : Nat) (sc : D) (st : Sto) (e : Mm.Env) (h1 : 1 ≤ k) (h2 : k ≤ 60) (h3 : k ≤ k') (h4 : k' ≤ 60) (h5 : 1 ≤ m) (h6 : m ≤ 30) (hi : Inv k k' sc m e) :
    ∃ e2, (sSeq (sIf (bNot (bTru (eCall s__law_more_right (aC (eV 2) (aC (eV 6) aN))))) (sRet (eC (.bl false))) sNx)
    (sSeq (sPar3 7 8 9 (eCall s_most (aC (eV 2) (aC (eV 6) aN))) (eCall s_least_density (aC (eV 2) (aC (eV 6) aN))) (eCall s_least_density (aC (eV 3) (aC (eV 6) aN))))
    (sSeq (sIf (bAnd (bB (Mm.e2 oIsN (eV 4) (eC .non))) (bB (Mm.e2 oGt (eV 7) (eV 4)))) (sRet (eC (.bl false))) sNx)
    (sSeq (sIf (bAnd (bB (Mm.e2 oIsN (eV 8) (eC .non))) (bOr (bB (Mm.e2 oLt (Mm.e2 oMul (Mm.e2 oIx (eV 8) (eC (.int 0))) (Mm.e2 oIx (eV 5) (eC (.int 1)))) (Mm.e2 oMul (Mm.e2 oIx (eV 5) (eC (.int 0))) (Mm.e2 oIx (eV 8) (eC (.int 1)))))) (bOr (bB (Mm.e2 oIs (eV 9) (eC .non))) (bB (Mm.e2 oGt (Mm.e2 oMul (Mm.e2 oIx (eV 9) (eC (.int 0))) (Mm.e2 oIx (eV 8) (eC (.int 1)))) (Mm.e2 oMul (Mm.e2 oIx (eV 8) (eC (.int 0))) (Mm.e2 oIx (eV 9) (eC (.int 1))))))))) (sRet (eC (.bl false))) sNx)
    (sPar 4 5 (eV 7) (eIf (bB (Mm.e2 oIsN (eV 8) (eC .non))) (eV 8) (eV 5))))))) (e.set 6 (some (.int m))) st = .nx e2 st ∧ Inv k k' sc (m + 1) e2 := by
  obtain ⟨la, c0, c1, x6, x7, x8, x9, rfl, i1, i2, i0, i3⟩ := hi
  have g0 := more_right_ok k m st h1 h2 h5 h6
  have g1 := most_ok k m st h1 h2 h5 h6
  have g2 := least_density_ok k m st h1 h2 h5 h6
  have g3 := least_density_ok k' m st (by omega) h4 h5 h6
  have g1 : s_most [.int k, .int m] st = .ok (.int (tt k m : Nat)) st := g1
  have g2 : s_least_density [.int k, .int m] st = .ok (told k m) st := g2
  have g3 : s_least_density [.int k', .int m] st = .ok (told k' m) st := g3
  have hla : bAnd (bB (Mm.e2 oIsN (eV 4) (eC .non))) (bB (Mm.e2 oGt (eV 7) (eV 4))) [some sc, some (.ref 3), some (.int k), some (.int k'), some la, some (.tup [.int c0, .int c1]), some (.int m), some (.int (tt k m : Nat)), some (told k m), some (told k' m)] st = .ok false st := by
    rcases i3 with ⟨_, rfl, _⟩ | ⟨hm, rfl, _⟩
    · exact and_f (by simp [fnS, eV, eC, Mm.e1, Mm.e2, eN, aN, aC, eCall, eTup, eLst, eIf, eCh, eAndT, eOrT, eNotT, bB, bAnd, bOr, bNot, bTru, tru, sSeq, sSet, sEx, sRet, sRetN, sNx, sNo, sBrk, sCt, sIf, sPar, sPar3, sAsg, tgN, tgNil, tgCons, tgTup, Mm.R.bind, Mm.R.of, Mm.R.st, oAdd, oSub, mul_i, oDiv, oMod, oPow, oCmpI, oLt, oLe, oGt, oGe, oIs, oIsN, oEq, oNe, eqF, b64_of, oIx, seqOf, lstOf, cellItems, sStore, eSl, eO, oLen, oInt, oListOf, oTupOf, oMax, oMin, oSum, oGcd, intsOf, oIsi, tyName, oNeg, eM1, eM0, isLst, oApp, oExt, oPopAt, oPop, fin_i, fin_b, fin_n, fin_s, fin_t2, at0, at1, at2, at3, at4, cut1, ix0, ix1, ix2])
    · have := tt_down k (m - 1) (by omega)
      rw [Nat.sub_add_cancel h5] at this
      exact and_t (by simp [fnS, eV, eC, Mm.e1, Mm.e2, eN, aN, aC, eCall, eTup, eLst, eIf, eCh, eAndT, eOrT, eNotT, bB, bAnd, bOr, bNot, bTru, tru, sSeq, sSet, sEx, sRet, sRetN, sNx, sNo, sBrk, sCt, sIf, sPar, sPar3, sAsg, tgN, tgNil, tgCons, tgTup, Mm.R.bind, Mm.R.of, Mm.R.st, oAdd, oSub, mul_i, oDiv, oMod, oPow, oCmpI, oLt, oLe, oGt, oGe, oIs, oIsN, oEq, oNe, eqF, b64_of, oIx, seqOf, lstOf, cellItems, sStore, eSl, eO, oLen, oInt, oListOf, oTupOf, oMax, oMin, oSum, oGcd, intsOf, oIsi, tyName, oNeg, eM1, eM0, isLst, oApp, oExt, oPopAt, oPop, fin_i, fin_b, fin_n, fin_s, fin_t2, at0, at1, at2, at3, at4, cut1, ix0, ix1, ix2]) (by simp [fnS, eV, eC, Mm.e1, Mm.e2, eN, aN, aC, eCall, eTup, eLst, eIf, eCh, eAndT, eOrT, eNotT, bB, bAnd, bOr, bNot, bTru, tru, sSeq, sSet, sEx, sRet, sRetN, sNx, sNo, sBrk, sCt, sIf, sPar, sPar3, sAsg, tgN, tgNil, tgCons, tgTup, Mm.R.bind, Mm.R.of, Mm.R.st, oAdd, oSub, mul_i, oDiv, oMod, oPow, oCmpI, oLt, oLe, oGt, oGe, oIs, oIsN, oEq, oNe, eqF, b64_of, oIx, seqOf, lstOf, cellItems, sStore, eSl, eO, oLen, oInt, oListOf, oTupOf, oMax, oMin, oSum, oGcd, intsOf, oIsi, tyName, oNeg, eM1, eM0, isLst, oApp, oExt, oPopAt, oPop, fin_i, fin_b, fin_n, fin_s, fin_t2, at0, at1, at2, at3, at4, cut1, ix0, ix1, ix2]; exact this)
  by_cases hz : tt k m = 0
  · have ht : told k m = .non := by rw [told, if_pos hz]
    refine ⟨[some sc, some (.ref 3), some (.int k), some (.int k'), some (.int (tt k m : Nat)), some (.tup [.int c0, .int c1]), some (.int m), some (.int (tt k m : Nat)), some (told k m), some (told k' m)], ?_, ⟨_, _, _, _, _, _, _, rfl, i1, i2, i0, .inr ⟨by omega, by simp, fun q => absurd hz (by simpa using q)⟩⟩⟩
    simp only [List.set]
    refine seq_if (by simp [fnS, eV, eC, Mm.e1, Mm.e2, eN, aN, aC, eCall, eTup, eLst, eIf, eCh, eAndT, eOrT, eNotT, bB, bAnd, bOr, bNot, bTru, tru, sSeq, sSet, sEx, sRet, sRetN, sNx, sNo, sBrk, sCt, sIf, sPar, sPar3, sAsg, tgN, tgNil, tgCons, tgTup, Mm.R.bind, Mm.R.of, Mm.R.st, oAdd, oSub, mul_i, oDiv, oMod, oPow, oCmpI, oLt, oLe, oGt, oGe, oIs, oIsN, oEq, oNe, eqF, b64_of, oIx, seqOf, lstOf, cellItems, sStore, eSl, eO, oLen, oInt, oListOf, oTupOf, oMax, oMin, oSum, oGcd, intsOf, oIsi, tyName, oNeg, eM1, eM0, isLst, oApp, oExt, oPopAt, oPop, fin_i, fin_b, fin_n, fin_s, fin_t2, at0, at1, at2, at3, at4, cut1, ix0, ix1, ix2, g0]) ?_
    refine seq_nx (e1 := [some sc, some (.ref 3), some (.int k), some (.int k'), some la, some (.tup [.int c0, .int c1]), some (.int m), some (.int (tt k m : Nat)), some (told k m), some (told k' m)]) (st1 := st) (by simp [fnS, eV, eC, Mm.e1, Mm.e2, eN, aN, aC, eCall, eTup, eLst, eIf, eCh, eAndT, eOrT, eNotT, bB, bAnd, bOr, bNot, bTru, tru, sSeq, sSet, sEx, sRet, sRetN, sNx, sNo, sBrk, sCt, sIf, sPar, sPar3, sAsg, tgN, tgNil, tgCons, tgTup, Mm.R.bind, Mm.R.of, Mm.R.st, oAdd, oSub, mul_i, oDiv, oMod, oPow, oCmpI, oLt, oLe, oGt, oGe, oIs, oIsN, oEq, oNe, eqF, b64_of, oIx, seqOf, lstOf, cellItems, sStore, eSl, eO, oLen, oInt, oListOf, oTupOf, oMax, oMin, oSum, oGcd, intsOf, oIsi, tyName, oNeg, eM1, eM0, isLst, oApp, oExt, oPopAt, oPop, fin_i, fin_b, fin_n, fin_s, fin_t2, at0, at1, at2, at3, at4, cut1, ix0, ix1, ix2, g1, g2, g3]) ?_
    refine seq_if hla ?_
    rw [ht]
    refine seq_if (by simp [fnS, eV, eC, Mm.e1, Mm.e2, eN, aN, aC, eCall, eTup, eLst, eIf, eCh, eAndT, eOrT, eNotT, bB, bAnd, bOr, bNot, bTru, tru, sSeq, sSet, sEx, sRet, sRetN, sNx, sNo, sBrk, sCt, sIf, sPar, sPar3, sAsg, tgN, tgNil, tgCons, tgTup, Mm.R.bind, Mm.R.of, Mm.R.st, oAdd, oSub, mul_i, oDiv, oMod, oPow, oCmpI, oLt, oLe, oGt, oGe, oIs, oIsN, oEq, oNe, eqF, b64_of, oIx, seqOf, lstOf, cellItems, sStore, eSl, eO, oLen, oInt, oListOf, oTupOf, oMax, oMin, oSum, oGcd, intsOf, oIsi, tyName, oNeg, eM1, eM0, isLst, oApp, oExt, oPopAt, oPop, fin_i, fin_b, fin_n, fin_s, fin_t2, at0, at1, at2, at3, at4, cut1, ix0, ix1, ix2]) ?_
    simp [fnS, eV, eC, Mm.e1, Mm.e2, eN, aN, aC, eCall, eTup, eLst, eIf, eCh, eAndT, eOrT, eNotT, bB, bAnd, bOr, bNot, bTru, tru, sSeq, sSet, sEx, sRet, sRetN, sNx, sNo, sBrk, sCt, sIf, sPar, sPar3, sAsg, tgN, tgNil, tgCons, tgTup, Mm.R.bind, Mm.R.of, Mm.R.st, oAdd, oSub, mul_i, oDiv, oMod, oPow, oCmpI, oLt, oLe, oGt, oGe, oIs, oIsN, oEq, oNe, eqF, b64_of, oIx, seqOf, lstOf, cellItems, sStore, eSl, eO, oLen, oInt, oListOf, oTupOf, oMax, oMin, oSum, oGcd, intsOf, oIsi, tyName, oNeg, eM1, eM0, isLst, oApp, oExt, oPopAt, oPop, fin_i, fin_b, fin_n, fin_s, fin_t2, at0, at1, at2, at3, at4, cut1, ix0, ix1, ix2]
  · obtain ⟨p, q, g, t1, t2, t3, t4⟩ := told_some k m h1 hz
    have hz' : tt k' m ≠ 0 := by have := tt_up k k' m h3; omega
    obtain ⟨p', q', g', u1, u2, u3, u4⟩ := told_some k' m (by omega) hz'
    have hf : (p' : Int) * q ≤ p * q' := frac_le p q g p' q' g' _ _ t2 u2 t3 t4 u3 u4 (by have := tt_up k k' m h3; omega)
    have hp : p ≤ 2 := by rcases t2 with rfl | rfl <;> omega
    have hp' : p' ≤ 2 := by rcases u2 with rfl | rfl <;> omega
    have hbp : b64 (p : Int) = true := b64_nat (by omega)
    have hbp' : b64 (p' : Int) = true := b64_nat (by omega)
    have hbc : b64 c0 = true := b64_of (by omega) (by omega)
    have hc : c0 * q ≤ p * c1 := by
      rcases i3 with ⟨_, _, rfl⟩ | ⟨hm, _, i4⟩
      · rw [Int.zero_mul]; exact Int.mul_nonneg (by omega) i0
      · have hd := tt_down k (m - 1) (by omega)
        rw [Nat.sub_add_cancel h5] at hd
        have hz2 : tt k (m - 1) ≠ 0 := by omega
        obtain ⟨p2, q2, g4, w1, w2, w3, w4⟩ := told_some k (m - 1) h1 hz2
        have e := (i4 hz2).symm.trans w1
        simp only [D.tup.injEq, List.cons.injEq, D.int.injEq, and_true] at e
        rw [e.1, e.2]
        exact frac_le p q g p2 q2 g4 _ _ t2 w2 t3 t4 w3 w4 (by omega)
    refine ⟨[some sc, some (.ref 3), some (.int k), some (.int k'), some (.int (tt k m : Nat)), some (told k m), some (.int m), some (.int (tt k m : Nat)), some (told k m), some (told k' m)], ?_, ⟨.int (tt k m : Nat), p, q, _, _, _, _, by rw [t1], by omega, by omega, by omega, .inr ⟨by omega, by simp, fun _ => by simpa using t1⟩⟩⟩
    simp only [List.set]
    refine seq_if (by simp [fnS, eV, eC, Mm.e1, Mm.e2, eN, aN, aC, eCall, eTup, eLst, eIf, eCh, eAndT, eOrT, eNotT, bB, bAnd, bOr, bNot, bTru, tru, sSeq, sSet, sEx, sRet, sRetN, sNx, sNo, sBrk, sCt, sIf, sPar, sPar3, sAsg, tgN, tgNil, tgCons, tgTup, Mm.R.bind, Mm.R.of, Mm.R.st, oAdd, oSub, mul_i, oDiv, oMod, oPow, oCmpI, oLt, oLe, oGt, oGe, oIs, oIsN, oEq, oNe, eqF, b64_of, oIx, seqOf, lstOf, cellItems, sStore, eSl, eO, oLen, oInt, oListOf, oTupOf, oMax, oMin, oSum, oGcd, intsOf, oIsi, tyName, oNeg, eM1, eM0, isLst, oApp, oExt, oPopAt, oPop, fin_i, fin_b, fin_n, fin_s, fin_t2, at0, at1, at2, at3, at4, cut1, ix0, ix1, ix2, g0]) ?_
    refine seq_nx (e1 := [some sc, some (.ref 3), some (.int k), some (.int k'), some la, some (.tup [.int c0, .int c1]), some (.int m), some (.int (tt k m : Nat)), some (told k m), some (told k' m)]) (st1 := st) (by simp [fnS, eV, eC, Mm.e1, Mm.e2, eN, aN, aC, eCall, eTup, eLst, eIf, eCh, eAndT, eOrT, eNotT, bB, bAnd, bOr, bNot, bTru, tru, sSeq, sSet, sEx, sRet, sRetN, sNx, sNo, sBrk, sCt, sIf, sPar, sPar3, sAsg, tgN, tgNil, tgCons, tgTup, Mm.R.bind, Mm.R.of, Mm.R.st, oAdd, oSub, mul_i, oDiv, oMod, oPow, oCmpI, oLt, oLe, oGt, oGe, oIs, oIsN, oEq, oNe, eqF, b64_of, oIx, seqOf, lstOf, cellItems, sStore, eSl, eO, oLen, oInt, oListOf, oTupOf, oMax, oMin, oSum, oGcd, intsOf, oIsi, tyName, oNeg, eM1, eM0, isLst, oApp, oExt, oPopAt, oPop, fin_i, fin_b, fin_n, fin_s, fin_t2, at0, at1, at2, at3, at4, cut1, ix0, ix1, ix2, g1, g2, g3]) ?_
    refine seq_if hla ?_
    rw [t1, u1]
    refine seq_if ?_ ?_
    · refine and_t (by simp [fnS, eV, eC, Mm.e1, Mm.e2, eN, aN, aC, eCall, eTup, eLst, eIf, eCh, eAndT, eOrT, eNotT, bB, bAnd, bOr, bNot, bTru, tru, sSeq, sSet, sEx, sRet, sRetN, sNx, sNo, sBrk, sCt, sIf, sPar, sPar3, sAsg, tgN, tgNil, tgCons, tgTup, Mm.R.bind, Mm.R.of, Mm.R.st, oAdd, oSub, mul_i, oDiv, oMod, oPow, oCmpI, oLt, oLe, oGt, oGe, oIs, oIsN, oEq, oNe, eqF, b64_of, oIx, seqOf, lstOf, cellItems, sStore, eSl, eO, oLen, oInt, oListOf, oTupOf, oMax, oMin, oSum, oGcd, intsOf, oIsi, tyName, oNeg, eM1, eM0, isLst, oApp, oExt, oPopAt, oPop, fin_i, fin_b, fin_n, fin_s, fin_t2, at0, at1, at2, at3, at4, cut1, ix0, ix1, ix2]) (or_ff ?_ (or_ff ?_ ?_))
      · simp [fnS, eV, eC, Mm.e1, Mm.e2, eN, aN, aC, eCall, eTup, eLst, eIf, eCh, eAndT, eOrT, eNotT, bB, bAnd, bOr, bNot, bTru, tru, sSeq, sSet, sEx, sRet, sRetN, sNx, sNo, sBrk, sCt, sIf, sPar, sPar3, sAsg, tgN, tgNil, tgCons, tgTup, Mm.R.bind, Mm.R.of, Mm.R.st, oAdd, oSub, mul_i, oDiv, oMod, oPow, oCmpI, oLt, oLe, oGt, oGe, oIs, oIsN, oEq, oNe, eqF, b64_of, oIx, seqOf, lstOf, cellItems, sStore, eSl, eO, oLen, oInt, oListOf, oTupOf, oMax, oMin, oSum, oGcd, intsOf, oIsi, tyName, oNeg, eM1, eM0, isLst, oApp, oExt, oPopAt, oPop, fin_i, fin_b, fin_n, fin_s, fin_t2, at0, at1, at2, at3, at4, cut1, ix0, ix1, ix2, hbp, hbc]; exact hc
      · simp [fnS, eV, eC, Mm.e1, Mm.e2, eN, aN, aC, eCall, eTup, eLst, eIf, eCh, eAndT, eOrT, eNotT, bB, bAnd, bOr, bNot, bTru, tru, sSeq, sSet, sEx, sRet, sRetN, sNx, sNo, sBrk, sCt, sIf, sPar, sPar3, sAsg, tgN, tgNil, tgCons, tgTup, Mm.R.bind, Mm.R.of, Mm.R.st, oAdd, oSub, mul_i, oDiv, oMod, oPow, oCmpI, oLt, oLe, oGt, oGe, oIs, oIsN, oEq, oNe, eqF, b64_of, oIx, seqOf, lstOf, cellItems, sStore, eSl, eO, oLen, oInt, oListOf, oTupOf, oMax, oMin, oSum, oGcd, intsOf, oIsi, tyName, oNeg, eM1, eM0, isLst, oApp, oExt, oPopAt, oPop, fin_i, fin_b, fin_n, fin_s, fin_t2, at0, at1, at2, at3, at4, cut1, ix0, ix1, ix2]
      · simp [fnS, eV, eC, Mm.e1, Mm.e2, eN, aN, aC, eCall, eTup, eLst, eIf, eCh, eAndT, eOrT, eNotT, bB, bAnd, bOr, bNot, bTru, tru, sSeq, sSet, sEx, sRet, sRetN, sNx, sNo, sBrk, sCt, sIf, sPar, sPar3, sAsg, tgN, tgNil, tgCons, tgTup, Mm.R.bind, Mm.R.of, Mm.R.st, oAdd, oSub, mul_i, oDiv, oMod, oPow, oCmpI, oLt, oLe, oGt, oGe, oIs, oIsN, oEq, oNe, eqF, b64_of, oIx, seqOf, lstOf, cellItems, sStore, eSl, eO, oLen, oInt, oListOf, oTupOf, oMax, oMin, oSum, oGcd, intsOf, oIsi, tyName, oNeg, eM1, eM0, isLst, oApp, oExt, oPopAt, oPop, fin_i, fin_b, fin_n, fin_s, fin_t2, at0, at1, at2, at3, at4, cut1, ix0, ix1, ix2, hbp, hbp']; exact hf
    simp [fnS, eV, eC, Mm.e1, Mm.e2, eN, aN, aC, eCall, eTup, eLst, eIf, eCh, eAndT, eOrT, eNotT, bB, bAnd, bOr, bNot, bTru, tru, sSeq, sSet, sEx, sRet, sRetN, sNx, sNo, sBrk, sCt, sIf, sPar, sPar3, sAsg, tgN, tgNil, tgCons, tgTup, Mm.R.bind, Mm.R.of, Mm.R.st, oAdd, oSub, mul_i, oDiv, oMod, oPow, oCmpI, oLt, oLe, oGt, oGe, oIs, oIsN, oEq, oNe, eqF, b64_of, oIx, seqOf, lstOf, cellItems, sStore, eSl, eO, oLen, oInt, oListOf, oTupOf, oMax, oMin, oSum, oGcd, intsOf, oIsi, tyName, oNeg, eM1, eM0, isLst, oApp, oExt, oPopAt, oPop, fin_i, fin_b, fin_n, fin_s, fin_t2, at0, at1, at2, at3, at4, cut1, ix0, ix1, ix2]

theorem ups (m n : Nat) (h : m < n) : intsUp m (n - m) = .int m :: intsUp ((m + 1 : Nat) : Int) (n - (m + 1)) := by
  rw [show n - m = (n - (m + 1)) + 1 by omega]
  rfl
theorem law_true (ns : List Int) (h : ns.length ≤ 63) : ∃ st', s_law [.ref 0] [.ro (ns.map D.int)] = .ok (.bl true) st' := by
  obtain ⟨st1, p1, q1⟩ := pool_ok ns h
  obtain ⟨r1, st2, p2, _, _, q2⟩ := draw_ok (many := 4) q1 rfl (by decide) (by decide)
  obtain ⟨many, hmany⟩ : ∃ many : Int, many = if r1 = 0 then 60 else 12 := ⟨_, rfl⟩
  have hm1 : 1 ≤ many ∧ many ≤ 60 := by rw [hmany]; split <;> decide
  obtain ⟨r2, st3, p3, a3, b3, q3⟩ := draw_ok (many := many) q2 rfl (by omega) (by omega)
  obtain ⟨r3, st4, p4, a4, b4, q4⟩ := draw_ok (many := 9) q3 rfl (by decide) (by decide)
  obtain ⟨k, hk⟩ : ∃ k : Nat, (k : Int) = 1 + r2 := ⟨(1 + r2).toNat, by omega⟩
  obtain ⟨k', hk'⟩ : ∃ k' : Nat, (k' : Int) = if 1 + r2 + 1 + r3 < 60 then 1 + r2 + 1 + r3 else 60 := ⟨(if 1 + r2 + 1 + r3 < 60 then 1 + r2 + 1 + r3 else 60).toNat, by split <;> omega⟩
  have hkk : k ≤ k' ∧ k' ≤ 60 := by split at hk' <;> omega
  have hk2 : (k : Int) + 1 + r3 < 60 ↔ 1 + r2 + 1 + r3 < 60 := by omega
  obtain ⟨st', hs⟩ := fin_any [Cell.ro (ns.map D.int)] st4 true
  refine ⟨st', ?_⟩
  unfold s_law
  refine fn_ret (d := .bl true) (st' := st4) ?_ hs
  refine seq_nx (e1 := [some (.ref 0), some (.ref 3), none, none, none, none, none, none, none, none]) (st1 := st1) (by simp [fnS, eV, eC, Mm.e1, Mm.e2, eN, aN, aC, eCall, eTup, eLst, eIf, eCh, eAndT, eOrT, eNotT, bB, bAnd, bOr, bNot, bTru, tru, sSeq, sSet, sEx, sRet, sRetN, sNx, sNo, sBrk, sCt, sIf, sPar, sPar3, sAsg, tgN, tgNil, tgCons, tgTup, Mm.R.bind, Mm.R.of, Mm.R.st, oAdd, oSub, mul_i, oDiv, oMod, oPow, oCmpI, oLt, oLe, oGt, oGe, oIs, oIsN, oEq, oNe, eqF, b64_of, oIx, seqOf, lstOf, cellItems, sStore, eSl, eO, oLen, oInt, oListOf, oTupOf, oMax, oMin, oSum, oGcd, intsOf, oIsi, tyName, oNeg, eM1, eM0, isLst, oApp, oExt, oPopAt, oPop, fin_i, fin_b, fin_n, fin_s, fin_t2, at0, at1, at2, at3, at4, cut1, ix0, ix1, ix2, p1]) ?_
  refine seq_nx (e1 := [some (.ref 0), some (.ref 3), some (.int k), none, none, none, none, none, none, none]) (st1 := st3) ?_ ?_
  · by_cases hr : r1 = 0
    · rw [if_pos hr] at hmany; subst hmany
      simp [fnS, eV, eC, Mm.e1, Mm.e2, eN, aN, aC, eCall, eTup, eLst, eIf, eCh, eAndT, eOrT, eNotT, bB, bAnd, bOr, bNot, bTru, tru, sSeq, sSet, sEx, sRet, sRetN, sNx, sNo, sBrk, sCt, sIf, sPar, sPar3, sAsg, tgN, tgNil, tgCons, tgTup, Mm.R.bind, Mm.R.of, Mm.R.st, oAdd, oSub, mul_i, oDiv, oMod, oPow, oCmpI, oLt, oLe, oGt, oGe, oIs, oIsN, oEq, oNe, eqF, b64_of, oIx, seqOf, lstOf, cellItems, sStore, eSl, eO, oLen, oInt, oListOf, oTupOf, oMax, oMin, oSum, oGcd, intsOf, oIsi, tyName, oNeg, eM1, eM0, isLst, oApp, oExt, oPopAt, oPop, fin_i, fin_b, fin_n, fin_s, fin_t2, at0, at1, at2, at3, at4, cut1, ix0, ix1, ix2, p2, p3, hr, hk]
    · rw [if_neg hr] at hmany; subst hmany
      simp [fnS, eV, eC, Mm.e1, Mm.e2, eN, aN, aC, eCall, eTup, eLst, eIf, eCh, eAndT, eOrT, eNotT, bB, bAnd, bOr, bNot, bTru, tru, sSeq, sSet, sEx, sRet, sRetN, sNx, sNo, sBrk, sCt, sIf, sPar, sPar3, sAsg, tgN, tgNil, tgCons, tgTup, Mm.R.bind, Mm.R.of, Mm.R.st, oAdd, oSub, mul_i, oDiv, oMod, oPow, oCmpI, oLt, oLe, oGt, oGe, oIs, oIsN, oEq, oNe, eqF, b64_of, oIx, seqOf, lstOf, cellItems, sStore, eSl, eO, oLen, oInt, oListOf, oTupOf, oMax, oMin, oSum, oGcd, intsOf, oIsi, tyName, oNeg, eM1, eM0, isLst, oApp, oExt, oPopAt, oPop, fin_i, fin_b, fin_n, fin_s, fin_t2, at0, at1, at2, at3, at4, cut1, ix0, ix1, ix2, p2, p3, hr, hk]
  refine seq_nx (e1 := [some (.ref 0), some (.ref 3), some (.int k), some (.int k'), some .non, some (.tup [.int 0, .int 1]), none, none, none, none]) (st1 := st4) ?_ ?_
  · simp [fnS, eV, eC, Mm.e1, Mm.e2, eN, aN, aC, eCall, eTup, eLst, eIf, eCh, eAndT, eOrT, eNotT, bB, bAnd, bOr, bNot, bTru, tru, sSeq, sSet, sEx, sRet, sRetN, sNx, sNo, sBrk, sCt, sIf, sPar, sPar3, sAsg, tgN, tgNil, tgCons, tgTup, Mm.R.bind, Mm.R.of, Mm.R.st, oAdd, oSub, mul_i, oDiv, oMod, oPow, oCmpI, oLt, oLe, oGt, oGe, oIs, oIsN, oEq, oNe, eqF, b64_of, oIx, seqOf, lstOf, cellItems, sStore, eSl, eO, oLen, oInt, oListOf, oTupOf, oMax, oMin, oSum, oGcd, intsOf, oIsi, tyName, oNeg, eM1, eM0, isLst, oApp, oExt, oPopAt, oPop, fin_i, fin_b, fin_n, fin_s, fin_t2, at0, at1, at2, at3, at4, cut1, ix0, ix1, ix2, p4, hk', hk]
  refine seq_nxE ?_
  show ∃ e1 st1, forL (fun _ => true) (tgN 6) _ (intsUp ((1 : Nat) : Int) (31 - 1)) _ st4 = .nx e1 st1 ∧ _
  refine forL_wp (fun ds e s => ∃ m : Nat, 1 ≤ m ∧ m ≤ 31 ∧ ds = intsUp (m : Nat) (31 - m) ∧ s = st4 ∧ Inv k k' (.ref 0) m e) (fun r => ∃ e1 st1, r = .nx e1 st1 ∧ sRet (eC (.bl true)) e1 st1 = .ret (.bl true) st4) ?_ ?_ _ _ _ ⟨1, by decide, by decide, rfl, rfl, .non, 0, 1, _, _, _, _, rfl, by decide, by decide, by decide, .inl ⟨rfl, rfl, rfl⟩⟩
  · rintro d ds e s ⟨m, m1, m2, m3, rfl, m5⟩
    have hm : m < 31 := by
      refine Nat.lt_of_le_of_ne m2 fun q => ?_
      subst q
      cases m3
    rw [ups m 31 hm] at m3
    cases m3
    obtain ⟨e2, w1, w2⟩ := step_ok k k' m (.ref 0) s e (by omega) (by omega) hkk.1 hkk.2 m1 (by omega) m5
    refine ⟨rfl, _, rfl, ?_⟩
    rw [w1]
    exact ⟨m + 1, by omega, by omega, rfl, rfl, w2⟩
  · rintro e s ⟨m, m1, m2, m3, rfl, m5⟩
    exact ⟨rfl, e, s, rfl, rfl⟩

end Gk34

namespace Gk34
open PySem L2 Mm PySem.Spec PyProof.Rows
theorem all_mk {l : PySem.W.OpenLaw} {w : World} {K : PySem.W.Frag} {h : Heap} {mg : Str → Option Value} {fa : Addr} (X : K.In h) (G : h.Ns mainGlobals mg) (hfa : mg "law" = some (.ref fa))
    {f_0 : Addr} {od_0 an_0 : Option Addr} {sl_0 : Array (Option Value)} {oc_0 kV_0 dc_0 pm_0 cd_0 ct_0 : Value} (a_0 : PySem.W.nsIn K mainGlobals "is_number" = some (some (.ref f_0))) (l_0 : K.lookup f_0 = some ⟨oc_0, od_0, .func (PySem.W.fnOf "is_number" "is_number" (defArgs (topS 7)) (defBody (topS 7)) (defScope (topS 7)) .none kV_0 dc_0 pm_0 an_0 cd_0 ct_0), sl_0⟩) (c_0 : PySem.W.codeIn K cd_0 "is_number" = true) (k_0 : PySem.W.keepIn K (.ref f_0) = true)
    {f_1 : Addr} {od_1 an_1 : Option Addr} {sl_1 : Array (Option Value)} {oc_1 kV_1 dc_1 pm_1 cd_1 ct_1 : Value} (a_1 : PySem.W.nsIn K mainGlobals "is_within" = some (some (.ref f_1))) (l_1 : K.lookup f_1 = some ⟨oc_1, od_1, .func (PySem.W.fnOf "is_within" "is_within" (defArgs (topS 8)) (defBody (topS 8)) (defScope (topS 8)) .none kV_1 dc_1 pm_1 an_1 cd_1 ct_1), sl_1⟩) (c_1 : PySem.W.codeIn K cd_1 "is_within" = true) (k_1 : PySem.W.keepIn K (.ref f_1) = true)
    {f_2 : Addr} {od_2 an_2 : Option Addr} {sl_2 : Array (Option Value)} {oc_2 kV_2 dc_2 pm_2 cd_2 ct_2 : Value} (a_2 : PySem.W.nsIn K mainGlobals "check_many" = some (some (.ref f_2))) (l_2 : K.lookup f_2 = some ⟨oc_2, od_2, .func (PySem.W.fnOf "check_many" "check_many" (defArgs (topS 10)) (defBody (topS 10)) (defScope (topS 10)) .none kV_2 dc_2 pm_2 an_2 cd_2 ct_2), sl_2⟩) (c_2 : PySem.W.codeIn K cd_2 "check_many" = true) (k_2 : PySem.W.keepIn K (.ref f_2) = true)
    {f_3 : Addr} {od_3 an_3 : Option Addr} {sl_3 : Array (Option Value)} {oc_3 kV_3 dc_3 pm_3 cd_3 ct_3 : Value} (a_3 : PySem.W.nsIn K mainGlobals "made_k" = some (some (.ref f_3))) (l_3 : K.lookup f_3 = some ⟨oc_3, od_3, .func (PySem.W.fnOf "made_k" "made_k" (defArgs (topS 14)) (defBody (topS 14)) (defScope (topS 14)) .none kV_3 dc_3 pm_3 an_3 cd_3 ct_3), sl_3⟩) (c_3 : PySem.W.codeIn K cd_3 "made_k" = true) (k_3 : PySem.W.keepIn K (.ref f_3) = true)
    {f_4 : Addr} {od_4 an_4 : Option Addr} {sl_4 : Array (Option Value)} {oc_4 kV_4 dc_4 pm_4 cd_4 ct_4 : Value} (a_4 : PySem.W.nsIn K mainGlobals "most" = some (some (.ref f_4))) (l_4 : K.lookup f_4 = some ⟨oc_4, od_4, .func (PySem.W.fnOf "most" "most" (defArgs (topS 23)) (defBody (topS 23)) (defScope (topS 23)) .none kV_4 dc_4 pm_4 an_4 cd_4 ct_4), sl_4⟩) (c_4 : PySem.W.codeIn K cd_4 "most" = true) (k_4 : PySem.W.keepIn K (.ref f_4) = true)
    {f_5 : Addr} {od_5 an_5 : Option Addr} {sl_5 : Array (Option Value)} {oc_5 kV_5 dc_5 pm_5 cd_5 ct_5 : Value} (a_5 : PySem.W.nsIn K mainGlobals "lowest" = some (some (.ref f_5))) (l_5 : K.lookup f_5 = some ⟨oc_5, od_5, .func (PySem.W.fnOf "lowest" "lowest" (defArgs (topS 11)) (defBody (topS 11)) (defScope (topS 11)) .none kV_5 dc_5 pm_5 an_5 cd_5 ct_5), sl_5⟩) (c_5 : PySem.W.codeIn K cd_5 "lowest" = true) (k_5 : PySem.W.keepIn K (.ref f_5) = true)
    {f_6 : Addr} {od_6 an_6 : Option Addr} {sl_6 : Array (Option Value)} {oc_6 kV_6 dc_6 pm_6 cd_6 ct_6 : Value} (a_6 : PySem.W.nsIn K mainGlobals "least_density" = some (some (.ref f_6))) (l_6 : K.lookup f_6 = some ⟨oc_6, od_6, .func (PySem.W.fnOf "least_density" "least_density" (defArgs (topS 24)) (defBody (topS 24)) (defScope (topS 24)) .none kV_6 dc_6 pm_6 an_6 cd_6 ct_6), sl_6⟩) (c_6 : PySem.W.codeIn K cd_6 "least_density" = true) (k_6 : PySem.W.keepIn K (.ref f_6) = true)
    {f_7 : Addr} {od_7 an_7 : Option Addr} {sl_7 : Array (Option Value)} {oc_7 kV_7 dc_7 pm_7 cd_7 ct_7 : Value} (a_7 : PySem.W.nsIn K mainGlobals "_law_pool" = some (some (.ref f_7))) (l_7 : K.lookup f_7 = some ⟨oc_7, od_7, .func (PySem.W.fnOf "_law_pool" "_law_pool" (defArgs (topS 26)) (defBody (topS 26)) (defScope (topS 26)) .none kV_7 dc_7 pm_7 an_7 cd_7 ct_7), sl_7⟩) (c_7 : PySem.W.codeIn K cd_7 "_law_pool" = true) (k_7 : PySem.W.keepIn K (.ref f_7) = true)
    {f_8 : Addr} {od_8 an_8 : Option Addr} {sl_8 : Array (Option Value)} {oc_8 kV_8 dc_8 pm_8 cd_8 ct_8 : Value} (a_8 : PySem.W.nsIn K mainGlobals "_law_draw" = some (some (.ref f_8))) (l_8 : K.lookup f_8 = some ⟨oc_8, od_8, .func (PySem.W.fnOf "_law_draw" "_law_draw" (defArgs (topS 27)) (defBody (topS 27)) (defScope (topS 27)) .none kV_8 dc_8 pm_8 an_8 cd_8 ct_8), sl_8⟩) (c_8 : PySem.W.codeIn K cd_8 "_law_draw" = true) (k_8 : PySem.W.keepIn K (.ref f_8) = true)
    {f_9 : Addr} {od_9 an_9 : Option Addr} {sl_9 : Array (Option Value)} {oc_9 kV_9 dc_9 pm_9 cd_9 ct_9 : Value} (a_9 : PySem.W.nsIn K mainGlobals "wrong_at" = some (some (.ref f_9))) (l_9 : K.lookup f_9 = some ⟨oc_9, od_9, .func (PySem.W.fnOf "wrong_at" "wrong_at" (defArgs (topS 9)) (defBody (topS 9)) (defScope (topS 9)) .none kV_9 dc_9 pm_9 an_9 cd_9 ct_9), sl_9⟩) (c_9 : PySem.W.codeIn K cd_9 "wrong_at" = true) (k_9 : PySem.W.keepIn K (.ref f_9) = true)
    {f_10 : Addr} {od_10 an_10 : Option Addr} {sl_10 : Array (Option Value)} {oc_10 kV_10 dc_10 pm_10 cd_10 ct_10 : Value} (a_10 : PySem.W.nsIn K mainGlobals "made_ts" = some (some (.ref f_10))) (l_10 : K.lookup f_10 = some ⟨oc_10, od_10, .func (PySem.W.fnOf "made_ts" "made_ts" (defArgs (topS 19)) (defBody (topS 19)) (defScope (topS 19)) .none kV_10 dc_10 pm_10 an_10 cd_10 ct_10), sl_10⟩) (c_10 : PySem.W.codeIn K cd_10 "made_ts" = true) (k_10 : PySem.W.keepIn K (.ref f_10) = true)
    {f_11 : Addr} {od_11 an_11 : Option Addr} {sl_11 : Array (Option Value)} {oc_11 kV_11 dc_11 pm_11 cd_11 ct_11 : Value} (a_11 : PySem.W.nsIn K mainGlobals "left_over" = some (some (.ref f_11))) (l_11 : K.lookup f_11 = some ⟨oc_11, od_11, .func (PySem.W.fnOf "left_over" "left_over" (defArgs (topS 20)) (defBody (topS 20)) (defScope (topS 20)) .none kV_11 dc_11 pm_11 an_11 cd_11 ct_11), sl_11⟩) (c_11 : PySem.W.codeIn K cd_11 "left_over" = true) (k_11 : PySem.W.keepIn K (.ref f_11) = true)
    {f_12 : Addr} {od_12 an_12 : Option Addr} {sl_12 : Array (Option Value)} {oc_12 kV_12 dc_12 pm_12 cd_12 ct_12 : Value} (a_12 : PySem.W.nsIn K mainGlobals "spare" = some (some (.ref f_12))) (l_12 : K.lookup f_12 = some ⟨oc_12, od_12, .func (PySem.W.fnOf "spare" "spare" (defArgs (topS 21)) (defBody (topS 21)) (defScope (topS 21)) .none kV_12 dc_12 pm_12 an_12 cd_12 ct_12), sl_12⟩) (c_12 : PySem.W.codeIn K cd_12 "spare" = true) (k_12 : PySem.W.keepIn K (.ref f_12) = true)
    {f_13 : Addr} {od_13 an_13 : Option Addr} {sl_13 : Array (Option Value)} {oc_13 kV_13 dc_13 pm_13 cd_13 ct_13 : Value} (a_13 : PySem.W.nsIn K mainGlobals "fits" = some (some (.ref f_13))) (l_13 : K.lookup f_13 = some ⟨oc_13, od_13, .func (PySem.W.fnOf "fits" "fits" (defArgs (topS 22)) (defBody (topS 22)) (defScope (topS 22)) .none kV_13 dc_13 pm_13 an_13 cd_13 ct_13), sl_13⟩) (c_13 : PySem.W.codeIn K cd_13 "fits" = true) (k_13 : PySem.W.keepIn K (.ref f_13) = true)
    {f_14 : Addr} {od_14 an_14 : Option Addr} {sl_14 : Array (Option Value)} {oc_14 kV_14 dc_14 pm_14 cd_14 ct_14 : Value} (a_14 : PySem.W.nsIn K mainGlobals "_law_is_whole" = some (some (.ref f_14))) (l_14 : K.lookup f_14 = some ⟨oc_14, od_14, .func (PySem.W.fnOf "_law_is_whole" "_law_is_whole" (defArgs (topS 28)) (defBody (topS 28)) (defScope (topS 28)) .none kV_14 dc_14 pm_14 an_14 cd_14 ct_14), sl_14⟩) (c_14 : PySem.W.codeIn K cd_14 "_law_is_whole" = true) (k_14 : PySem.W.keepIn K (.ref f_14) = true)
    {f_15 : Addr} {od_15 an_15 : Option Addr} {sl_15 : Array (Option Value)} {oc_15 kV_15 dc_15 pm_15 cd_15 ct_15 : Value} (a_15 : PySem.W.nsIn K mainGlobals "_law_row_gcd" = some (some (.ref f_15))) (l_15 : K.lookup f_15 = some ⟨oc_15, od_15, .func (PySem.W.fnOf "_law_row_gcd" "_law_row_gcd" (defArgs (topS 29)) (defBody (topS 29)) (defScope (topS 29)) .none kV_15 dc_15 pm_15 an_15 cd_15 ct_15), sl_15⟩) (c_15 : PySem.W.codeIn K cd_15 "_law_row_gcd" = true) (k_15 : PySem.W.keepIn K (.ref f_15) = true)
    {f_16 : Addr} {od_16 an_16 : Option Addr} {sl_16 : Array (Option Value)} {oc_16 kV_16 dc_16 pm_16 cd_16 ct_16 : Value} (a_16 : PySem.W.nsIn K mainGlobals "_law_row_low" = some (some (.ref f_16))) (l_16 : K.lookup f_16 = some ⟨oc_16, od_16, .func (PySem.W.fnOf "_law_row_low" "_law_row_low" (defArgs (topS 30)) (defBody (topS 30)) (defScope (topS 30)) .none kV_16 dc_16 pm_16 an_16 cd_16 ct_16), sl_16⟩) (c_16 : PySem.W.codeIn K cd_16 "_law_row_low" = true) (k_16 : PySem.W.keepIn K (.ref f_16) = true)
    {f_17 : Addr} {od_17 an_17 : Option Addr} {sl_17 : Array (Option Value)} {oc_17 kV_17 dc_17 pm_17 cd_17 ct_17 : Value} (a_17 : PySem.W.nsIn K mainGlobals "_law_more_right" = some (some (.ref f_17))) (l_17 : K.lookup f_17 = some ⟨oc_17, od_17, .func (PySem.W.fnOf "_law_more_right" "_law_more_right" (defArgs (topS 31)) (defBody (topS 31)) (defScope (topS 31)) .none kV_17 dc_17 pm_17 an_17 cd_17 ct_17), sl_17⟩) (c_17 : PySem.W.codeIn K cd_17 "_law_more_right" = true) (k_17 : PySem.W.keepIn K (.ref f_17) = true)
    {f_18 : Addr} {od_18 an_18 : Option Addr} {sl_18 : Array (Option Value)} {oc_18 kV_18 dc_18 pm_18 cd_18 ct_18 : Value} (a_18 : PySem.W.nsIn K mainGlobals "law" = some (some (.ref f_18))) (l_18 : K.lookup f_18 = some ⟨oc_18, od_18, .func (PySem.W.fnOf "law" "law" (defArgs (topS 32)) (defBody (topS 32)) (defScope (topS 32)) .none kV_18 dc_18 pm_18 an_18 cd_18 ct_18), sl_18⟩) (c_18 : PySem.W.codeIn K cd_18 "law" = true) (k_18 : PySem.W.keepIn K (.ref f_18) = true)
    (z_bool : PySem.W.nsIn K mainGlobals "bool" = some none)
    (z_enumerate : PySem.W.nsIn K mainGlobals "enumerate" = some none)
    (z_int : PySem.W.nsIn K mainGlobals "int" = some none)
    (z_isinstance : PySem.W.nsIn K mainGlobals "isinstance" = some none)
    (z_len : PySem.W.nsIn K mainGlobals "len" = some none)
    (z_list : PySem.W.nsIn K mainGlobals "list" = some none)
    (z_max : PySem.W.nsIn K mainGlobals "max" = some none)
    (z_min : PySem.W.nsIn K mainGlobals "min" = some none)
    (z_range : PySem.W.nsIn K mainGlobals "range" = some none)
    (z_repr : PySem.W.nsIn K mainGlobals "repr" = some none)
    (z_sum : PySem.W.nsIn K mainGlobals "sum" = some none)
    (z_tuple : PySem.W.nsIn K mainGlobals "tuple" = some none)
    {k_GREATEST_K : Tok} (v_GREATEST_K : PySem.W.nsIn K mainGlobals "GREATEST_K" = some (some (.int (60) k_GREATEST_K)))
    {k_GREATEST_THICKNESS : Tok} (v_GREATEST_THICKNESS : PySem.W.nsIn K mainGlobals "GREATEST_THICKNESS" = some (some (.int (60) k_GREATEST_THICKNESS)))
    {k_MOST_KINDS : Tok} (v_MOST_KINDS : PySem.W.nsIn K mainGlobals "MOST_KINDS" = some (some (.int (30) k_MOST_KINDS)))
    {k_MOST_THICKNESSES : Tok} (v_MOST_THICKNESSES : PySem.W.nsIn K mainGlobals "MOST_THICKNESSES" = some (some (.int (8) k_MOST_THICKNESSES)))
    (w_gcd : PySem.W.nsIn K mainGlobals "gcd" = some (some (.builtin "math.gcd"))) :
    ∃ fd : FuncData, (∀ (s : Shared) (v : Value), BindsTo s fd ⟨[v], []⟩ [("script", v)]) ∧ ∀ base : Heap, K.In base → base.Ns mainGlobals mg → FnG l.prog w K mg base (L2.CX l.prog w) 8 fa fd ["script"] (SpG K [] mg 1 s_law) := by
  have e := hfa.symm.trans (PySem.W.mg_of X G a_18)
  cases e
  let t : Top K mg := {
    a_is_number := f_0
    d_is_number := _
    g_is_number := PySem.W.mg_of X G a_0
    F_is_number := fun_mk (st := topS 7) l_0 c_0 k_0
    b_is_number := (fun_mk (st := topS 7) l_0 c_0 k_0).binds (ps := ["thing"]) (fun _ _ _ _ _ _ us hl => match us, hl with | [_], _ => rfl)
    a_is_within := f_1
    d_is_within := _
    g_is_within := PySem.W.mg_of X G a_1
    F_is_within := fun_mk (st := topS 8) l_1 c_1 k_1
    b_is_within := (fun_mk (st := topS 8) l_1 c_1 k_1).binds (ps := ["thing", "low", "high"]) (fun _ _ _ _ _ _ us hl => match us, hl with | [_, _, _], _ => rfl)
    a_check_many := f_2
    d_check_many := _
    g_check_many := PySem.W.mg_of X G a_2
    F_check_many := fun_mk (st := topS 10) l_2 c_2 k_2
    b_check_many := (fun_mk (st := topS 10) l_2 c_2 k_2).binds (ps := ["many", "low", "high"]) (fun _ _ _ _ _ _ us hl => match us, hl with | [_, _, _], _ => rfl)
    a_made_k := f_3
    d_made_k := _
    g_made_k := PySem.W.mg_of X G a_3
    F_made_k := fun_mk (st := topS 14) l_3 c_3 k_3
    b_made_k := (fun_mk (st := topS 14) l_3 c_3 k_3).binds (ps := ["thing"]) (fun _ _ _ _ _ _ us hl => match us, hl with | [_], _ => rfl)
    a_most := f_4
    d_most := _
    g_most := PySem.W.mg_of X G a_4
    F_most := fun_mk (st := topS 23) l_4 c_4 k_4
    b_most := (fun_mk (st := topS 23) l_4 c_4 k_4).binds (ps := ["k", "many"]) (fun _ _ _ _ _ _ us hl => match us, hl with | [_, _], _ => rfl)
    a_lowest := f_5
    d_lowest := _
    g_lowest := PySem.W.mg_of X G a_5
    F_lowest := fun_mk (st := topS 11) l_5 c_5 k_5
    b_lowest := (fun_mk (st := topS 11) l_5 c_5 k_5).binds (ps := ["above", "below"]) (fun _ _ _ _ _ _ us hl => match us, hl with | [_, _], _ => rfl)
    a_least_density := f_6
    d_least_density := _
    g_least_density := PySem.W.mg_of X G a_6
    F_least_density := fun_mk (st := topS 24) l_6 c_6 k_6
    b_least_density := (fun_mk (st := topS 24) l_6 c_6 k_6).binds (ps := ["k", "many"]) (fun _ _ _ _ _ _ us hl => match us, hl with | [_, _], _ => rfl)
    a__law_pool := f_7
    d__law_pool := _
    g__law_pool := PySem.W.mg_of X G a_7
    F__law_pool := fun_mk (st := topS 26) l_7 c_7 k_7
    b__law_pool := (fun_mk (st := topS 26) l_7 c_7 k_7).binds (ps := ["script"]) (fun _ _ _ _ _ _ us hl => match us, hl with | [_], _ => rfl)
    a__law_draw := f_8
    d__law_draw := _
    g__law_draw := PySem.W.mg_of X G a_8
    F__law_draw := fun_mk (st := topS 27) l_8 c_8 k_8
    b__law_draw := (fun_mk (st := topS 27) l_8 c_8 k_8).binds (ps := ["pool", "many"]) (fun _ _ _ _ _ _ us hl => match us, hl with | [_, _], _ => rfl)
    a_wrong_at := f_9
    d_wrong_at := _
    g_wrong_at := PySem.W.mg_of X G a_9
    F_wrong_at := fun_mk (st := topS 9) l_9 c_9 k_9
    b_wrong_at := (fun_mk (st := topS 9) l_9 c_9 k_9).binds (ps := ["thing", "fewest", "greatest", "low", "high"]) (fun _ _ _ _ _ _ us hl => match us, hl with | [_, _, _, _, _], _ => rfl)
    a_made_ts := f_10
    d_made_ts := _
    g_made_ts := PySem.W.mg_of X G a_10
    F_made_ts := fun_mk (st := topS 19) l_10 c_10 k_10
    b_made_ts := (fun_mk (st := topS 19) l_10 c_10 k_10).binds (ps := ["thing"]) (fun _ _ _ _ _ _ us hl => match us, hl with | [_], _ => rfl)
    a_left_over := f_11
    d_left_over := _
    g_left_over := PySem.W.mg_of X G a_11
    F_left_over := fun_mk (st := topS 20) l_11 c_11 k_11
    b_left_over := (fun_mk (st := topS 20) l_11 c_11 k_11).binds (ps := ["k", "ts"]) (fun _ _ _ _ _ _ us hl => match us, hl with | [_, _], _ => rfl)
    a_spare := f_12
    d_spare := _
    g_spare := PySem.W.mg_of X G a_12
    F_spare := fun_mk (st := topS 21) l_12 c_12 k_12
    b_spare := (fun_mk (st := topS 21) l_12 c_12 k_12).binds (ps := ["k", "ts"]) (fun _ _ _ _ _ _ us hl => match us, hl with | [_, _], _ => rfl)
    a_fits := f_13
    d_fits := _
    g_fits := PySem.W.mg_of X G a_13
    F_fits := fun_mk (st := topS 22) l_13 c_13 k_13
    b_fits := (fun_mk (st := topS 22) l_13 c_13 k_13).binds (ps := ["k", "ts"]) (fun _ _ _ _ _ _ us hl => match us, hl with | [_, _], _ => rfl)
    a__law_is_whole := f_14
    d__law_is_whole := _
    g__law_is_whole := PySem.W.mg_of X G a_14
    F__law_is_whole := fun_mk (st := topS 28) l_14 c_14 k_14
    b__law_is_whole := (fun_mk (st := topS 28) l_14 c_14 k_14).binds (ps := ["thing"]) (fun _ _ _ _ _ _ us hl => match us, hl with | [_], _ => rfl)
    a__law_row_gcd := f_15
    d__law_row_gcd := _
    g__law_row_gcd := PySem.W.mg_of X G a_15
    F__law_row_gcd := fun_mk (st := topS 29) l_15 c_15 k_15
    b__law_row_gcd := (fun_mk (st := topS 29) l_15 c_15 k_15).binds (ps := ["one", "two"]) (fun _ _ _ _ _ _ us hl => match us, hl with | [_, _], _ => rfl)
    a__law_row_low := f_16
    d__law_row_low := _
    g__law_row_low := PySem.W.mg_of X G a_16
    F__law_row_low := fun_mk (st := topS 30) l_16 c_16 k_16
    b__law_row_low := (fun_mk (st := topS 30) l_16 c_16 k_16).binds (ps := ["p", "q"]) (fun _ _ _ _ _ _ us hl => match us, hl with | [_, _], _ => rfl)
    a__law_more_right := f_17
    d__law_more_right := _
    g__law_more_right := PySem.W.mg_of X G a_17
    F__law_more_right := fun_mk (st := topS 31) l_17 c_17 k_17
    b__law_more_right := (fun_mk (st := topS 31) l_17 c_17 k_17).binds (ps := ["k", "many"]) (fun _ _ _ _ _ _ us hl => match us, hl with | [_, _], _ => rfl)
    a_law := fa
    d_law := _
    g_law := PySem.W.mg_of X G a_18
    F_law := fun_mk (st := topS 32) l_18 c_18 k_18
    b_law := (fun_mk (st := topS 32) l_18 c_18 k_18).binds (ps := ["script"]) (fun _ _ _ _ _ _ us hl => match us, hl with | [_], _ => rfl)
    m_bool := PySem.W.mg_none_of X G z_bool
    m_enumerate := PySem.W.mg_none_of X G z_enumerate
    m_int := PySem.W.mg_none_of X G z_int
    m_isinstance := PySem.W.mg_none_of X G z_isinstance
    m_len := PySem.W.mg_none_of X G z_len
    m_list := PySem.W.mg_none_of X G z_list
    m_max := PySem.W.mg_none_of X G z_max
    m_min := PySem.W.mg_none_of X G z_min
    m_range := PySem.W.mg_none_of X G z_range
    m_repr := PySem.W.mg_none_of X G z_repr
    m_sum := PySem.W.mg_none_of X G z_sum
    m_tuple := PySem.W.mg_none_of X G z_tuple
    k_GREATEST_K := k_GREATEST_K
    c_GREATEST_K := PySem.W.mg_of X G v_GREATEST_K
    k_GREATEST_THICKNESS := k_GREATEST_THICKNESS
    c_GREATEST_THICKNESS := PySem.W.mg_of X G v_GREATEST_THICKNESS
    k_MOST_KINDS := k_MOST_KINDS
    c_MOST_KINDS := PySem.W.mg_of X G v_MOST_KINDS
    k_MOST_THICKNESSES := k_MOST_THICKNESSES
    c_MOST_THICKNESSES := PySem.W.mg_of X G v_MOST_THICKNESSES
    x_gcd := PySem.W.mg_of X G w_gcd }
  exact ⟨_, fun s v => .of_eq rfl, fun base _ _ => ok_law t⟩
end Gk34

open PySem PySem.W PyProof.Rows in
set_option maxHeartbeats 0 in
theorem PySem.Challenge.cw_undertwo_k34_more_kinds_are_dearer_holds : PySem.Challenge.rw_undertwo_k34_more_kinds_are_dearer.Holds := by
  w_on; o_law; k_head; (case hw => w_witness2)
  k_fill
  refine Mm.walk_ofG (l := PySem.Challenge.rw_undertwo_k34_more_kinds_are_dearer) (n := 63) (k := 8) (x := "script") (g := Gk34.s_law) rfl (by decide) rfl ⟨rfl, by decide, by decide⟩ (fun w h Y => PySem.W.kIn_of Y) ?F Gk34.law_true
  case F =>
    intro w mg fa h KX G hmg
    refine' Gk34.all_mk KX G hmg ?a_0 ?l_0 ?c_0 ?k_0 ?a_1 ?l_1 ?c_1 ?k_1 ?a_2 ?l_2 ?c_2 ?k_2 ?a_3 ?l_3 ?c_3 ?k_3 ?a_4 ?l_4 ?c_4 ?k_4 ?a_5 ?l_5 ?c_5 ?k_5 ?a_6 ?l_6 ?c_6 ?k_6 ?a_7 ?l_7 ?c_7 ?k_7 ?a_8 ?l_8 ?c_8 ?k_8 ?a_9 ?l_9 ?c_9 ?k_9 ?a_10 ?l_10 ?c_10 ?k_10 ?a_11 ?l_11 ?c_11 ?k_11 ?a_12 ?l_12 ?c_12 ?k_12 ?a_13 ?l_13 ?c_13 ?k_13 ?a_14 ?l_14 ?c_14 ?k_14 ?a_15 ?l_15 ?c_15 ?k_15 ?a_16 ?l_16 ?c_16 ?k_16 ?a_17 ?l_17 ?c_17 ?k_17 ?a_18 ?l_18 ?c_18 ?k_18 ?z_bool ?z_enumerate ?z_int ?z_isinstance ?z_len ?z_list ?z_max ?z_min ?z_range ?z_repr ?z_sum ?z_tuple ?v_GREATEST_K ?v_GREATEST_THICKNESS ?v_MOST_KINDS ?v_MOST_THICKNESSES ?w_gcd
    (case a_0 => k_is)
    (case l_0 => k_is)
    (case c_0 => k_is)
    (case k_0 => k_is)
    (case a_1 => k_is)
    (case l_1 => k_is)
    (case c_1 => k_is)
    (case k_1 => k_is)
    (case a_2 => k_is)
    (case l_2 => k_is)
    (case c_2 => k_is)
    (case k_2 => k_is)
    (case a_3 => k_is)
    (case l_3 => k_is)
    (case c_3 => k_is)
    (case k_3 => k_is)
    (case a_4 => k_is)
    (case l_4 => k_is)
    (case c_4 => k_is)
    (case k_4 => k_is)
    (case a_5 => k_is)
    (case l_5 => k_is)
    (case c_5 => k_is)
    (case k_5 => k_is)
    (case a_6 => k_is)
    (case l_6 => k_is)
    (case c_6 => k_is)
    (case k_6 => k_is)
    (case a_7 => k_is)
    (case l_7 => k_is)
    (case c_7 => k_is)
    (case k_7 => k_is)
    (case a_8 => k_is)
    (case l_8 => k_is)
    (case c_8 => k_is)
    (case k_8 => k_is)
    (case a_9 => k_is)
    (case l_9 => k_is)
    (case c_9 => k_is)
    (case k_9 => k_is)
    (case a_10 => k_is)
    (case l_10 => k_is)
    (case c_10 => k_is)
    (case k_10 => k_is)
    (case a_11 => k_is)
    (case l_11 => k_is)
    (case c_11 => k_is)
    (case k_11 => k_is)
    (case a_12 => k_is)
    (case l_12 => k_is)
    (case c_12 => k_is)
    (case k_12 => k_is)
    (case a_13 => k_is)
    (case l_13 => k_is)
    (case c_13 => k_is)
    (case k_13 => k_is)
    (case a_14 => k_is)
    (case l_14 => k_is)
    (case c_14 => k_is)
    (case k_14 => k_is)
    (case a_15 => k_is)
    (case l_15 => k_is)
    (case c_15 => k_is)
    (case k_15 => k_is)
    (case a_16 => k_is)
    (case l_16 => k_is)
    (case c_16 => k_is)
    (case k_16 => k_is)
    (case a_17 => k_is)
    (case l_17 => k_is)
    (case c_17 => k_is)
    (case k_17 => k_is)
    (case a_18 => k_is)
    (case l_18 => k_is)
    (case c_18 => k_is)
    (case k_18 => k_is)
    (case z_bool => k_is)
    (case z_enumerate => k_is)
    (case z_int => k_is)
    (case z_isinstance => k_is)
    (case z_len => k_is)
    (case z_list => k_is)
    (case z_max => k_is)
    (case z_min => k_is)
    (case z_range => k_is)
    (case z_repr => k_is)
    (case z_sum => k_is)
    (case z_tuple => k_is)
    (case v_GREATEST_K => k_is)
    (case v_GREATEST_THICKNESS => k_is)
    (case v_MOST_KINDS => k_is)
    (case v_MOST_THICKNESSES => k_is)
    (case w_gcd => k_is)
