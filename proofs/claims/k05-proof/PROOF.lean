import PyProof.Rows.All
import Wide.All
import OpenK.AllK
import Wide.FinOn
import HandS.ForMost
import HandS.Evl
import HandS.TryMany
import HandS.ExcInit
import HandS.ExcOwn
import HandS.Lambda
import HandS.IsInst
import HandS.Style
import HandS.Wide
import HandS.TupMul
import HandS.TupAny
import HandS.Gcd
import HandS.Conv
import HandS.Walk
import HandS.Flow
import HandS.SortInts
import HandS.RaiseMore
import KE.DataMinMax
import KE.KTupSum
import KE.GoesEnum
import HandS.ExcField
import HandS.ExcIs
import KE.KTypeName
import HandS.WordsExc
import HandS.EndTab
import PyProof.ReprBulk
import PyProof.Rows.StrJoinMade
import HandS.Star
import KE.GoesNew
import KE.GoesMore
import KE.KExcIs
import KE.SortData
import HandS.Strs
import HandS.NoneIn
import HandS.SetFor
import HandS.SetBool
import HandS.Deep
import PySem.Challenge.RW_undertwo_k05_places_of_dots
set_option Elab.async false
set_option linter.all false
set_option maxRecDepth 100000
set_option maxHeartbeats 4000000
/-! Mm: programs over data. A store of cells, what expressions and statements do to it, and that the machine does the same. -/
namespace Mm
open PySem L2

/-! ### data -/
inductive D where
  | non | bl (b : Bool) | int (i : Int) | str (x : Str) | tup (xs : List D) | ref (i : Nat)
inductive Cell where
  | lst (xs : List D)
  | ro (xs : List D)
abbrev Sto := List Cell
structure Exn where
  cls : Str
  what : D
inductive R (a : Type) where
  | ok (x : a) (st : Sto) | ex (x : Exn) (st : Sto) | no
def R.bind {a b : Type} (r : R a) (k : a → Sto → R b) : R b := match r with
  | .ok x st => k x st
  | .ex x st => .ex x st
  | .no => .no
abbrev Env := List (Option D)
abbrev EX := Env → Sto → R D
abbrev AX := Env → Sto → R (List D)
abbrev BX := Env → Sto → R Bool
inductive RS where
  | nx (e : Env) (st : Sto) | ret (d : D) (st : Sto) | brk (e : Env) (st : Sto) | ct (e : Env) (st : Sto) | exc (x : Exn) (e : Env) (st : Sto) | no
abbrev SX := Env → Sto → RS

mutual
def D.beq : D → D → Bool
  | .non, .non => true
  | .bl a, .bl b => a == b
  | .int a, .int b => decide (a = b)
  | .str a, .str b => decide (a = b)
  | .tup xs, .tup ys => D.beqs xs ys
  | .ref a, .ref b => Nat.beq a b
  | _, _ => false
def D.beqs : List D → List D → Bool
  | [], [] => true
  | x :: xs, y :: ys => D.beq x y && D.beqs xs ys
  | _, _ => false
end
mutual
theorem D.beq_eq : ∀ {x y : D}, D.beq x y = true → x = y
  | .non, .non, _ => rfl
  | .bl a, .bl b, h => by simp only [D.beq, beq_iff_eq] at h; rw [h]
  | .int a, .int b, h => by simp only [D.beq, decide_eq_true_eq] at h; rw [h]
  | .str a, .str b, h => by simp only [D.beq, decide_eq_true_eq] at h; rw [h]
  | .tup xs, .tup ys, h => by simp only [D.beq] at h; rw [D.beqs_eq h]
  | .ref a, .ref b, h => by rw [show a = b from Nat.eq_of_beq_eq_true h]
  | .non, .bl _, h | .non, .int _, h | .non, .str _, h | .non, .tup _, h | .non, .ref _, h => by simp [D.beq] at h
  | .bl _, .non, h | .bl _, .int _, h | .bl _, .str _, h | .bl _, .tup _, h | .bl _, .ref _, h => by simp [D.beq] at h
  | .int _, .non, h | .int _, .bl _, h | .int _, .str _, h | .int _, .tup _, h | .int _, .ref _, h => by simp [D.beq] at h
  | .str _, .non, h | .str _, .bl _, h | .str _, .int _, h | .str _, .tup _, h | .str _, .ref _, h => by simp [D.beq] at h
  | .tup _, .non, h | .tup _, .bl _, h | .tup _, .int _, h | .tup _, .str _, h | .tup _, .ref _, h => by simp [D.beq] at h
  | .ref _, .non, h | .ref _, .bl _, h | .ref _, .int _, h | .ref _, .str _, h | .ref _, .tup _, h => by simp [D.beq] at h
theorem D.beqs_eq : ∀ {xs ys : List D}, D.beqs xs ys = true → xs = ys
  | [], [], _ => rfl
  | x :: xs, y :: ys, h => by simp only [D.beqs, Bool.and_eq_true] at h; rw [D.beq_eq h.1, D.beqs_eq h.2]
  | [], _ :: _, h => by simp [D.beqs] at h
  | _ :: _, [], h => by simp [D.beqs] at h
end
mutual
theorem D.beq_refl : ∀ (x : D), D.beq x x = true
  | .non => rfl
  | .bl a => by simp [D.beq]
  | .int a => by simp [D.beq]
  | .str a => by simp [D.beq]
  | .tup xs => by simp only [D.beq]; exact D.beqs_refl xs
  | .ref a => by simp [D.beq]
theorem D.beqs_refl : ∀ (xs : List D), D.beqs xs xs = true
  | [] => rfl
  | x :: xs => by simp only [D.beqs, D.beq_refl x, D.beqs_refl xs, Bool.and_self]
end
instance : DecidableEq D := fun a b => if h : D.beq a b = true then .isTrue (D.beq_eq h) else .isFalse fun e => h (e ▸ D.beq_refl a)
instance : DecidableEq Cell := fun a b => match a, b with
  | .lst x, .lst y => if h : x = y then .isTrue (by rw [h]) else .isFalse fun e => h (Cell.lst.inj e)
  | .ro x, .ro y => if h : x = y then .isTrue (by rw [h]) else .isFalse fun e => h (Cell.ro.inj e)
  | .lst _, .ro _ => .isFalse fun e => nomatch e
  | .ro _, .lst _ => .isFalse fun e => nomatch e

/-! ### what stands for what -/
abbrev tupO (us : List Value) : Obj := { cls := .type "tuple", data := .seq us.toArray }
/-- the object at a has no dict of its own -/
def Nd (K : PySem.W.Frag) (H : Hp) (a : Addr) : Prop := (∃ o u, H a = some (.frz o u) ∧ o.dict = none) ∨ ∃ o, K.lookup a = some o ∧ o.dict = none
/-- a tuple without a dict of its own -/
structure SqN (K : PySem.W.Frag) (H : Hp) (a : Addr) (xs : List V) : Prop where
  sq : SqT K H a xs
  nd : Nd K H a
theorem SqN.new {K : PySem.W.Frag} {H : Hp} {p : Addr} {o : Obj} {xs : List V} (ho : o.dict = none) : SqN K (upd H p (.frz o (.tup xs))) p xs :=
  ⟨.inl (.inr ⟨o, upd_same⟩), .inl ⟨o, _, upd_same, ho⟩⟩
section
variable (K : PySem.W.Frag) (H : Hp) (m : List Addr)
mutual
def Rep : D → V → Prop
  | .non, v => v = .non
  | .bl b, v => v = .bl b
  | .int i, v => v = .int i
  | .str x, v => v = .str x
  | .tup ds, v => ∃ a vs, v = .ref a ∧ SqN K H a vs ∧ Reps ds vs
  | .ref i, v => ∃ a, m[i]? = some a ∧ v = .ref a
def Reps : List D → List V → Prop
  | [], vs => vs = []
  | d :: ds, vs => ∃ v r, vs = v :: r ∧ Rep d v ∧ Reps ds r
end
end
/-- what stays of the heap -/
structure Le (H H' : Hp) : Prop where
  tup : ∀ a xs, H a = some (.tup xs) → H' a = some (.tup xs)
  frz : ∀ a o u, H a = some (.frz o u) → H' a = some (.frz o u)
  cod : ∀ a q, H a = some (LamX.CodeO a q) → H' a = some (LamX.CodeO a q)
theorem Le.refl (H : Hp) : Le H H := ⟨fun _ _ h => h, fun _ _ _ h => h, fun _ _ h => h⟩
theorem Le.trans {H H1 H2 : Hp} (a : Le H H1) (b : Le H1 H2) : Le H H2 :=
  ⟨fun x xs h => b.tup x xs (a.tup x xs h), fun x o u h => b.frz x o u (a.frz x o u h), fun x q h => b.cod x q (a.cod x q h)⟩
theorem Le.new {H : Hp} {p : Addr} {o : HO} (h : H p = none) : Le H (upd H p o) := by
  refine ⟨fun a xs e => ?_, fun a o u e => ?_, fun a q e => ?_⟩
  · rw [upd_ne (ne_of_none e h)]; exact e
  · rw [upd_ne (ne_of_none e h)]; exact e
  · rw [upd_ne (ne_of_none e h)]; exact e
/-- a list is written -/
theorem Le.set {H : Hp} {p : Addr} {xs : List V} {o : HO} (h : H p = some (.lst xs)) : Le H (upd H p o) := by
  refine ⟨fun a ys e => ?_, fun a o u e => ?_, fun a q e => ?_⟩
  · rw [upd_ne (ne_of e h (by intro z; cases z))]; exact e
  · rw [upd_ne (ne_of e h (by intro z; cases z))]; exact e
  · rw [upd_ne (ne_of e h (by intro z; unfold LamX.CodeO at z; cases z))]; exact e
theorem Le.sqT {K : PySem.W.Frag} {H H' : Hp} {a : Addr} {xs : List V} (e : Le H H') (h : SqT K H a xs) : SqT K H' a xs := by
  rcases h with (h | ⟨o, h⟩) | h
  · exact .inl (.inl (e.tup _ _ h))
  · exact .inl (.inr ⟨o, e.frz _ _ _ h⟩)
  · exact .inr h
theorem Le.nd {K : PySem.W.Frag} {H H' : Hp} {a : Addr} (e : Le H H') (h : Nd K H a) : Nd K H' a := h.imp (fun ⟨o, u, q, d⟩ => ⟨o, u, e.frz _ _ _ q, d⟩) id
theorem Le.sqN {K : PySem.W.Frag} {H H' : Hp} {a : Addr} {xs : List V} (e : Le H H') (h : SqN K H a xs) : SqN K H' a xs := ⟨e.sqT h.sq, e.nd h.nd⟩
def Pre (m m' : List Addr) : Prop := ∃ r, m' = m ++ r
theorem Pre.refl (m : List Addr) : Pre m m := ⟨[], by simp⟩
theorem Pre.trans {a b c : List Addr} (h : Pre a b) (h2 : Pre b c) : Pre a c := by
  obtain ⟨r, rfl⟩ := h
  obtain ⟨s, rfl⟩ := h2
  exact ⟨r ++ s, by simp⟩
theorem Pre.add (m : List Addr) (a : Addr) : Pre m (m ++ [a]) := ⟨[a], rfl⟩
theorem Pre.get {m m' : List Addr} (h : Pre m m') {i : Nat} {a : Addr} (e : m[i]? = some a) : m'[i]? = some a := by
  obtain ⟨r, rfl⟩ := h
  rw [List.getElem?_append_left (List.getElem?_eq_some_iff.mp e).1]
  exact e
section
variable {K : PySem.W.Frag} {H H' : Hp} {m m' : List Addr}
mutual
theorem Rep.mono (e : Le H H') (p : Pre m m') : ∀ {d : D} {v : V}, Rep K H m d v → Rep K H' m' d v
  | .non, _, h => h
  | .bl _, _, h => h
  | .int _, _, h => h
  | .str _, _, h => h
  | .tup ds, v, h => by
    obtain ⟨a, vs, h1, h2, h3⟩ := h
    exact ⟨a, vs, h1, e.sqN h2, Reps.mono e p h3⟩
  | .ref i, v, h => by
    obtain ⟨a, h1, h2⟩ := h
    exact ⟨a, p.get h1, h2⟩
theorem Reps.mono (e : Le H H') (p : Pre m m') : ∀ {ds : List D} {vs : List V}, Reps K H m ds vs → Reps K H' m' ds vs
  | [], _, h => h
  | d :: ds, vs, h => by
    obtain ⟨v, r, h1, h2, h3⟩ := h
    exact ⟨v, r, h1, Rep.mono e p h2, Reps.mono e p h3⟩
end
theorem Reps.length : ∀ {ds : List D} {vs : List V}, Reps K H m ds vs → ds.length = vs.length
  | [], _, h => by cases h; rfl
  | d :: ds, vs, h => by
    obtain ⟨v, r, rfl, _, h3⟩ := h
    simp [Reps.length h3]
theorem Reps.get : ∀ {ds : List D} {vs : List V} {i : Nat} {d : D}, Reps K H m ds vs → ds[i]? = some d → ∃ v, vs[i]? = some v ∧ Rep K H m d v
  | [], _, _, _, _, e => by simp at e
  | d :: ds, vs, 0, x, h, e => by
    obtain ⟨v, r, rfl, h2, _⟩ := h
    simp at e; subst e
    exact ⟨v, rfl, h2⟩
  | d :: ds, vs, i + 1, x, h, e => by
    obtain ⟨v, r, rfl, _, h3⟩ := h
    obtain ⟨u, e1, e2⟩ := Reps.get h3 (show ds[i]? = some x by simpa using e)
    exact ⟨u, by simpa using e1, e2⟩
theorem Reps.back : ∀ {ds : List D} {vs : List V} {i : Nat} {v : V}, Reps K H m ds vs → vs[i]? = some v → ∃ d, ds[i]? = some d ∧ Rep K H m d v
  | [], _, _, _, h, e => by cases h; simp at e
  | d :: ds, vs, 0, x, h, e => by
    obtain ⟨v, r, rfl, h2, _⟩ := h
    simp at e; subst e
    exact ⟨d, rfl, h2⟩
  | d :: ds, vs, i + 1, x, h, e => by
    obtain ⟨v, r, rfl, _, h3⟩ := h
    obtain ⟨u, e1, e2⟩ := Reps.back h3 (show r[i]? = some x by simpa using e)
    exact ⟨u, by simpa using e1, e2⟩
theorem Reps.append : ∀ {ds es : List D} {vs ws : List V}, Reps K H m ds vs → Reps K H m es ws → Reps K H m (ds ++ es) (vs ++ ws)
  | [], _, _, _, h, g => by cases h; exact g
  | d :: ds, es, vs, ws, h, g => by
    obtain ⟨v, r, rfl, h2, h3⟩ := h
    exact ⟨v, r ++ ws, rfl, h2, Reps.append h3 g⟩
theorem Reps.one {d : D} {v : V} (h : Rep K H m d v) : Reps K H m [d] [v] := ⟨v, [], rfl, h, rfl⟩
theorem Reps.set : ∀ {ds : List D} {vs : List V} {i : Nat} {d : D} {v : V}, Reps K H m ds vs → Rep K H m d v → Reps K H m (ds.set i d) (vs.set i v)
  | [], _, _, _, _, h, _ => by cases h; rfl
  | d :: ds, vs, 0, x, u, h, g => by
    obtain ⟨v, r, rfl, h2, h3⟩ := h
    exact ⟨u, r, rfl, g, h3⟩
  | d :: ds, vs, i + 1, x, u, h, g => by
    obtain ⟨v, r, rfl, h2, h3⟩ := h
    exact ⟨v, r.set i u, rfl, h2, Reps.set h3 g⟩
theorem Reps.take : ∀ {ds : List D} {vs : List V} (n : Nat), Reps K H m ds vs → Reps K H m (ds.take n) (vs.take n)
  | [], _, n, h => by cases h; simp; rfl
  | d :: ds, vs, 0, h => by simp; rfl
  | d :: ds, vs, n + 1, h => by
    obtain ⟨v, r, rfl, h2, h3⟩ := h
    exact ⟨v, r.take n, rfl, h2, Reps.take n h3⟩
theorem Reps.drop : ∀ {ds : List D} {vs : List V} (n : Nat), Reps K H m ds vs → Reps K H m (ds.drop n) (vs.drop n)
  | [], _, n, h => by cases h; simp; rfl
  | d :: ds, vs, 0, h => h
  | d :: ds, vs, n + 1, h => by
    obtain ⟨v, r, rfl, h2, h3⟩ := h
    exact Reps.drop n h3
theorem Reps.dropLast {ds : List D} {vs : List V} (h : Reps K H m ds vs) : Reps K H m ds.dropLast vs.dropLast := by
  rw [List.dropLast_eq_take, List.dropLast_eq_take, ← h.length]
  exact h.take _
theorem Reps.erase {ds : List D} {vs : List V} (h : Reps K H m ds vs) (i : Nat) : Reps K H m (ds.eraseIdx i) (vs.eraseIdx i) := by
  rw [List.eraseIdx_eq_take_drop_succ, List.eraseIdx_eq_take_drop_succ]
  exact (h.take i).append (h.drop (i + 1))
theorem Reps.reverse : ∀ {ds : List D} {vs : List V}, Reps K H m ds vs → Reps K H m ds.reverse vs.reverse
  | [], _, h => by cases h; rfl
  | d :: ds, vs, h => by
    obtain ⟨v, r, rfl, h2, h3⟩ := h
    rw [List.reverse_cons, List.reverse_cons]
    exact (Reps.reverse h3).append (Reps.one h2)
theorem Reps.ints : ∀ {ns : List Int} {vs : List V}, Reps K H m (ns.map D.int) vs → vs = ns.map V.int
  | [], _, h => h
  | n :: ns, vs, h => by
    obtain ⟨v, r, rfl, h2, h3⟩ := h
    rw [show v = V.int n from h2, Reps.ints h3]
    rfl
theorem Reps.of_ints : ∀ (ns : List Int), Reps K H m (ns.map D.int) (ns.map V.int)
  | [] => rfl
  | n :: ns => ⟨.int n, ns.map V.int, rfl, rfl, Reps.of_ints ns⟩
end
def lim : Nat := 100000
theorem lim_le {n : Nat} (h : n ≤ lim) : n ≤ sizeLine := Nat.le_trans h (by decide)
theorem lim_lt {n : Nat} (h : n ≤ lim) : n < sizeLine := Nat.lt_of_le_of_lt h (by decide)
def CellOk (K : PySem.W.Frag) (H : Hp) (m : List Addr) (a : Addr) : Cell → Prop
  | .lst ds => ∃ vs, H a = some (.lst vs) ∧ Reps K H m ds vs
  | .ro ds => ∃ vs, (∀ H', Le H H' → SqL K H' a vs) ∧ Reps K H m ds vs
structure Ok (K : PySem.W.Frag) (T : List (Addr × Str)) (H : Hp) (m : List Addr) (st : Sto) : Prop where
  len : m.length = st.length
  nd : ∀ (i j : Nat) (a : Addr) (xs ys : List D), m[i]? = some a → m[j]? = some a → st[i]? = some (.lst xs) → st[j]? = some (.lst ys) → i = j
  cell : ∀ (i : Nat) (c : Cell), st[i]? = some c → ∃ a, m[i]? = some a ∧ CellOk K H m a c
  tabs : LamX.Tabs T H
/-- an exception of a class of the module, its own dict -/
def XRep (K : PySem.W.Frag) (mg : Str → Option Value) (H : Hp) (m : List Addr) (x : Exn) (cls : Value) (dd : Option Addr) : Prop :=
  ∃ C d v fs, cls = .ref C ∧ mg x.cls = some (.ref C) ∧ dd = some d ∧ H d = some (.xd fs) ∧ fs.lookup ("what" : Str) = some v ∧ Rep K H m x.what v
def EnvOk (K : PySem.W.Frag) (H : Hp) (m : List Addr) (s : L2.St) (e : Env) : Prop :=
  e.length = s.length ∧ ∀ (i : Nat) (d : D), e[i]? = some (some d) → ∃ v, s[i]? = some (some v) ∧ Rep K H m d v
theorem CellOk.list {K : PySem.W.Frag} {H : Hp} {m : List Addr} {a : Addr} : ∀ {c : Cell}, CellOk K H m a c → ∃ ds vs, (c = .lst ds ∨ c = .ro ds) ∧ SqL K H a vs ∧ Reps K H m ds vs
  | .lst ds, h => by
    obtain ⟨vs, h1, h2⟩ := h
    exact ⟨ds, vs, .inl rfl, .of h1, h2⟩
  | .ro ds, h => by
    obtain ⟨vs, h1, h2⟩ := h
    exact ⟨ds, vs, .inr rfl, h1 H (.refl H), h2⟩
end Mm

namespace Mm
open PySem L2
theorem EnvOk.mono {K : PySem.W.Frag} {H H' : Hp} {m m' : List Addr} {s : L2.St} {e : Env} (h : EnvOk K H m s e) (l : Le H H') (p : Pre m m') : EnvOk K H' m' s e :=
  ⟨h.1, fun i d q => by
    obtain ⟨v, h1, h2⟩ := h.2 i d q
    exact ⟨v, h1, h2.mono l p⟩⟩
theorem EnvOk.set {K : PySem.W.Frag} {H : Hp} {m : List Addr} {s : L2.St} {e : Env} {d : D} {v : V} (h : EnvOk K H m s e) (i : Nat) (r : Rep K H m d v) : EnvOk K H m (s.set i (some v)) (e.set i (some d)) := by
  refine ⟨by simp [h.1], fun j x q => ?_⟩
  by_cases hij : i = j
  · subst hij
    have hl : i < e.length := by
      have := (List.getElem?_eq_some_iff.mp q).1
      simpa using this
    rw [List.getElem?_set_self hl] at q
    cases q
    exact ⟨v, List.getElem?_set_self (by rw [← h.1]; exact hl), r⟩
  · rw [List.getElem?_set_ne hij] at q ⊢
    exact h.2 j x q
theorem Pre.take {m m' : List Addr} (h : Pre m m') {n : Nat} (hn : n = m.length) : m'.take n = m := by
  obtain ⟨r, rfl⟩ := h
  subst hn
  simp
section
variable {K : PySem.W.Frag} {T : List (Addr × Str)} {H H' : Hp} {m m' : List Addr} {st : Sto}
/-- a new object beside the store's -/
theorem Ok.new {p : Addr} {o : HO} (h : Ok K T H m st) (hp : H p = none) : Ok K T (upd H p o) m st := by
  have le := Le.new (o := o) hp
  refine ⟨h.len, h.nd, fun i c hc => ?_, h.tabs.ext fun b u e => by rw [upd_ne (ne_of_none e hp)]; exact e⟩
  obtain ⟨a, h1, h2⟩ := h.cell i c hc
  refine ⟨a, h1, ?_⟩
  cases c with
  | lst ds =>
    obtain ⟨vs, h3, h4⟩ := h2
    exact ⟨vs, by rw [upd_ne (ne_of_none h3 hp)]; exact h3, h4.mono le (.refl m)⟩
  | ro ds =>
    obtain ⟨vs, h3, h4⟩ := h2
    exact ⟨vs, fun H' l => h3 H' (le.trans l), h4.mono le (.refl m)⟩
theorem Ok.lt {i : Nat} {a : Addr} (h : Ok K T H m st) (e : m[i]? = some a) : i < st.length := by
  rw [← h.len]; exact (List.getElem?_eq_some_iff.mp e).1
theorem CellOk.mono {a : Addr} {c : Cell} (l : Le H H') (p : Pre m m') (hk : ∀ vs, c = .lst vs → H' a = H a) (h : CellOk K H m a c) : CellOk K H' m' a c := by
  cases c with
  | lst ds =>
    obtain ⟨vs, h3, h4⟩ := h
    exact ⟨vs, by rw [hk _ rfl]; exact h3, h4.mono l p⟩
  | ro ds =>
    obtain ⟨vs, h3, h4⟩ := h
    exact ⟨vs, fun H2 l2 => h3 H2 (l.trans l2), h4.mono l p⟩
theorem Ok.lst {i : Nat} {ds : List D} (h : Ok K T H m st) (e : st[i]? = some (.lst ds)) : ∃ a vs, m[i]? = some a ∧ H a = some (.lst vs) ∧ Reps K H m ds vs := by
  obtain ⟨a, h1, vs, h2, h3⟩ := h.cell i _ e
  exact ⟨a, vs, h1, h2, h3⟩
/-- a new cell: a list -/
theorem Ok.newCell {p : Addr} {ds : List D} {vs : List V} (h : Ok K T H m st) (hp : H p = none) (r : Reps K H m ds vs) : Ok K T (upd H p (.lst vs)) (m ++ [p]) (st ++ [.lst ds]) := by
  have le := Le.new (o := .lst vs) hp
  have old : ∀ (i : Nat) (c : Cell) (a : Addr), (st ++ [Cell.lst ds])[i]? = some c → (m ++ [p])[i]? = some a → (st[i]? = some c ∧ m[i]? = some a) ∨ (i = st.length ∧ c = .lst ds ∧ a = p) := by
    intro i c a hc ha
    by_cases hi : i < st.length
    · rw [List.getElem?_append_left hi] at hc
      rw [List.getElem?_append_left (by rw [h.len]; exact hi)] at ha
      exact .inl ⟨hc, ha⟩
    · have hl : i = st.length := by
        have := (List.getElem?_eq_some_iff.mp hc).1
        simp at this; omega
      subst hl
      rw [← h.len] at ha
      simp at hc ha
      exact .inr ⟨rfl, hc.symm, ha.symm⟩
  have ne : ∀ (i : Nat) (xs : List D), st[i]? = some (.lst xs) → m[i]? ≠ some p := fun i xs e z => by
    obtain ⟨a, vs, h1, h2, _⟩ := h.lst e
    rw [z] at h1; cases h1
    rw [hp] at h2; cases h2
  refine ⟨by simp [h.len], fun i j a xs ys h1 h2 h3 h4 => ?_, fun i c hc => ?_, h.tabs.ext fun b u e => by rw [upd_ne (ne_of_none e hp)]; exact e⟩
  · rcases old i _ a h3 h1 with ⟨p1, p2⟩ | ⟨p1, p2, p3⟩
    · rcases old j _ a h4 h2 with ⟨q1, q2⟩ | ⟨q1, q2, q3⟩
      · exact h.nd i j a xs ys p2 q2 p1 q1
      · exact absurd (q3 ▸ p2) (ne i xs p1)
    · rcases old j _ a h4 h2 with ⟨q1, q2⟩ | ⟨q1, q2, q3⟩
      · exact absurd (p3 ▸ q2) (ne j ys q1)
      · rw [p1, q1]
  · by_cases hi : i < st.length
    · rw [List.getElem?_append_left hi] at hc
      obtain ⟨a, h1, h2⟩ := h.cell i c hc
      refine ⟨a, by rw [List.getElem?_append_left (by rw [h.len]; exact hi)]; exact h1, ?_⟩
      refine h2.mono le (.add m p) fun ds hd => upd_ne fun z => ?_
      subst hd
      exact ne i _ hc (z ▸ h1)
    · have hl : i = st.length := by
        have := (List.getElem?_eq_some_iff.mp hc).1
        simp at this; omega
      subst hl
      simp at hc
      subst hc
      exact ⟨p, by rw [← h.len]; simp, vs, upd_same, r.mono le (.add m p)⟩
/-- a list is changed -/
theorem Ok.setCell {i : Nat} {a : Addr} {xs ds : List D} {ws vs : List V} (h : Ok K T H m st) (hi : st[i]? = some (.lst xs)) (hm : m[i]? = some a) (ha : H a = some (.lst ws)) (r : Reps K H m ds vs) : Ok K T (upd H a (.lst vs)) m (st.set i (.lst ds)) := by
  have le := Le.set (o := .lst vs) ha
  have hl : i < st.length := (List.getElem?_eq_some_iff.mp hi).1
  have kind : ∀ (j : Nat) (ys : List D), (st.set i (.lst ds))[j]? = some (.lst ys) → ∃ zs, st[j]? = some (.lst zs) := fun j ys e => by
    by_cases hj : i = j
    · subst hj; exact ⟨xs, hi⟩
    · rw [List.getElem?_set_ne hj] at e; exact ⟨ys, e⟩
  refine ⟨by simp [h.len], fun j k b ys zs h1 h2 h3 h4 => ?_, fun j c hc => ?_, fun p hp => ?_⟩
  · obtain ⟨ys', h3⟩ := kind j ys h3
    obtain ⟨zs', h4⟩ := kind k zs h4
    exact h.nd j k b ys' zs' h1 h2 h3 h4
  · by_cases hj : i = j
    · subst hj
      rw [List.getElem?_set_self hl] at hc
      cases hc
      exact ⟨a, hm, vs, upd_same, r.mono le (.refl m)⟩
    · rw [List.getElem?_set_ne hj] at hc
      obtain ⟨b, h1, h2⟩ := h.cell j c hc
      refine ⟨b, h1, h2.mono le (.refl m) fun ds' hd => upd_ne fun z => ?_⟩
      subst hd
      exact hj (h.nd i j a xs ds' hm (z ▸ h1) hi hc)
  · obtain ⟨ps, h1, h2, h3⟩ := h.tabs p hp
    refine ⟨ps, by rw [upd_ne (ne_of h1 ha (by intro z; cases z))]; exact h1, h2, fun pos cv hc => ?_⟩
    obtain ⟨c, e1, e2⟩ := h3 pos cv hc
    exact ⟨c, e1, by rw [upd_ne (ne_of e2 ha (by intro z; unfold LamX.CodeO at z; cases z))]; exact e2⟩
end

/-! ### what a result means -/
section
variable (K : PySem.W.Frag) (T : List (Addr × Str)) (mg : Str → Option Value) (W : WX)
/-- the result r, told of what stands at H, m: what must hold so that what follows, Q, holds -/
def Den {a b : Type} (RA : Hp → List Addr → a → b → Prop) (s : L2.St) (H : Hp) (m : List Addr) (r : R a) (Q : b → Hp → Prop) : Prop :=
  match r with
  | .no => False
  | .ok x st' => ∀ y H' m', Le H H' → Pre m m' → Ok K T H' m' st' → RA H' m' x y → Q y H'
  | .ex x st' => ∀ cls dd H' m', Le H H' → Pre m m' → Ok K T H' m' st' → XRep K mg H' m' x cls dd → W cls dd s H'
def RD (H : Hp) (m : List Addr) (d : D) (v : V) : Prop := Rep K H m d v
def RL (H : Hp) (m : List Addr) (d : List D) (v : List V) : Prop := Reps K H m d v
def RB (_ : Hp) (_ : List Addr) (x y : Bool) : Prop := x = y
def tE (f : EX) : TE := fun s H Q => ∃ e st m, EnvOk K H m s e ∧ Ok K T H m st ∧ Den K T mg W (RD K) s H m (f e st) Q
def tA (f : AX) : TA := fun s H Q => ∃ e st m, EnvOk K H m s e ∧ Ok K T H m st ∧ Den K T mg W (RL K) s H m (f e st) Q
def tT (f : BX) : TT := fun s H Q => ∃ e st m, EnvOk K H m s e ∧ Ok K T H m st ∧ Den K T mg W RB s H m (f e st) Q
def DenS (H : Hp) (m : List Addr) (r : RS) (F : Ends) : Prop :=
  match r with
  | .no => False
  | .nx e st' => ∀ s' H' m', Le H H' → Pre m m' → Ok K T H' m' st' → EnvOk K H' m' s' e → F.nx s' H'
  | .ct e st' => ∀ s' H' m', Le H H' → Pre m m' → Ok K T H' m' st' → EnvOk K H' m' s' e → F.ct s' H'
  | .brk e st' => ∀ s' H' m', Le H H' → Pre m m' → Ok K T H' m' st' → EnvOk K H' m' s' e → F.bk s' H'
  | .ret d st' => ∀ v H' m', Le H H' → Pre m m' → Ok K T H' m' st' → Rep K H' m' d v → F.rt v H'
  | .exc x e st' => ∀ cls dd s' H' m', Le H H' → Pre m m' → Ok K T H' m' st' → EnvOk K H' m' s' e → XRep K mg H' m' x cls dd → W cls dd s' H'
def tS (f : SX) : TS := fun F s H => ∃ e st m, EnvOk K H m s e ∧ Ok K T H m st ∧ DenS K T mg W H m (f e st) F
end
section
variable {K : PySem.W.Frag} {T : List (Addr × Str)} {mg : Str → Option Value} {W : WX} {s : L2.St} {H H1 : Hp} {m m1 : List Addr} {st : Sto} {e : Env}
theorem Den.bind {a b c d : Type} {RA : Hp → List Addr → a → b → Prop} {RC : Hp → List Addr → c → d → Prop} {r : R a} {k : a → Sto → R c} {Q : d → Hp → Prop}
    (h : Den K T mg W RC s H m (r.bind k) Q) {Q' : b → Hp → Prop} (q : ∀ x y st1 H1 m1, r = .ok x st1 → Le H H1 → Pre m m1 → Ok K T H1 m1 st1 → RA H1 m1 x y → Den K T mg W RC s H1 m1 (k x st1) Q → Q' y H1) : Den K T mg W RA s H m r Q' := by
  cases r with
  | no => exact h
  | ok x st1 =>
    intro y H1 m1 le pr ok ra
    refine q x y st1 H1 m1 rfl le pr ok ra ?_
    have h' : Den K T mg W RC s H m (k x st1) Q := h
    revert h'
    generalize k x st1 = r2
    intro h'
    cases r2 with
    | no => exact h'
    | ok x2 st2 => exact fun y2 H2 m2 l2 p2 => h' y2 H2 m2 (le.trans l2) (pr.trans p2)
    | ex x2 st2 => exact fun cls dd H2 m2 l2 p2 => h' cls dd H2 m2 (le.trans l2) (pr.trans p2)
  | ex x st1 => exact h
theorem Den.of_ok {a b : Type} {RA : Hp → List Addr → a → b → Prop} {x : a} {y : b} {Q : b → Hp → Prop} (h : Den K T mg W RA s H m (.ok x st) Q) (le : Le H H1) (pr : Pre m m1) (ok : Ok K T H1 m1 st) (r : RA H1 m1 x y) : Q y H1 := h y H1 m1 le pr ok r
end

/-! ### expressions -/
section
variable {X : Cx} {t t' : TE} {u u' : TT} {w w' : TA} {v v' : TS} {ex : Expr} {es : List Expr} {sm : Stmt} {sms : List Stmt}
theorem pe_weak (h : PE X ex t) (k : ∀ s H Q, t' s H Q → t s H Q) : PE X ex t' := ⟨fun pins s σ H Q I hw => h.run pins s σ H Q I (k σ H Q hw)⟩
theorem pt_weak (h : PT X ex u) (k : ∀ s H Q, u' s H Q → u s H Q) : PT X ex u' := ⟨fun pins s σ H Q I hw => h.run pins s σ H Q I (k σ H Q hw)⟩
theorem pa_weak (h : PA X es w) (k : ∀ s H Q, w' s H Q → w s H Q) : PA X es w' := ⟨fun pos pins s σ H Q I hw => h.run pos pins s σ H Q I (k σ H Q hw)⟩
theorem ps_weak (h : PS X sm v) (k : ∀ F s H, v' F s H → v F s H) : PS X sm v' := ⟨fun pins s σ H D I hw => h.run pins s σ H D I (k D σ H hw)⟩
theorem pss_weak (h : PSs X sms v) (k : ∀ F s H, v' F s H → v F s H) : PSs X sms v' := ⟨fun pins s σ H D I hw => h.run pins s σ H D I (k D σ H hw)⟩
end
abbrev J (X : Cx) (T : List (Addr × Str)) (W : WX) (ex : Expr) (f : EX) : Prop := PE X ex (tE X.K T X.mg W f)
abbrev JT (X : Cx) (T : List (Addr × Str)) (W : WX) (ex : Expr) (f : BX) : Prop := PT X ex (tT X.K T X.mg W f)
structure JA (X : Cx) (T : List (Addr × Str)) (W : WX) (es : List Expr) (f : AX) : Prop where
  pa : PA X es (tA X.K T X.mg W f)
  len : ∀ e st ds st', f e st = .ok ds st' → ds.length = es.length
abbrev JS (X : Cx) (T : List (Addr × Str)) (W : WX) (sm : Stmt) (f : SX) : Prop := PS X sm (tS X.K T X.mg W f)
abbrev JB (X : Cx) (T : List (Addr × Str)) (W : WX) (sms : List Stmt) (f : SX) : Prop := PSs X sms (tS X.K T X.mg W f)

def eV (i : Nat) : EX := fun e st => match e[i]? with
  | some (some d) => .ok d st
  | _ => .no
def eC (d : D) : EX := fun _ st => .ok d st
abbrev O1 := D → Sto → Option (D × Sto)
abbrev O2 := D → D → Sto → Option (D × Sto)
abbrev ON := List D → Sto → Option (D × Sto)
def R.of : Option (D × Sto) → R D
  | some (d, st) => .ok d st
  | none => .no
def e1 (o : O1) (a : EX) : EX := fun e st => (a e st).bind fun x st1 => .of (o x st1)
def e2 (o : O2) (a b : EX) : EX := fun e st => (a e st).bind fun x st1 => (b e st1).bind fun y st2 => .of (o x y st2)
def eN (o : ON) (as : AX) : EX := fun e st => (as e st).bind fun ds st1 => .of (o ds st1)
def aN : AX := fun _ st => .ok [] st
def aC (a : EX) (r : AX) : AX := fun e st => (a e st).bind fun x st1 => (r e st1).bind fun xs st2 => .ok (x :: xs) st2
def eCall (g : List D → Sto → R D) (as : AX) : EX := fun e st => (as e st).bind fun ds st1 => g ds st1
def eTup (as : AX) : EX := fun e st => (as e st).bind fun ds st1 => .ok (.tup ds) st1
def eLst (as : AX) : EX := fun e st => (as e st).bind fun ds st1 => .ok (.ref st1.length) (st1 ++ [.lst ds])
def eIf (c : BX) (a b : EX) : EX := fun e st => (c e st).bind fun k st1 => if k = true then a e st1 else b e st1
/-- a op b op' c -/
def eCh (o o' : O2) (a b c : EX) : EX := fun e st => (a e st).bind fun x st1 => (b e st1).bind fun y st2 => (R.of (o x y st2)).bind fun z st3 => match z with
  | .bl true => (c e st3).bind fun w st4 => .of (o' y w st4)
  | .bl false => .ok (.bl false) st3
  | _ => .no
def eAnd (a b : EX) : EX := fun e st => (a e st).bind fun x st1 => match x with
  | .bl true => b e st1
  | .bl false => .ok (.bl false) st1
  | _ => .no
def eOr (a b : EX) : EX := fun e st => (a e st).bind fun x st1 => match x with
  | .bl true => .ok (.bl true) st1
  | .bl false => b e st1
  | _ => .no
def eNot (a : EX) : EX := fun e st => (a e st).bind fun x st1 => match x with
  | .bl k => .ok (.bl (!k)) st1
  | _ => .no
def bB (a : EX) : BX := fun e st => (a e st).bind fun x st1 => match x with
  | .bl k => .ok k st1
  | _ => .no
def bAnd (a b : BX) : BX := fun e st => (a e st).bind fun x st1 => if x = true then b e st1 else .ok false st1
def bOr (a b : BX) : BX := fun e st => (a e st).bind fun x st1 => if x = true then .ok true st1 else b e st1
def bNot (a : BX) : BX := fun e st => (a e st).bind fun x st1 => .ok (!x) st1
/-- the truth of a value -/
def tru (st : Sto) : D → Option Bool
  | .non => some false
  | .bl b => some b
  | .int i => some (i != 0)
  | .tup xs => some (!xs.isEmpty)
  | .ref i => match st[i]? with
    | some (.lst xs) => some (!xs.isEmpty)
    | some (.ro xs) => some (!xs.isEmpty)
    | none => none
  | .str _ => none
def bTru (a : EX) : BX := fun e st => (a e st).bind fun x st1 => match tru st1 x with
  | some k => .ok k st1
  | none => .no

def DenO (K : PySem.W.Frag) (T : List (Addr × Str)) (H : Hp) (m : List Addr) (r : Option (D × Sto)) (Q : VK) : Prop :=
  match r with
  | none => False
  | some (d, st') => ∀ v H' m', Le H H' → Pre m m' → Ok K T H' m' st' → Rep K H' m' d v → Q v H'
def r1 (K : PySem.W.Frag) (T : List (Addr × Str)) (o : O1) : V → Hp → VK → Prop := fun x H Q => ∃ dx st m, Rep K H m dx x ∧ Ok K T H m st ∧ DenO K T H m (o dx st) Q
def r2 (K : PySem.W.Frag) (T : List (Addr × Str)) (o : O2) : R2 := fun x y H Q => ∃ dx dy st m, Rep K H m dx x ∧ Rep K H m dy y ∧ Ok K T H m st ∧ DenO K T H m (o dx dy st) Q
def rN (K : PySem.W.Frag) (T : List (Addr × Str)) (o : ON) : List V → Hp → VK → Prop := fun xs H Q => ∃ ds st m, Reps K H m ds xs ∧ Ok K T H m st ∧ DenO K T H m (o ds st) Q
theorem den_of {K : PySem.W.Frag} {T : List (Addr × Str)} {mg : Str → Option Value} {W : WX} {s : L2.St} {H : Hp} {m : List Addr} {r : Option (D × Sto)} {Q : VK} (h : Den K T mg W (RD K) s H m (.of r) Q) : DenO K T H m r Q := by
  cases r with
  | none => exact h
  | some p => exact h
section
variable {X : Cx} {T : List (Addr × Str)} {W : WX} {a b c : Expr} {fa fb fc : EX} {pos : Pos}
theorem j_var {i : Nat} {x : Str} (h : PE X (.Name x pos) (tVar i)) : J X T W (.Name x pos) (eV i) := pe_weak h fun s H Q ⟨e, st, m, he, ok, h⟩ => by
  unfold eV at h
  split at h
  · rename_i d hd
    obtain ⟨v, h1, h2⟩ := he.2 i d hd
    exact ⟨v, h1, h v H m (.refl H) (.refl m) ok h2⟩
  · exact False.elim h
theorem j_c {d : D} {v : V} (h : PE X a (tC v)) (r : ∀ H m, Rep X.K H m d v) : J X T W a (eC d) := pe_weak h fun s H Q ⟨e, st, m, he, ok, h⟩ => h v H m (.refl H) (.refl m) ok (r H m)
theorem j_int {i j} : J X T W (.Constant (.int i) j pos) (eC (.int i)) := j_c pe_int fun _ _ => rfl
theorem j_bl {i j} : J X T W (.Constant (.bool i) j pos) (eC (.bl i)) := j_c pe_bl fun _ _ => rfl
theorem j_non {j} : J X T W (.Constant .none j pos) (eC .non) := j_c pe_non fun _ _ => rfl
theorem j_str {i j} : J X T W (.Constant (.str i) j pos) (eC (.str i)) := j_c pe_str fun _ _ => rfl
theorem j_un {op : UnaryOp} {o : O1} (hr : UnR X (unaryOp op) (r1 X.K T o)) (ha : J X T W a fa) : J X T W (.UnaryOp op a pos) (e1 o fa) := pe_weak (pe_un hr ha) fun s H Q ⟨e, st, m, he, ok, h⟩ =>
  ⟨e, st, m, he, ok, h.bind fun dx x st1 H1 m1 _ l1 p1 ok1 rx h1 => ⟨dx, st1, m1, rx, ok1, den_of h1⟩⟩
theorem bin_weak {f : R2} {o : O2} (hf : f = r2 X.K T o) {s : L2.St} {H : Hp} {Q : VK} (h : tE X.K T X.mg W (e2 o fa fb) s H Q) : tOp f (tE X.K T X.mg W fa) (tE X.K T X.mg W fb) s H Q := by
  subst hf
  obtain ⟨e, st, m, he, ok, h⟩ := h
  refine ⟨e, st, m, he, ok, h.bind fun dx x st1 H1 m1 _ l1 p1 ok1 rx h1 => ?_⟩
  refine ⟨e, st1, m1, he.mono l1 p1, ok1, h1.bind fun dy y st2 H2 m2 _ l2 p2 ok2 ry h2 => ?_⟩
  exact ⟨dx, dy, st2, m2, rx.mono l2 p2, ry, ok2, den_of h2⟩
theorem j_bin {op : Operator} {o : O2} (hr : OpR X (binaryOp op) (r2 X.K T o)) (ha : J X T W a fa) (hb : J X T W b fb) : J X T W (.BinOp a op b pos) (e2 o fa fb) := pe_weak (pe_op hr ha hb) fun s H Q => bin_weak rfl
theorem j_cmp {op : CmpOp} {o : O2} (hr : OpR X (compareOp op) (r2 X.K T o)) (ha : J X T W a fa) (hb : J X T W b fb) (hm : behindInMarks op b = false) : J X T W (.Compare a [op] [b] pos) (e2 o fa fb) := pe_weak (pe_cmpR hr ha hb hm) fun s H Q => bin_weak rfl
theorem j_ix {o : O2} (hr : IxR X (r2 X.K T o)) (ha : J X T W a fa) (hb : J X T W b fb) (hs : PlainIx b) : J X T W (.Subscript a b pos) (e2 o fa fb) := pe_weak (pe_ix hr ha hb hs) fun s H Q => bin_weak rfl
theorem j_chain {op op' : CmpOp} {o o' : O2} (hr : OpR X (compareOp op) (r2 X.K T o)) (hr' : OpR X (compareOp op') (r2 X.K T o')) (ha : J X T W a fa) (hb : J X T W b fb) (hc : J X T W c fc) (hm : lastMarks [op, op'] [b, c] = false := by rfl) :
    J X T W (.Compare a [op, op'] [b, c] pos) (eCh o o' fa fb fc) := pe_weak (pe_chain hr hr' ha hb hc hm) fun s H Q h => by
  obtain ⟨e, st, m, he, ok, h⟩ := h
  refine ⟨e, st, m, he, ok, h.bind fun dx x st1 H1 m1 _ l1 p1 ok1 rx h1 => ?_⟩
  refine ⟨e, st1, m1, he.mono l1 p1, ok1, h1.bind fun dy y st2 H2 m2 _ l2 p2 ok2 ry h2 => ?_⟩
  refine ⟨dx, dy, st2, m2, rx.mono l2 p2, ry, ok2, den_of (mg := X.mg) (W := W) (s := s) (h2.bind fun dz z st3 H3 m3 _ l3 p3 ok3 rz h3 => ?_)⟩
  cases dz with
  | bl k =>
    refine ⟨k, rz, ?_⟩
    cases k with
    | true =>
      rw [if_pos rfl]
      refine ⟨e, st3, m3, ((he.mono l1 p1).mono l2 p2).mono l3 p3, ok3, h3.bind fun dw w st4 H4 m4 _ l4 p4 ok4 rw' h4 => ?_⟩
      exact ⟨dy, dw, st4, m4, (ry.mono l3 p3).mono l4 p4, rw', ok4, den_of h4⟩
    | false =>
      rw [if_neg Bool.false_ne_true]
      exact h3 _ H3 m3 (.refl H3) (.refl m3) ok3 rfl
  | non => exact False.elim h3
  | int _ => exact False.elim h3
  | str _ => exact False.elim h3
  | tup _ => exact False.elim h3
  | ref _ => exact False.elim h3
end
end Mm

namespace Mm
open PySem L2
section
variable {X : Cx} {T : List (Addr × Str)} {W : WX} {a b c : Expr} {fa fb fc : EX} {pos : Pos} {es : List Expr} {fr : AX}
/-! arguments -/
theorem ja_nil : JA X T W [] aN := ⟨pa_weak pa_nil fun s H Q ⟨e, st, m, he, ok, h⟩ => h [] H m (.refl H) (.refl m) ok rfl, fun e st ds st' h => by cases h; rfl⟩
theorem ja_cons (ha : J X T W a fa) (hr : JA X T W es fr) (hs : starEach (a :: es) X.env = (false, eval a X.env) :: starEach es X.env := by rfl) : JA X T W (a :: es) (aC fa fr) := by
  refine ⟨pa_weak (pa_cons ha hr.pa hs) fun s H Q ⟨e, st, m, he, ok, h⟩ => ?_, fun e st ds st' h => ?_⟩
  · refine ⟨e, st, m, he, ok, h.bind fun dx x st1 H1 m1 _ l1 p1 ok1 rx h1 => ?_⟩
    refine ⟨e, st1, m1, he.mono l1 p1, ok1, h1.bind fun ds xs st2 H2 m2 _ l2 p2 ok2 rs h2 => ?_⟩
    exact h2 (x :: xs) H2 m2 (.refl H2) (.refl m2) ok2 ⟨x, xs, rfl, rx.mono l2 p2, rs⟩
  · unfold aC at h
    cases h1 : fa e st with
    | no => rw [h1] at h; cases h
    | ex x st1 => rw [h1] at h; cases h
    | ok x st1 =>
      rw [h1] at h
      have h : (fr e st1).bind (fun xs st2 => R.ok (x :: xs) st2) = .ok ds st' := h
      cases h2 : fr e st1 with
      | no => rw [h2] at h; cases h
      | ex x st1 => rw [h2] at h; cases h
      | ok xs st2 =>
        rw [h2] at h
        cases h
        simp [hr.len e st1 xs _ h2]
theorem Den.len {K : PySem.W.Frag} {mg : Str → Option Value} {s : L2.St} {H : Hp} {m : List Addr} {e : Env} {st : Sto} (hr : JA X T W es fr) {Q : List V → Hp → Prop}
    {x : List D} {y : List V} {H1 : Hp} {m1 : List Addr} {st1 : Sto} (h : fr e st = .ok x st1) (r : Reps K H1 m1 x y) : y.length = es.length := by
  rw [← r.length]; exact hr.len _ _ _ _ h
/-- a tuple display, the new object without a dict of its own -/
def tTupN (t : TA) : TE := fun σ H Q => t σ H fun xs H1 => xs.length ≤ sizeLine ∧ ∀ p o, H1 p = none → o.dict = none → Q (.ref p) (upd H1 p (.frz o (.tup xs)))
theorem pe_tupN {X : Cx} {es : List Expr} {t : TA} {k : Nat} {pos : Pos} (h : PA X es t) : PE X (.Tuple es k pos) (tTupN t) := ⟨fun pins s σ H Q I hq =>
  wpAny_Tuple_spliced (thn (h.run pos pins s σ H _ I hq) fun us s1 ⟨xs, H1, I1, r, z, q⟩ => ⟨by rw [← r.length]; exact z,
    .ref s1.heap.objs.size, _, I1.laid (t' := s1.toks) (o := .frz (tupO us) (.tup xs)) (fun b u e => Heap.get?_push_of_some _ e) (Nat.le_refl _) ⟨Heap.get?_push_size _ rfl, z, us, r, _, Heap.get?_push_size _ rfl, rfl, _, rfl⟩, rfl, q _ _ (I1.hok.fresh (Nat.le_refl _)) rfl⟩)⟩
theorem j_tup {k : Nat} (hr : JA X T W es fr) (hl : es.length ≤ lim := by decide) : J X T W (.Tuple es k pos) (eTup fr) := pe_weak (pe_tupN hr.pa) fun s H Q ⟨e, st, m, he, ok, h⟩ =>
  ⟨e, st, m, he, ok, h.bind fun ds xs st1 H1 m1 hf l1 p1 ok1 rs h1 => by
    have hn : xs.length = es.length := by rw [← Reps.length rs]; exact hr.len _ _ _ _ hf
    refine ⟨lim_le (by rw [hn]; exact hl), fun p o hp ho => ?_⟩
    exact h1 _ _ m1 (Le.new hp) (.refl m1) (ok1.new hp) ⟨p, xs, rfl, .new ho, Reps.mono (Le.new hp) (.refl m1) rs⟩⟩
theorem j_lst (hr : JA X T W es fr) (hl : es.length ≤ lim := by decide) : J X T W (.List es pos) (eLst fr) := pe_weak (pe_lst hr.pa) fun s H Q ⟨e, st, m, he, ok, h⟩ =>
  ⟨e, st, m, he, ok, h.bind fun ds xs st1 H1 m1 hf l1 p1 ok1 rs h1 => by
    have hn : xs.length = es.length := by rw [← Reps.length rs]; exact hr.len _ _ _ _ hf
    refine ⟨lim_le (by rw [hn]; exact hl), fun p hp => ?_⟩
    exact h1 _ _ (m1 ++ [p]) (Le.new hp) (.add m1 p) (ok1.newCell hp rs) ⟨p, by rw [← ok1.len]; simp, rfl⟩⟩
/-! tests, and, or, not -/
variable {ba bb : BX}
theorem jt_val (ha : J X T W a fa) (he : ∀ whole, isTrue a X.env whole = (do let v ← whole; standAt a.pos; holding [v] (truthy v)) := by intro _; rfl) : JT X T W a (bB fa) := pt_weak (pt_val ha he) fun s H Q ⟨e, st, m, he, ok, h⟩ =>
  ⟨e, st, m, he, ok, h.bind fun dx x st1 H1 m1 _ l1 p1 ok1 rx h1 => by
    cases dx with
    | bl k => exact ⟨k, rx, h1 k H1 m1 (.refl H1) (.refl m1) ok1 rfl⟩
    | non | int _ | str _ | tup _ | ref _ => exact False.elim h1⟩
theorem tru_ok {K : PySem.W.Frag} {H : Hp} {m : List Addr} {st : Sto} {d : D} {x : V} {k : Bool} (ok : Ok K T H m st) (r : Rep K H m d x) (h : tru st d = some k) : TruV K x H k := by
  cases d with
  | non => cases r; cases h; rfl
  | bl b => cases r; cases h; rfl
  | int i => cases r; cases h; rfl
  | str z => cases h
  | tup xs =>
    obtain ⟨a, vs, rfl, hs, hr⟩ := r
    cases h
    refine .inr (.inl ⟨vs, hs.sq, ?_⟩)
    have e := Reps.length hr
    cases xs <;> cases vs <;> simp_all
  | ref i =>
    obtain ⟨a, hm, rfl⟩ := r
    unfold tru at h
    cases hc : st[i]? with
    | none => simp [hc] at h
    | some c =>
      obtain ⟨a', h1, h2⟩ := ok.cell i c hc
      rw [hm] at h1; cases h1
      obtain ⟨ds, vs, hcs, hl, hr⟩ := h2.list
      have e := Reps.length hr
      refine .inl ⟨vs, hl, ?_⟩
      have hk : k = !ds.isEmpty := by
        rcases hcs with rfl | rfl <;> simp only [hc, Option.some.injEq] at h <;> exact h.symm
      rw [hk]
      cases ds <;> cases vs <;> simp_all
theorem jt_tru (ha : J X T W a fa) (he : ∀ whole, isTrue a X.env whole = (do let v ← whole; standAt a.pos; holding [v] (truthy v)) := by intro _; rfl) : JT X T W a (bTru fa) := pt_weak (pt_truth ha he) fun s H Q ⟨e, st, m, he, ok, h⟩ =>
  ⟨e, st, m, he, ok, h.bind fun dx x st1 H1 m1 _ l1 p1 ok1 rx h1 => by
    cases hk : tru st1 dx with
    | none => rw [hk] at h1; exact False.elim h1
    | some k =>
      rw [hk] at h1
      exact ⟨k, tru_ok ok1 rx hk, h1 k H1 m1 (.refl H1) (.refl m1) ok1 rfl⟩⟩
theorem test_weak {f : TE} {s : L2.St} {H : Hp} {Q : Bool → Hp → Prop} {o : EX} (k : ∀ s H Q, tE X.K T X.mg W o s H Q → f s H Q) (h : tT X.K T X.mg W (bB o) s H Q) : tTest f s H Q := by
  refine k _ _ _ ?_
  obtain ⟨e, st, m, he, ok, h⟩ := h
  exact ⟨e, st, m, he, ok, h.bind fun dx x st1 H1 m1 _ l1 p1 ok1 rx h1 => by
    cases dx with
    | bl k => exact ⟨k, rx, h1 k H1 m1 (.refl H1) (.refl m1) ok1 rfl⟩
    | non | int _ | str _ | tup _ | ref _ => exact False.elim h1⟩
theorem jt_cmp {op : CmpOp} {o : O2} (hr : OpR X (compareOp op) (r2 X.K T o)) (ha : J X T W a fa) (hb : J X T W b fb) (hm : behindInMarks op b = false) : JT X T W (.Compare a [op] [b] pos) (bB (e2 o fa fb)) :=
  pt_weak (pt_cmpR hr ha hb hm) fun s H Q => test_weak fun s H Q => bin_weak rfl
theorem chain_weak {op op' : CmpOp} {o o' : O2} {s : L2.St} {H : Hp} {Q : VK} (h : tE X.K T X.mg W (eCh o o' fa fb fc) s H Q) : tChain (r2 X.K T o) (r2 X.K T o') (tE X.K T X.mg W fa) (tE X.K T X.mg W fb) (tE X.K T X.mg W fc) s H Q := by
  obtain ⟨e, st, m, he, ok, h⟩ := h
  refine ⟨e, st, m, he, ok, h.bind fun dx x st1 H1 m1 _ l1 p1 ok1 rx h1 => ?_⟩
  refine ⟨e, st1, m1, he.mono l1 p1, ok1, h1.bind fun dy y st2 H2 m2 _ l2 p2 ok2 ry h2 => ?_⟩
  refine ⟨dx, dy, st2, m2, rx.mono l2 p2, ry, ok2, den_of (mg := X.mg) (W := W) (s := s) (h2.bind fun dz z st3 H3 m3 _ l3 p3 ok3 rz h3 => ?_)⟩
  cases dz with
  | bl k =>
    refine ⟨k, rz, ?_⟩
    cases k with
    | true =>
      rw [if_pos rfl]
      refine ⟨e, st3, m3, ((he.mono l1 p1).mono l2 p2).mono l3 p3, ok3, h3.bind fun dw w st4 H4 m4 _ l4 p4 ok4 rw' h4 => ?_⟩
      exact ⟨dy, dw, st4, m4, (ry.mono l3 p3).mono l4 p4, rw', ok4, den_of h4⟩
    | false =>
      rw [if_neg Bool.false_ne_true]
      exact h3 _ H3 m3 (.refl H3) (.refl m3) ok3 rfl
  | non | int _ | str _ | tup _ | ref _ => exact False.elim h3
theorem jt_chain {op op' : CmpOp} {o o' : O2} (hr : OpR X (compareOp op) (r2 X.K T o)) (hr' : OpR X (compareOp op') (r2 X.K T o')) (ha : J X T W a fa) (hb : J X T W b fb) (hc : J X T W c fc) (hm : lastMarks [op, op'] [b, c] = false := by rfl) :
    JT X T W (.Compare a [op, op'] [b, c] pos) (bB (eCh o o' fa fb fc)) := pt_weak (pt_chain hr hr' ha hb hc hm) fun s H Q => test_weak fun s H Q => chain_weak (op := op) (op' := op')
abbrev JW (X : Cx) (T : List (Addr × Str)) (W : WX) (ex : Expr) (f : BX) : Prop := PW X ex (tT X.K T X.mg W f)
theorem pw_weak {u u' : TT} {ex : Expr} (h : PW X ex u) (k : ∀ s H Q, u' s H Q → u s H Q) : PW X ex u' := ⟨fun wh pins s σ H Q I hw => h.run wh pins s σ H Q I (k σ H Q hw)⟩
theorem jw_and1 (ha : JT X T W a ba) : JW X T W (.BoolOp .And [a] pos) ba := pw_and1 ha
theorem jw_or1 (ha : JT X T W a ba) : JW X T W (.BoolOp .Or [a] pos) ba := pw_or1 ha
theorem jw_and {rest : List Expr} (ha : JT X T W a ba) (hb : JW X T W (.BoolOp .And (b :: rest) pos) bb) : JW X T W (.BoolOp .And (a :: b :: rest) pos) (bAnd ba bb) := pw_weak (pw_and ha hb) fun s H Q ⟨e, st, m, he, ok, h⟩ =>
  ⟨e, st, m, he, ok, h.bind fun x y st1 H1 m1 _ l1 p1 ok1 rx h1 => by
    cases rx
    cases x with
    | true => exact ⟨e, st1, m1, he.mono l1 p1, ok1, h1⟩
    | false => exact h1 false H1 m1 (.refl H1) (.refl m1) ok1 rfl⟩
theorem jw_or {rest : List Expr} (ha : JT X T W a ba) (hb : JW X T W (.BoolOp .Or (b :: rest) pos) bb) : JW X T W (.BoolOp .Or (a :: b :: rest) pos) (bOr ba bb) := pw_weak (pw_or ha hb) fun s H Q ⟨e, st, m, he, ok, h⟩ =>
  ⟨e, st, m, he, ok, h.bind fun x y st1 H1 m1 _ l1 p1 ok1 rx h1 => by
    cases rx
    cases x with
    | true => exact h1 true H1 m1 (.refl H1) (.refl m1) ok1 rfl
    | false => exact ⟨e, st1, m1, he.mono l1 p1, ok1, h1⟩⟩
theorem jt_w (h : JW X T W a ba) : JT X T W a ba := h.pt
theorem jt_not (ha : JT X T W a ba) : JT X T W (.UnaryOp .Not a pos) (bNot ba) := pt_weak (pt_not ha) fun s H Q ⟨e, st, m, he, ok, h⟩ =>
  ⟨e, st, m, he, ok, h.bind fun x y st1 H1 m1 _ l1 p1 ok1 rx h1 => by
    cases rx
    exact h1 (!x) H1 m1 (.refl H1) (.refl m1) ok1 rfl⟩
/-- and, or, not as values -/
theorem j_one {op : BoolOp} (ha : J X T W a fa) : J X T W (.BoolOp op [a] pos) fa := pe_one ha
def eAndT (a b : EX) : EX := fun e st => (a e st).bind fun x st1 => match tru st1 x with
  | some true => b e st1
  | some false => .ok x st1
  | none => .no
def eOrT (a b : EX) : EX := fun e st => (a e st).bind fun x st1 => match tru st1 x with
  | some true => .ok x st1
  | some false => b e st1
  | none => .no
def eNotT (a : EX) : EX := fun e st => (a e st).bind fun x st1 => match tru st1 x with
  | some k => .ok (.bl (!k)) st1
  | none => .no
theorem j_and {rest : List Expr} (ha : J X T W a fa) (hb : J X T W (.BoolOp .And (b :: rest) pos) fb) : J X T W (.BoolOp .And (a :: b :: rest) pos) (eAndT fa fb) := pe_weak (pe_andT ha hb) fun s H Q ⟨e, st, m, he, ok, h⟩ =>
  ⟨e, st, m, he, ok, h.bind fun dx x st1 H1 m1 _ l1 p1 ok1 rx h1 => by
    cases hk : tru st1 dx with
    | none => rw [hk] at h1; exact False.elim h1
    | some k =>
      rw [hk] at h1
      refine ⟨k, tru_ok ok1 rx hk, ?_⟩
      cases k with
      | true => exact ⟨e, st1, m1, he.mono l1 p1, ok1, h1⟩
      | false => exact h1 x H1 m1 (.refl H1) (.refl m1) ok1 rx⟩
theorem j_or {rest : List Expr} (ha : J X T W a fa) (hb : J X T W (.BoolOp .Or (b :: rest) pos) fb) : J X T W (.BoolOp .Or (a :: b :: rest) pos) (eOrT fa fb) := pe_weak (pe_orT ha hb) fun s H Q ⟨e, st, m, he, ok, h⟩ =>
  ⟨e, st, m, he, ok, h.bind fun dx x st1 H1 m1 _ l1 p1 ok1 rx h1 => by
    cases hk : tru st1 dx with
    | none => rw [hk] at h1; exact False.elim h1
    | some k =>
      rw [hk] at h1
      refine ⟨k, tru_ok ok1 rx hk, ?_⟩
      cases k with
      | true => exact h1 x H1 m1 (.refl H1) (.refl m1) ok1 rx
      | false => exact ⟨e, st1, m1, he.mono l1 p1, ok1, h1⟩⟩
theorem j_not (ha : J X T W a fa) : J X T W (.UnaryOp .Not a pos) (eNotT fa) := pe_weak (pe_notT ha) fun s H Q ⟨e, st, m, he, ok, h⟩ =>
  ⟨e, st, m, he, ok, h.bind fun dx x st1 H1 m1 _ l1 p1 ok1 rx h1 => by
    cases hk : tru st1 dx with
    | none => rw [hk] at h1; exact False.elim h1
    | some k =>
      rw [hk] at h1
      exact ⟨k, tru_ok ok1 rx hk, h1 _ H1 m1 (.refl H1) (.refl m1) ok1 rfl⟩⟩
theorem j_if (hc : JT X T W c ba) (ha : J X T W a fa) (hb : J X T W b fb) : J X T W (.IfExp c a b pos) (eIf ba fa fb) := pe_weak (pe_ifExp hc ha hb) fun s H Q ⟨e, st, m, he, ok, h⟩ =>
  ⟨e, st, m, he, ok, h.bind fun x y st1 H1 m1 _ l1 p1 ok1 rx h1 => by
    cases rx
    cases x with
    | true => exact ⟨e, st1, m1, he.mono l1 p1, ok1, h1⟩
    | false => exact ⟨e, st1, m1, he.mono l1 p1, ok1, h1⟩⟩
end

/-! ### statements -/
def sNx : SX := fun e st => .nx e st
def sSeq (f g : SX) : SX := fun e st => match f e st with
  | .nx e1 st1 => g e1 st1
  | r => r
def R.st (e : Env) (r : R D) (k : D → Sto → RS) : RS := match r with
  | .ok d st => k d st
  | .ex x st => .exc x e st
  | .no => .no
def sSet (i : Nat) (f : EX) : SX := fun e st => (f e st).st e fun d st1 => .nx (e.set i (some d)) st1
def sEx (f : EX) : SX := fun e st => (f e st).st e fun _ st1 => .nx e st1
def sRet (f : EX) : SX := fun e st => (f e st).st e fun d st1 => .ret d st1
def sRetN : SX := fun _ st => .ret .non st
def sBrk : SX := fun e st => .brk e st
def sCt : SX := fun e st => .ct e st
def sNo : SX := fun _ _ => .no
def sIf (c : BX) (f g : SX) : SX := fun e st => match c e st with
  | .ok true st1 => f e st1
  | .ok false st1 => g e st1
  | .ex x st1 => .exc x e st1
  | .no => .no
section
variable {X : Cx} {T : List (Addr × Str)} {W : WX} {a b c : Expr} {fa fb fc : EX} {pos : Pos} {es : List Expr} {fr : AX} {ba : BX} {sm : Stmt} {l1 l2 : List Stmt} {f g : SX}
theorem DenS.mono {K : PySem.W.Frag} {mg : Str → Option Value} {H H' : Hp} {m m' : List Addr} {r : RS} {F : Ends} (h : DenS K T mg W H m r F) (l : Le H H') (p : Pre m m') : DenS K T mg W H' m' r F := by
  cases r with
  | no => exact h
  | nx e st => exact fun s' H2 m2 l2 p2 => h s' H2 m2 (l.trans l2) (p.trans p2)
  | ct e st => exact fun s' H2 m2 l2 p2 => h s' H2 m2 (l.trans l2) (p.trans p2)
  | brk e st => exact fun s' H2 m2 l2 p2 => h s' H2 m2 (l.trans l2) (p.trans p2)
  | ret d st => exact fun s' H2 m2 l2 p2 => h s' H2 m2 (l.trans l2) (p.trans p2)
  | exc x e st => exact fun cls dd s' H2 m2 l2 p2 => h cls dd s' H2 m2 (l.trans l2) (p.trans p2)
/-- an expression, then what the statement does with its value -/
theorem st_of {K : PySem.W.Frag} {mg : Str → Option Value} {s : L2.St} {H : Hp} {m : List Addr} {e : Env} {r : R D} {k : D → Sto → RS} {F : Ends} {Q : VK} (he : EnvOk K H m s e) (h : DenS K T mg W H m (r.st e k) F)
    (q : ∀ x y st1 H1 m1, r = .ok x st1 → Le H H1 → Pre m m1 → Ok K T H1 m1 st1 → Rep K H1 m1 x y → DenS K T mg W H1 m1 (k x st1) F → Q y H1) : Den K T mg W (RD K) s H m r Q := by
  cases r with
  | no => exact h
  | ok x st1 => exact fun y H1 m1 l p ok rx => q x y st1 H1 m1 rfl l p ok rx (DenS.mono h l p)
  | ex x st1 => exact fun cls dd H1 m1 l p ok xr => h cls dd s H1 m1 l p ok (he.mono l p) xr
theorem js_nil : JB X T W [] sNx := pss_weak pss_nil fun F s H ⟨e, st, m, he, ok, h⟩ => h s H m (.refl H) (.refl m) ok he
theorem seq_den {K : PySem.W.Frag} {mg : Str → Option Value} {H : Hp} {m : List Addr} {r : RS} {k : Env → Sto → RS} {F : Ends} (h : DenS K T mg W H m (match r with | .nx e1 st1 => k e1 st1 | r => r) F) :
    DenS K T mg W H m r { F with nx := fun s' H' => ∃ e1 st1 m', EnvOk K H' m' s' e1 ∧ Ok K T H' m' st1 ∧ DenS K T mg W H' m' (k e1 st1) F } := by
  cases r with
  | no => exact h
  | nx e st => exact fun s' H2 m2 l2 p2 ok2 he2 => ⟨e, st, m2, he2, ok2, DenS.mono h l2 p2⟩
  | ct e st => exact h
  | brk e st => exact h
  | ret d st => exact h
  | exc x e st => exact h
theorem js_cons (h1 : JS X T W sm f) (h2 : JB X T W l1 g) : JB X T W (sm :: l1) (sSeq f g) := pss_weak (pss_cons h1 h2) fun F s H ⟨e, st, m, he, ok, h⟩ => ⟨e, st, m, he, ok, seq_den h⟩
theorem js_one (h1 : JS X T W sm f) : JB X T W [sm] f := pss_one h1
theorem js_pass : JS X T W (.Pass pos) sNx := ps_weak ps_pass fun F s H ⟨e, st, m, he, ok, h⟩ => h s H m (.refl H) (.refl m) ok he
theorem js_brk : JS X T W (.Break pos) sBrk := ps_weak ps_break fun F s H ⟨e, st, m, he, ok, h⟩ => h s H m (.refl H) (.refl m) ok he
theorem js_ct : JS X T W (.Continue pos) sCt := ps_weak ps_continue fun F s H ⟨e, st, m, he, ok, h⟩ => h s H m (.refl H) (.refl m) ok he
theorem js_no : JS X T W sm sNo := ps_weak ps_never fun F s H ⟨e, st, m, he, ok, h⟩ => h
theorem jb_no : JB X T W l1 sNo := pss_weak pss_never fun F s H ⟨e, st, m, he, ok, h⟩ => h
theorem js_ex (ha : J X T W a fa) (hs : swapsWith a none pos.line X.env = pure false := by rfl) : JS X T W (.Expr a pos) (sEx fa) := ps_weak (ps_expr ha hs) fun F s H ⟨e, st, m, he, ok, h⟩ =>
  ⟨e, st, m, he, ok, st_of he h fun x y st1 H1 m1 _ l p ok1 rx h1 => h1 s H1 m1 (.refl H1) (.refl m1) ok1 (he.mono l p)⟩
theorem js_doc {x j pos'} : JS X T W (.Expr (.Constant (.str x) j pos) pos') sNx := ps_weak ps_doc fun F s H ⟨e, st, m, he, ok, h⟩ => h s H m (.refl H) (.refl m) ok he
theorem js_ret (ha : J X T W a fa) : JS X T W (.Return (some a) pos) (sRet fa) := ps_weak (ps_ret ha) fun F s H ⟨e, st, m, he, ok, h⟩ =>
  ⟨e, st, m, he, ok, st_of he h fun x y st1 H1 m1 _ l p ok1 rx h1 => h1 y H1 m1 (.refl H1) (.refl m1) ok1 rx⟩
theorem js_retN : JS X T W (.Return none pos) sRetN := ps_weak ps_retN fun F s H ⟨e, st, m, he, ok, h⟩ => h .non H m (.refl H) (.refl m) ok rfl
theorem js_if (hc : JT X T W c ba) (ha : JB X T W l1 f) (hb : JB X T W l2 g) : JS X T W (.If c l1 l2 pos) (sIf ba f g) := ps_weak (ps_if hc ha hb) fun F s H ⟨e, st, m, he, ok, h⟩ => by
  refine ⟨e, st, m, he, ok, ?_⟩
  unfold sIf at h
  revert h
  generalize ba e st = r
  intro h
  cases r with
  | no => exact h
  | ex x st1 => exact fun cls dd H1 m1 l p ok1 xr => h cls dd s H1 m1 l p ok1 (he.mono l p) xr
  | ok x st1 =>
    intro y H1 m1 l p ok1 rx
    cases rx
    cases x with
    | true => exact ⟨e, st1, m1, he.mono l p, ok1, DenS.mono h l p⟩
    | false => exact ⟨e, st1, m1, he.mono l p, ok1, DenS.mono h l p⟩
theorem js_set {i : Nat} {x : Str} {p' : Pos} (hN : X.N.Nodup) (hi : X.N[i]? = some x) (hx : Loc X.env.scope x) (ha : J X T W a fa) (hs : swapsWith a (some (.Name x p')) pos.line X.env = pure false := by rfl)
    (hf : X.fn x = true ∨ X.env.scope.names.lookup x = some .local := by first | exact .inl rfl | exact .inr rfl | assumption) : JS X T W (.Assign [.Name x p'] a pos) (sSet i fa) :=
  ps_weak (ps_set hN hi hx ha hs hf) fun F s H ⟨e, st, m, he, ok, h⟩ =>
    ⟨e, st, m, he, ok, st_of he h fun x y st1 H1 m1 _ l p ok1 rx h1 => h1 _ H1 m1 (.refl H1) (.refl m1) ok1 ((he.mono l p).set i rx)⟩
end
end Mm

namespace Mm
open PySem L2
/-! ### targets -/
abbrev TX := D → Env → Option Env
/-- all slots but those at ts are as they were -/
def But (ts : List Nat) (s s' : L2.St) : Prop := s'.length = s.length ∧ ∀ j, j ∉ ts → s'[j]? = s[j]?
theorem But.refl (ts : List Nat) (s : L2.St) : But ts s s := ⟨rfl, fun _ _ => rfl⟩
theorem But.trans {ts us : List Nat} {s s1 s2 : L2.St} (a : But ts s s1) (b : But us s1 s2) : But (ts ++ us) s s2 :=
  ⟨b.1.trans a.1, fun j h => by rw [b.2 j (fun z => h (List.mem_append_right _ z)), a.2 j (fun z => h (List.mem_append_left _ z))]⟩
theorem But.set (i : Nat) (s : L2.St) (v : Option V) : But [i] s (s.set i v) := ⟨by simp, fun j h => List.getElem?_set_ne fun z => h (by simp [z])⟩
theorem But.wipe {ts vs : List Nat} {s s' : L2.St} (b : But ts s s') (h : ∀ i ∈ ts, i ∈ vs) : L2.wipe s' vs = L2.wipe s vs := by
  refine List.ext_getElem? fun i => ?_
  have one : ∀ (x : L2.St) (us : List Nat), i ∈ us → i < x.length → (L2.wipe x us)[i]? = some none := by
    intro x us
    induction us with
    | nil => intro h; cases h
    | cons u us ih =>
      intro hm hl
      unfold L2.wipe
      by_cases hu : u = i
      · subst hu
        exact List.getElem?_set_self (by rw [L2.wipe_length]; exact hl)
      · rw [List.getElem?_set_ne hu]
        exact ih ((List.mem_cons.mp hm).resolve_left fun z => hu z.symm) hl
  by_cases hi : i ∈ vs
  · by_cases hl : i < s.length
    · rw [one s vs hi hl, one s' vs hi (by rw [b.1]; exact hl)]
    · rw [List.getElem?_eq_none (by rw [L2.wipe_length, b.1]; omega), List.getElem?_eq_none (by rw [L2.wipe_length]; omega)]
  · rw [L2.wipe_out hi, L2.wipe_out hi]
    exact b.2 i fun z => hi (h i z)
/-- what stands for what; at the top, with b, a tuple that may have a dict of its own -/
def RepB (b : Bool) (K : PySem.W.Frag) (H : Hp) (m : List Addr) (d : D) (v : V) : Prop := match b, d with
  | true, .tup ds => ∃ a vs, v = .ref a ∧ SqT K H a vs ∧ Reps K H m ds vs
  | _, d => Rep K H m d v
theorem Rep.b {b : Bool} {K : PySem.W.Frag} {H : Hp} {m : List Addr} {d : D} {v : V} (h : Rep K H m d v) : RepB b K H m d v := by
  cases d with
  | tup ds =>
    cases b with
    | true => obtain ⟨a, vs, e, hs, hr⟩ := h; exact ⟨a, vs, e, hs.sq, hr⟩
    | false => exact h
  | non | bl _ | int _ | str _ | ref _ => cases b <;> exact h
theorem RepB.rep {K : PySem.W.Frag} {H : Hp} {m : List Addr} {d : D} {v : V} (h : RepB false K H m d v) : Rep K H m d v := by
  cases d <;> exact h
theorem RepB.tup {b : Bool} {K : PySem.W.Frag} {H : Hp} {m : List Addr} {ds : List D} {v : V} (h : RepB b K H m (.tup ds) v) : ∃ a vs, v = .ref a ∧ SqT K H a vs ∧ Reps K H m ds vs := by
  cases b with
  | true => exact h
  | false => obtain ⟨a, vs, e, hs, hr⟩ := h.rep; exact ⟨a, vs, e, hs.sq, hr⟩
def gT (b : Bool) (K : PySem.W.Frag) (T : List (Addr × Str)) (ts : List Nat) (f : TX) : TG := fun v s H Q => ∃ d e st m, RepB b K H m d v ∧ EnvOk K H m s e ∧ Ok K T H m st ∧ ∃ e', f d e = some e' ∧ ∀ s', EnvOk K H m s' e' → But ts s s' → Q s' H
def gTs (K : PySem.W.Frag) (T : List (Addr × Str)) (ts : List Nat) (f : List D → Env → Option Env) : TGs := fun vs s H Q => ∃ ds e st m, Reps K H m ds vs ∧ EnvOk K H m s e ∧ Ok K T H m st ∧ ∃ e', f ds e = some e' ∧ ∀ s', EnvOk K H m s' e' → But ts s s' → Q s' H
def tgN (i : Nat) : TX := fun d e => some (e.set i (some d))
def tgNil : List D → Env → Option Env := fun ds e => match ds with
  | [] => some e
  | _ => none
def tgCons (f : TX) (g : List D → Env → Option Env) : List D → Env → Option Env := fun ds e => match ds with
  | d :: r => (f d e).bind fun e1 => g r e1
  | [] => none
def tgTup (g : List D → Env → Option Env) : TX := fun d e => match d with
  | .tup ds => g ds e
  | _ => none
theorem pg_weak {X : Cx} {t : Expr} {g g' : TG} (h : PG X t g) (k : ∀ v s H Q, g' v s H Q → g v s H Q) : PG X t g' := ⟨fun pins s σ H v u Q I r hw => h.run pins s σ H v u Q I r (k v σ H Q hw)⟩
theorem pgs_weak {X : Cx} {t : List Expr} {g g' : TGs} (h : PGs X t g) (k : ∀ v s H Q, g' v s H Q → g v s H Q) : PGs X t g' := ⟨fun pins s σ H v u Q I r hw => h.run pins s σ H v u Q I r (k v σ H Q hw)⟩
abbrev JG (b : Bool) (X : Cx) (T : List (Addr × Str)) (us : List Nat) (t : Expr) (f : TX) : Prop := PG X t (gT b X.K T us f)
structure JGs (X : Cx) (T : List (Addr × Str)) (us : List Nat) (ts : List Expr) (f : List D → Env → Option Env) : Prop where
  pg : PGs X ts (gTs X.K T us f)
  len : ∀ ds e e', f ds e = some e' → ds.length = ts.length
section
variable {X : Cx} {T : List (Addr × Str)} {W : WX} {pos : Pos} {t : Expr} {ts : List Expr} {f : TX} {g : List D → Env → Option Env}
theorem jg_name {i : Nat} {x : Str} (hN : X.N.Nodup) (hi : X.N[i]? = some x) (hx : Loc X.env.scope x) (hf : X.fn x = true ∨ X.env.scope.names.lookup x = some .local := by first | exact .inl rfl | exact .inr rfl | assumption) : JG false X T [i] (.Name x pos) (tgN i) :=
  pg_weak (pg_name hN hi hx hf) fun v s H Q ⟨d, e, st, m, rd, he, ok, e', h1, h2⟩ => by
    cases h1
    exact h2 _ (he.set i rd.rep) (.set i s _)
theorem jgs_nil : JGs X T [] [] tgNil := by
  refine ⟨pgs_weak pgs_nil fun vs s H Q ⟨ds, e, st, m, rd, he, ok, e', h1, h2⟩ => ?_, fun ds e e' h => ?_⟩
  · cases ds with
    | nil => cases h1; cases rd; exact ⟨rfl, h2 s he (.refl _ s)⟩
    | cons d r => cases h1
  · cases ds with
    | nil => rfl
    | cons d r => cases h
theorem jgs_cons {u1 u2 : List Nat} (h1 : JG false X T u1 t f) (h2 : JGs X T u2 ts g) (hs : (assignEach (t :: ts) X.env).map (·.2) = assign t X.env :: (assignEach ts X.env).map (·.2) := by rfl) : JGs X T (u1 ++ u2) (t :: ts) (tgCons f g) := by
  refine ⟨pgs_weak (pgs_cons h1 h2.pg hs) fun vs s H Q ⟨ds, e, st, m, rd, he, ok, e', q1, q2⟩ => ?_, fun ds e e' h => ?_⟩
  · cases ds with
    | nil => cases q1
    | cons d r =>
      obtain ⟨v, vr, rfl, rv, rr⟩ := rd
      unfold tgCons at q1
      cases hf : f d e with
      | none => simp [hf] at q1
      | some e1 =>
        simp [hf] at q1
        exact ⟨v, vr, rfl, d, e, st, m, rv.b, he, ok, e1, hf, fun s' he' b1 => ⟨r, e1, st, m, rr, he', ok, e', q1, fun s2 he2 b2 => q2 s2 he2 (b1.trans b2)⟩⟩
  · cases ds with
    | nil => cases h
    | cons d r =>
      unfold tgCons at h
      cases hf : f d e with
      | none => simp [hf] at h
      | some e1 =>
        simp [hf] at h
        simp [h2.len r e1 e' h]
theorem jg_tup {b : Bool} {u1 : List Nat} {k : Nat} {n : Nat} (hc : X.calm = true) (h : JGs X T u1 ts g) (hn : (assignEach ts X.env).length = n := by rfl) (hst : (assignEach ts X.env).findIdx? (·.1) = none := by rfl) (hl : ts.length = n := by rfl) : JG b X T u1 (.Tuple ts k pos) (tgTup g) :=
  pg_weak (pg_tup hc h.pg hn hst) fun v s H Q ⟨d, e, st, m, rd, he, ok, e', h1, h2⟩ => by
    cases d with
    | tup ds =>
      obtain ⟨a, vs, rfl, hs, hr⟩ := rd.tup
      have e1 := Reps.length hr
      have e2 := h.len ds e e' h1
      exact ⟨a, vs, rfl, hs, by rw [← e1, e2, hl], ds, e, st, m, hr, he, ok, e', h1, h2⟩
    | non | int _ | str _ | bl _ | ref _ => cases h1
end
def sAsg (f : EX) (t : TX) : SX := fun e st => (f e st).st e fun d st1 => match t d e with
  | some e1 => .nx e1 st1
  | none => .no
section
variable {X : Cx} {T : List (Addr × Str)} {W : WX} {a b c : Expr} {fa fb fc : EX} {pos : Pos} {es : List Expr} {fr : AX} {ba : BX} {t : Expr} {f : TX} {sb : SX} {body : List Stmt}
theorem js_asg {us : List Nat} (ha : J X T W a fa) (hg : JG false X T us t f) (hs : swapsWithSole [t] a pos.line X.env = pure false := by rfl) (hw : swappedStores [t] a X.env = pure none := by rfl)
    (h1 : (assignEach [t] X.env).map (·.2) = [assign t X.env] := by rfl) : JS X T W (.Assign [t] a pos) (sAsg fa f) := ps_weak (ps_asg ha hg hs hw h1) fun F s H ⟨e, st, m, he, ok, h⟩ =>
  ⟨e, st, m, he, ok, st_of he h fun x y st1 H1 m1 _ l p ok1 rx h1 => by
    cases hf : f x e with
    | none => rw [hf] at h1; exact False.elim h1
    | some e1 =>
      rw [hf] at h1
      exact ⟨x, e, st1, m1, rx.b, he.mono l p, ok1, e1, hf, fun s' he' _ => h1 s' H1 m1 (.refl H1) (.refl m1) ok1 he'⟩⟩
/-- x, y = a, b -/
def sPar (i j : Nat) (fa fb : EX) : SX := fun e st => (fa e st).st e fun x st1 => (fb e st1).st e fun y st2 => .nx ((e.set i (some x)).set j (some y)) st2
theorem js_par {i j : Nat} {x y : Str} {px py pt : Pos} {kt k2 pt2} (hc : X.calm = true) (hN : X.N.Nodup) (hi : X.N[i]? = some x) (hj : X.N[j]? = some y) (hij : i ≠ j)
    (hx : X.env.scope.names.lookup x = some .local) (hy : X.env.scope.names.lookup y = some .local) (ha : J X T W a fa) (hb : J X T W b fb) (he1 : starEach (a :: [b]) X.env = (false, eval a X.env) :: starEach [b] X.env := by rfl) (he2 : starEach (b :: []) X.env = (false, eval b X.env) :: starEach [] X.env := by rfl)
    (hw : swappedStores [.Tuple [.Name x px, .Name y py] kt pt] (.Tuple [a, b] k2 pt2) X.env = pure (some [x, y]) := by rfl)
    (hs : swapsWithSole [.Tuple [.Name x px, .Name y py] kt pt] (.Tuple [a, b] k2 pt2) pos.line X.env = pure false := by rfl) :
    JS X T W (.Assign [.Tuple [.Name x px, .Name y py] kt pt] (.Tuple [a, b] k2 pt2) pos) (sPar i j fa fb) :=
  ps_weak (ps_par hc hN hi hj hij hx hy (pa_cons ha (pa_cons hb pa_nil he2) he1) hw hs) fun F s H ⟨e, st, m, he, ok, h⟩ =>
    ⟨e, st, m, he, ok, st_of he h fun x y st1 H1 m1 _ l p ok1 rx h1 =>
      ⟨e, st1, m1, he.mono l p, ok1, st_of (he.mono l p) h1 fun x2 y2 st2 H2 m2 _ l2 p2 ok2 rx2 h2 =>
        ⟨y, y2, rfl, h2 _ H2 m2 (.refl H2) (.refl m2) ok2 ((((he.mono l p).mono l2 p2).set i (rx.mono l2 p2)).set j rx2)⟩⟩⟩
def sPar3 (i j k : Nat) (fa fb fc : EX) : SX := fun e st => (fa e st).st e fun x st1 => (fb e st1).st e fun y st2 => (fc e st2).st e fun z st3 => .nx (((e.set i (some x)).set j (some y)).set k (some z)) st3
theorem js_par3 {i j l : Nat} {x y z : Str} {px py pz pt : Pos} {kt k2 pt2} (hc : X.calm = true) (hN : X.N.Nodup) (hi : X.N[i]? = some x) (hj : X.N[j]? = some y) (hl : X.N[l]? = some z) (hij : i ≠ j) (hil : i ≠ l) (hjl : j ≠ l)
    (hx : X.env.scope.names.lookup x = some .local) (hy : X.env.scope.names.lookup y = some .local) (hz : X.env.scope.names.lookup z = some .local) (ha : J X T W a fa) (hb : J X T W b fb) (hcc : J X T W c fc)
    (he1 : starEach (a :: [b, c]) X.env = (false, eval a X.env) :: starEach [b, c] X.env := by rfl) (he2 : starEach (b :: [c]) X.env = (false, eval b X.env) :: starEach [c] X.env := by rfl) (he3 : starEach (c :: []) X.env = (false, eval c X.env) :: starEach [] X.env := by rfl)
    (hw : swappedStores [.Tuple [.Name x px, .Name y py, .Name z pz] kt pt] (.Tuple [a, b, c] k2 pt2) X.env = pure (some [x, y, z]) := by rfl)
    (hs : swapsWithSole [.Tuple [.Name x px, .Name y py, .Name z pz] kt pt] (.Tuple [a, b, c] k2 pt2) pos.line X.env = pure false := by rfl) :
    JS X T W (.Assign [.Tuple [.Name x px, .Name y py, .Name z pz] kt pt] (.Tuple [a, b, c] k2 pt2) pos) (sPar3 i j l fa fb fc) :=
  ps_weak (ps_par3 hc hN hi hj hl hij hil hjl hx hy hz (pa_cons ha (pa_cons hb (pa_cons hcc pa_nil he3) he2) he1) hw hs) fun F s H ⟨e, st, m, he, ok, h⟩ =>
    ⟨e, st, m, he, ok, st_of he h fun x y st1 H1 m1 _ l p ok1 rx h1 =>
      ⟨e, st1, m1, he.mono l p, ok1, st_of (he.mono l p) h1 fun x2 y2 st2 H2 m2 _ l2 p2 ok2 rx2 h2 =>
        ⟨e, st2, m2, (he.mono l p).mono l2 p2, ok2, st_of ((he.mono l p).mono l2 p2) h2 fun x3 y3 st3 H3 m3 _ l3 p3 ok3 rx3 h3 =>
          ⟨y, y2, y3, rfl, h3 _ H3 m3 (.refl H3) (.refl m3) ok3 ((((((he.mono l p).mono l2 p2).mono l3 p3).set i ((rx.mono l2 p2).mono l3 p3)).set j (rx2.mono l3 p3)).set _ rx3)⟩⟩⟩⟩
end

/-! ### what is walked -/
structure Src where
  items : List D
  ok : Sto → Bool
abbrev IX := Env → Sto → R Src
/-- the walk J goes over the items, while the store's guard holds -/
def Good (b : Bool) (K : PySem.W.Frag) (T : List (Addr × Str)) (J : It) (s : Src) (H0 : Hp) (m0 : List Addr) : Prop :=
  ∀ H m st, Le H0 H → Pre m0 m → Ok K T H m st → s.ok st = true →
    (∀ i, i < s.items.length → J.go i H) ∧ J.stop s.items.length H ∧ ∀ i x H', i < s.items.length → J.yld i H x H' → Le H H' ∧ Ok K T H' m st ∧ ∃ d, s.items[i]? = some d ∧ RepB b K H' m d x
def DenI (b : Bool) (K : PySem.W.Frag) (T : List (Addr × Str)) (mg : Str → Option Value) (W : WX) (s : L2.St) (H : Hp) (m : List Addr) (r : R Src) (Q : It → Hp → Prop) : Prop :=
  match r with
  | .no => False
  | .ok x st' => ∀ J H' m', Le H H' → Pre m m' → Ok K T H' m' st' → Good b K T J x H' m' → Q J H'
  | .ex x st' => ∀ cls dd H' m', Le H H' → Pre m m' → Ok K T H' m' st' → XRep K mg H' m' x cls dd → W cls dd s H'
def tI (b : Bool) (K : PySem.W.Frag) (T : List (Addr × Str)) (mg : Str → Option Value) (W : WX) (f : IX) : TI := fun s H Q => ∃ e st m, EnvOk K H m s e ∧ Ok K T H m st ∧ DenI b K T mg W s H m (f e st) Q
theorem pi_weak {X : Cx} {t a : Expr} {g g' : TI} (h : PI X t a g) (k : ∀ s H Q, g' s H Q → g s H Q) : PI X t a g' := ⟨fun pins s σ H R I hw => h.run pins s σ H R I (k σ H R hw)⟩
abbrev JI (b : Bool) (X : Cx) (T : List (Addr × Str)) (W : WX) (t a : Expr) (f : IX) : Prop := PI X t a (tI b X.K T X.mg W f)
def forL (g : Sto → Bool) (t : TX) (body : SX) : List D → Env → Sto → RS
  | [], e, st => if g st = true then .nx e st else .no
  | d :: ds, e, st => if g st = true then match t d e with
    | none => .no
    | some e1 => match body e1 st with
      | .nx e2 st2 => forL g t body ds e2 st2
      | .ct e2 st2 => forL g t body ds e2 st2
      | .brk e2 st2 => .nx e2 st2
      | r => r
    else .no
def sFor (src : IX) (t : TX) (body : SX) : SX := fun e st => match src e st with
  | .ok s st1 => forL s.ok t body s.items e st1
  | .ex x st1 => .exc x e st1
  | .no => .no
section
variable {X : Cx} {T : List (Addr × Str)} {W : WX} {a b c : Expr} {fa fb fc : EX} {pos : Pos} {ba : BX} {t : Expr} {f : TX} {sb : SX} {body : List Stmt} {src : IX}
theorem den_false {K : PySem.W.Frag} {mg : Str → Option Value} {H : Hp} {m : List Addr} {F : Ends} {r : RS} (h : DenS K T mg W H m r F) (e : r = .no) : False := by
  subst e; exact h
theorem js_for (hp : PassesOwn (model X.prog X.w) X.A X.env X.xe) (hc : X.calm = true) {bb : Bool} {us : List Nat} (hi : JI bb X T W t a src) (hg : JG bb X T us t f) (hb : JB X T W body sb)
    (hs : ∀ x, foldedSetIterable a X.env x = pure x := by intro _; rfl) : JS X T W (.For t a body [] pos) (sFor src f sb) := by
  refine ps_weak (ps_for hp hc hi hg hb hs) fun F s H ⟨e, st, m, he, ok, h⟩ => ⟨e, st, m, he, ok, ?_⟩
  unfold sFor at h
  revert h
  generalize src e st = r
  intro h
  cases r with
  | no => exact h
  | ex x st1 => exact fun cls dd H1 m1 l p ok1 xr => h cls dd s H1 m1 l p ok1 (he.mono l p) xr
  | ok sr st1 =>
    intro Jw H1 m1 l p ok1 good
    have h : DenS X.K T X.mg W H m (forL sr.ok f sb sr.items e st1) F := h
    refine ⟨fun i n s' H' => ∃ e' st' m', n = sr.items.length - i ∧ i ≤ sr.items.length ∧ Le H1 H' ∧ Pre m1 m' ∧ EnvOk X.K H' m' s' e' ∧ Ok X.K T H' m' st' ∧ DenS X.K T X.mg W H' m' (forL sr.ok f sb (sr.items.drop i) e' st') F,
      ⟨sr.items.length, e, st1, m1, by simp, Nat.zero_le _, .refl H1, .refl m1, he.mono l p, ok1, by simpa using DenS.mono h l p⟩, ?_⟩
    rintro i n s' H' ⟨e', st', m', rfl, hle, l1, p1, he1, ok', hd⟩
    by_cases hlt : i < sr.items.length
    · rw [List.drop_eq_getElem_cons hlt, forL] at hd
      by_cases hg' : sr.ok st' = true
      · rw [if_pos hg'] at hd
        obtain ⟨gg, gs, gy⟩ := good H' m' st' l1 p1 ok' hg'
        refine .inr ⟨gg i hlt, fun s2 H2 => ∃ e2 st2 m2, Le H1 H2 ∧ Pre m1 m2 ∧ EnvOk X.K H2 m2 s2 e2 ∧ Ok X.K T H2 m2 st2 ∧ DenS X.K T X.mg W H2 m2 (forL sr.ok f sb (sr.items.drop (i + 1)) e2 st2) F, ?_, ?_⟩
        · rintro s2 H2 ⟨e2, st2, m2, l2, p2, he2, ok2, hd2⟩
          exact ⟨sr.items.length - (i + 1), by omega, e2, st2, m2, rfl, hlt, l2, p2, he2, ok2, hd2⟩
        · intro x H2 hy
          obtain ⟨l2, ok2, d, hdd, rx⟩ := gy i x H2 hlt hy
          rw [List.getElem?_eq_getElem hlt] at hdd
          cases hdd
          cases ht : f sr.items[i] e' with
          | none => rw [ht] at hd; exact False.elim hd
          | some e1 =>
            rw [ht] at hd
            dsimp only at hd
            refine ⟨_, e', st', m', rx, he1.mono l2 (.refl m'), ok2, e1, ht, fun s2 he2 _ => ?_⟩
            refine ⟨e1, st', m', he2, ok2, ?_⟩
            have hd := DenS.mono hd l2 (.refl m')
            revert hd
            generalize sb e1 st' = r
            intro hd
            have l12 := l1.trans l2
            cases r with
            | no => exact hd
            | nx e2 st2 => exact fun s3 H3 m3 l3 p3 ok3 he3 => ⟨e2, st2, m3, l12.trans l3, p1.trans p3, he3, ok3, DenS.mono hd l3 p3⟩
            | ct e2 st2 => exact fun s3 H3 m3 l3 p3 ok3 he3 => ⟨e2, st2, m3, l12.trans l3, p1.trans p3, he3, ok3, DenS.mono hd l3 p3⟩
            | brk e2 st2 => exact hd
            | ret d st2 => exact hd
            | exc x e2 st2 => exact hd
      · rw [if_neg hg'] at hd
        exact False.elim hd
    · have e0 : i = sr.items.length := by omega
      subst e0
      rw [List.drop_length, forL] at hd
      by_cases hg' : sr.ok st' = true
      · rw [if_pos hg'] at hd
        obtain ⟨gg, gs, gy⟩ := good H' m' st' l1 p1 ok' hg'
        exact .inl ⟨gs, hd s' H' m' (.refl H') (.refl m') ok' he1⟩
      · rw [if_neg hg'] at hd
        exact False.elim hd
/-! while -/
def whL (c : BX) (body : SX) : Nat → Env → Sto → RS
  | 0, _, _ => .no
  | n + 1, e, st => match c e st with
    | .ok true st1 => match body e st1 with
      | .nx e2 st2 => whL c body n e2 st2
      | .ct e2 st2 => whL c body n e2 st2
      | .brk e2 st2 => .nx e2 st2
      | r => r
    | .ok false st1 => .nx e st1
    | .ex x st1 => .exc x e st1
    | .no => .no
def whMost : Nat := 1000000000
def sWh (c : BX) (body : SX) : SX := fun e st => whL c body whMost e st
theorem js_wh (hp : PassesOwn (model X.prog X.w) X.A X.env X.xe) (hcd : JT X T W c ba) (hb : JB X T W body sb) : JS X T W (.While c body [] pos) (sWh ba sb) := by
  refine ps_weak (ps_while hp hcd hb) fun F s H ⟨e, st, m, he, ok, h⟩ => ?_
  refine ⟨fun n s' H' => ∃ e' st' m', EnvOk X.K H' m' s' e' ∧ Ok X.K T H' m' st' ∧ DenS X.K T X.mg W H' m' (whL ba sb n e' st') F, ⟨whMost, e, st, m, he, ok, h⟩, ?_⟩
  rintro n s' H' ⟨e', st', m', he', ok', hd⟩
  cases n with
  | zero => exact False.elim hd
  | succ n =>
    refine ⟨e', st', m', he', ok', ?_⟩
    rw [whL] at hd
    revert hd
    generalize ba e' st' = r
    intro hd
    cases r with
    | no => exact hd
    | ex x st1 => exact fun cls dd H1 m1 l p ok1 xr => hd cls dd s' H1 m1 l p ok1 (he'.mono l p) xr
    | ok x st1 =>
      intro y H1 m1 l p ok1 rx
      cases rx
      cases x with
      | false => exact hd s' H1 m1 l p ok1 (he'.mono l p)
      | true =>
        rw [if_pos rfl]
        refine ⟨fun s2 H2 => ∃ e2 st2 m2, EnvOk X.K H2 m2 s2 e2 ∧ Ok X.K T H2 m2 st2 ∧ DenS X.K T X.mg W H2 m2 (whL ba sb n e2 st2) F, fun s2 H2 ⟨e2, st2, m2, q1, q2, q3⟩ => ⟨n, by omega, e2, st2, m2, q1, q2, q3⟩, e', st1, m1, he'.mono l p, ok1, ?_⟩
        have hd := DenS.mono hd l p
        revert hd
        show DenS X.K T X.mg W H1 m1 (match sb e' st1 with
          | .nx e2 st2 => whL ba sb n e2 st2
          | .ct e2 st2 => whL ba sb n e2 st2
          | .brk e2 st2 => .nx e2 st2
          | r => r) F → _
        generalize sb e' st1 = r
        intro hd
        cases r with
        | no => exact hd
        | nx e2 st2 => exact fun s3 H3 m3 l3 p3 ok3 he3 => ⟨e2, st2, m3, he3, ok3, DenS.mono hd l3 p3⟩
        | ct e2 st2 => exact fun s3 H3 m3 l3 p3 ok3 he3 => ⟨e2, st2, m3, he3, ok3, DenS.mono hd l3 p3⟩
        | brk e2 st2 => exact hd
        | ret d st2 => exact hd
        | exc x e2 st2 => exact hd
end
/-! the sources -/
def cellItems : Option Cell → Option (List D)
  | some (.lst xs) => some xs
  | some (.ro xs) => some xs
  | none => none
/-- over a list or tuple that a name or expression gives -/
def iSeq (a : EX) : IX := fun e st => (a e st).bind fun x st1 => match x with
  | .tup ds => .ok ⟨ds, fun _ => true⟩ st1
  | .ref i => match cellItems st1[i]? with
    | some ds => .ok ⟨ds, fun s => decide (s[i]? = st1[i]?)⟩ st1
    | none => .no
  | _ => .no
def intsUp (lo : Int) : Nat → List D
  | 0 => []
  | n + 1 => .int lo :: intsUp (lo + 1) n
theorem intsUp_len : ∀ (n : Nat) (lo : Int), (intsUp lo n).length = n
  | 0, _ => rfl
  | n + 1, lo => by simp [intsUp, intsUp_len n]
theorem intsUp_get : ∀ (n i : Nat) (lo : Int), i < n → (intsUp lo n)[i]? = some (.int (lo + i))
  | 0, _, _, h => absurd h (Nat.not_lt_zero _)
  | n + 1, 0, lo, h => by simp [intsUp]
  | n + 1, i + 1, lo, h => by
    rw [intsUp, List.getElem?_cons_succ, intsUp_get n i (lo + 1) (by omega)]
    congr 2
    omega
def bigR (i : Int) : Bool := decide (i.natAbs ≤ 1000000000)
theorem bigR_ok {i : Int} (h : bigR i = true) : -1000000000 ≤ i ∧ i ≤ 1000000000 := by
  have := of_decide_eq_true h
  omega
def iR1 (a : AX) : IX := fun e st => (a e st).bind fun ds st1 => match ds with
  | [.int n] => if bigR n = true then .ok ⟨intsUp 0 n.toNat, fun _ => true⟩ st1 else .no
  | _ => .no
def iR2 (a : AX) : IX := fun e st => (a e st).bind fun ds st1 => match ds with
  | [.int lo, .int hi] => if (bigR lo && bigR hi) = true then .ok ⟨intsUp lo (hi - lo).toNat, fun _ => true⟩ st1 else .no
  | _ => .no
section
variable {X : Cx} {T : List (Addr × Str)} {W : WX} {a b c : Expr} {fa fb fc : EX} {fr : AX} {pos p2 : Pos} {t : Expr}
theorem deni_of {b : Bool} {K : PySem.W.Frag} {mg : Str → Option Value} {al be : Type} {RA : Hp → List Addr → al → be → Prop} {s : L2.St} {H : Hp} {m : List Addr} {r : R al} {k : al → Sto → R Src} {Q : It → Hp → Prop} (h : DenI b K T mg W s H m (r.bind k) Q) {Q' : be → Hp → Prop}
    (q : ∀ x y st1 H1 m1, r = .ok x st1 → Le H H1 → Pre m m1 → Ok K T H1 m1 st1 → RA H1 m1 x y → DenI b K T mg W s H1 m1 (k x st1) Q → Q' y H1) : Den K T mg W RA s H m r Q' := by
  cases r with
  | no => exact h
  | ex x st1 => exact h
  | ok x st1 =>
    intro y H1 m1 le pr ok ra
    refine q x y st1 H1 m1 rfl le pr ok ra ?_
    have h' : DenI b K T mg W s H m (k x st1) Q := h
    revert h'
    generalize k x st1 = r2
    intro h'
    cases r2 with
    | no => exact h'
    | ok x2 st2 => exact fun y2 H2 m2 l2 p2 => h' y2 H2 m2 (le.trans l2) (pr.trans p2)
    | ex x2 st2 => exact fun cls dd H2 m2 l2 p2 => h' cls dd H2 m2 (le.trans l2) (pr.trans p2)
theorem good_range {K : PySem.W.Frag} {H : Hp} {m : List Addr} {lo : Int} {n : Nat} : Good false K T (Itr lo n) ⟨intsUp lo n, fun _ => true⟩ H m := fun H' m' st l p ok g => by
  have w := walk_range (lo := lo) (n := n)
  refine ⟨fun i hi => ?_, ?_, fun i x H2 hi hy => ?_⟩
  · rw [intsUp_len] at hi; exact w.goes i H' hi trivial
  · rw [intsUp_len]; exact w.stops H' trivial
  · rw [intsUp_len] at hi
    obtain ⟨e1, e2⟩ := w.yields i H' x H2 hi trivial hy
    subst e1
    exact ⟨.refl _, ok, _, intsUp_get n i lo hi, Rep.b (d := .int _) e2⟩
theorem ji_r1 (hg : Gl X "range") (hm : X.mg "range" = none) (ha : JA X T W [a] fr) (hs : starEach [a] X.env = [(false, eval a X.env)] := by rfl) : JI false X T W t (.Call (.Name "range" p2) [a] [] pos) (iR1 fr) :=
  pi_weak (pi_range1 hg hm ha.pa hs) fun s H Q ⟨e, st, m, he, ok, h⟩ => ⟨e, st, m, he, ok, deni_of h fun ds xs st1 H1 m1 hf l p ok1 rs h1 => by
    have hn := ha.len _ _ _ _ hf
    match ds, hn with
    | [d], _ =>
      obtain ⟨v, r, rfl, rv, rr⟩ := rs
      cases rr
      cases d with
      | int n =>
        cases rv
        by_cases hb : bigR n = true
        · have h1 : DenI false X.K T X.mg W s H1 m1 (if bigR n = true then .ok ⟨intsUp 0 n.toNat, fun _ => true⟩ st1 else .no) Q := h1
          rw [if_pos hb] at h1
          replace hb := bigR_ok hb
          exact ⟨n, rfl, by omega, by omega, h1 _ H1 m1 (.refl H1) (.refl m1) ok1 good_range⟩
        · have h1 : DenI false X.K T X.mg W s H1 m1 (if bigR n = true then .ok ⟨intsUp 0 n.toNat, fun _ => true⟩ st1 else .no) Q := h1
          rw [if_neg hb] at h1
          exact False.elim h1
      | non | bl _ | str _ | tup _ | ref _ => exact False.elim h1⟩
theorem ji_r2 (hg : Gl X "range") (hm : X.mg "range" = none) (ha : JA X T W [a, b] fr) (hs : starEach [a, b] X.env = [(false, eval a X.env), (false, eval b X.env)] := by rfl) (hs2 : starEach [b] X.env = [(false, eval b X.env)] := by rfl) :
    JI false X T W t (.Call (.Name "range" p2) [a, b] [] pos) (iR2 fr) :=
  pi_weak (pi_range2 hg hm ha.pa hs hs2) fun s H Q ⟨e, st, m, he, ok, h⟩ => ⟨e, st, m, he, ok, deni_of h fun ds xs st1 H1 m1 hf l p ok1 rs h1 => by
    have hn := ha.len _ _ _ _ hf
    match ds, hn with
    | [d, d2], _ =>
      obtain ⟨v, r, rfl, rv, v2, r2, rfl, rv2, rr⟩ := rs
      cases rr
      cases d with
      | int lo =>
        cases d2 with
        | int hi =>
          cases rv
          cases rv2
          have h1 : DenI false X.K T X.mg W s H1 m1 (if (bigR lo && bigR hi) = true then .ok ⟨intsUp lo (hi - lo).toNat, fun _ => true⟩ st1 else .no) Q := h1
          by_cases hb : (bigR lo && bigR hi) = true
          · rw [if_pos hb] at h1
            replace hb := And.intro (bigR_ok (Bool.and_eq_true_iff.mp hb).1) (bigR_ok (Bool.and_eq_true_iff.mp hb).2)
            exact ⟨lo, hi, rfl, ⟨by omega, by omega, by omega, by omega⟩, h1 _ H1 m1 (.refl H1) (.refl m1) ok1 good_range⟩
          · rw [if_neg hb] at h1
            exact False.elim h1
        | non | bl _ | str _ | tup _ | ref _ => exact False.elim h1
      | non | bl _ | str _ | tup _ | ref _ => exact False.elim h1⟩
theorem cellItems_ok {K : PySem.W.Frag} {H : Hp} {m : List Addr} {st : Sto} {i : Nat} {ds : List D} (ok : Ok K T H m st) (h : cellItems st[i]? = some ds) : ∃ a vs, m[i]? = some a ∧ SqL K H a vs ∧ Reps K H m ds vs := by
  cases hc : st[i]? with
  | none => rw [hc] at h; cases h
  | some c =>
    rw [hc] at h
    obtain ⟨a, h1, h2⟩ := ok.cell i c hc
    obtain ⟨ds', vs, hcs, hl, hr⟩ := h2.list
    rcases hcs with rfl | rfl <;> cases h <;> exact ⟨a, vs, h1, hl, hr⟩
theorem good_list {K : PySem.W.Frag} {H : Hp} {m : List Addr} {st1 : Sto} {i : Nat} {ds : List D} {a : Addr} (h : cellItems st1[i]? = some ds) (hm : m[i]? = some a) : Good false K T (Itl K a) ⟨ds, fun s => decide (s[i]? = st1[i]?)⟩ H m := fun H' m' st l p ok g => by
  have g : st[i]? = st1[i]? := of_decide_eq_true g
  obtain ⟨a', vs, h1, h2, h3⟩ := cellItems_ok ok (by rw [g]; exact h)
  rw [p.get hm] at h1
  cases h1
  have w := walk_list (K := K) (a := a) (xs := vs)
  have e := Reps.length h3
  refine ⟨fun j hj => w.goes j H' (by rw [← e]; exact hj) h2, by rw [e]; exact w.stops H' h2, fun j x H2 hj hy => ?_⟩
  obtain ⟨e1, e2⟩ := w.yields j H' x H2 (by rw [← e]; exact hj) h2 hy
  subst e1
  obtain ⟨d, hd, rd⟩ := h3.back e2
  exact ⟨.refl _, ok, d, hd, rd.b⟩
theorem good_tup {K : PySem.W.Frag} {H : Hp} {m : List Addr} {ds : List D} {vs : List V} {a : Addr} (h2 : SqT K H a vs) (h3 : Reps K H m ds vs) : Good false K T (Itt K a) ⟨ds, fun _ => true⟩ H m := fun H' m' st l p ok g => by
  have h2 := l.sqT h2
  have h3 := Reps.mono l p h3
  have w := walk_tup (K := K) (a := a) (xs := vs)
  have e := Reps.length h3
  refine ⟨fun j hj => w.goes j H' (by rw [← e]; exact hj) h2, by rw [e]; exact w.stops H' h2, fun j x H2 hj hy => ?_⟩
  obtain ⟨e1, e2⟩ := w.yields j H' x H2 (by rw [← e]; exact hj) h2 hy
  subst e1
  obtain ⟨d, hd, rd⟩ := h3.back e2
  exact ⟨.refl _, ok, d, hd, rd.b⟩
/-- a list or a tuple: by what it is -/
theorem ji_seq (ha : J X T W a fa) : JI false X T W t a (iSeq fa) := by
  refine ⟨fun pins s σ H R I hw => ?_⟩
  obtain ⟨e, st, m, he, ok, h⟩ := hw
  have key : Den X.K T X.mg W (RD X.K) σ H m (fa e st) (fun x H1 => (∃ p, x = .ref p ∧ (∃ xs, SqL X.K H1 p xs) ∧ R (Itl X.K p) H1) ∨ (∃ p, x = .ref p ∧ (∃ xs, SqT X.K H1 p xs) ∧ R (Itt X.K p) H1)) := deni_of h fun dx x st1 H1 m1 hf l p ok1 rx h1 => by
    cases dx with
    | tup ds =>
      obtain ⟨p, vs, rfl, hs, hr⟩ := rx
      exact .inr ⟨p, rfl, ⟨vs, hs.sq⟩, h1 _ H1 m1 (.refl H1) (.refl m1) ok1 (good_tup hs.sq hr)⟩
    | ref i =>
      obtain ⟨p, hm, rfl⟩ := rx
      cases hc : cellItems st1[i]? with
      | none =>
        have h1 : DenI false X.K T X.mg W σ H1 m1 (match cellItems st1[i]? with | some ds => .ok ⟨ds, fun s => decide (s[i]? = st1[i]?)⟩ st1 | none => .no) R := h1
        rw [hc] at h1
        exact False.elim h1
      | some ds =>
        have h1 : DenI false X.K T X.mg W σ H1 m1 (match cellItems st1[i]? with | some ds => .ok ⟨ds, fun s => decide (s[i]? = st1[i]?)⟩ st1 | none => .no) R := h1
        rw [hc] at h1
        obtain ⟨a', vs, q1, q2, q3⟩ := cellItems_ok ok1 hc
        rw [hm] at q1
        cases q1
        exact .inl ⟨p, rfl, ⟨vs, q2⟩, h1 _ H1 m1 (.refl H1) (.refl m1) ok1 (good_list hc hm)⟩
    | non | bl _ | str _ | int _ => exact False.elim h1
  refine thn (ha.run pins s σ H _ I ⟨e, st, m, he, ok, key⟩) fun v s1 ⟨x, H1, I1, r1, q1⟩ => ?_
  rcases q1 with ⟨p, rfl, ⟨xs, hq⟩, q⟩ | ⟨p, rfl, ⟨xs, hq⟩, q⟩
  · cases r1
    obtain ⟨its, rv, pl, hz⟩ := I1.list hq
    refine wpAny_pyIter_list pl.isList ?_
    refine ⟨s1.heap.objs.size, [s1.heap.objs.size], _, _, H1, rfl, I1.kept (t' := s1.toks) fun b o e => Heap.get?_push_of_some _ e, turn_list p _, ⟨_, Heap.get?_push_size _ rfl, rfl, rfl⟩, fun b hb => ?_, q⟩
    have e : b = s1.heap.objs.size := by simpa using hb
    subst e
    exact I1.fpOk (Nat.le_refl _) (I1.hok.fresh (Nat.le_refl _))
  · cases r1
    obtain ⟨its, rv, pl, hz⟩ := I1.tuple hq
    refine wpAny_pyIter_tuple (show s1.heap.IsTuple p its.toArray from pl) ?_
    refine ⟨s1.heap.objs.size, [s1.heap.objs.size], _, _, H1, rfl, I1.kept (t' := s1.toks) fun b o e => Heap.get?_push_of_some _ e, turn_tuple p _, ⟨_, Heap.get?_push_size _ rfl, rfl, rfl⟩, fun b hb => ?_, q⟩
    have e : b = s1.heap.objs.size := by simpa using hb
    subst e
    exact I1.fpOk (Nat.le_refl _) (I1.hok.fresh (Nat.le_refl _))
end
end Mm

namespace Mm
open PySem L2
/-! ### operators -/
def b64 (i : Int) : Bool := decide (i.natAbs < 18446744073709551616)
/-- the items of a tuple, or of a list of the store -/
def seqOf (st : Sto) : D → Option (List D)
  | .tup xs => some xs
  | .ref i => cellItems st[i]?
  | _ => none
def lstOf (st : Sto) : D → Option (List D)
  | .ref i => match st[i]? with
    | some (.lst xs) => some xs
    | _ => none
  | _ => none
def oAdd : O2 := fun x y st => match x, y with
  | .int i, .int j => some (.int (i + j), st)
  | .tup xs, .tup ys => if xs.length + ys.length ≤ lim then some (.tup (xs ++ ys), st) else none
  | .ref i, .ref j => match lstOf st (.ref i), lstOf st (.ref j) with
    | some xs, some ys => if xs.length + ys.length ≤ lim then some (.ref st.length, st ++ [.lst (xs ++ ys)]) else none
    | _, _ => none
  | .str a, .str b => if a.length + b.length ≤ lim then some (.str (a ++ b), st) else none
  | _, _ => none
def oSub : O2 := fun x y st => match x, y with
  | .int i, .int j => some (.int (i - j), st)
  | _, _ => none
def oMul : O2 := fun x y st => match x, y with
  | .int i, .int j => if (b64 i || b64 j) = true then some (.int (i * j), st) else none
  | .tup xs, .int k => if k = 1 then some (.tup xs, st) else if decide (k = 0) && !xs.isEmpty then some (.tup [], st) else if decide (2 ≤ k) && decide (xs.length * k.toNat ≤ lim) && !xs.isEmpty then some (.tup (List.replicate k.toNat xs).flatten, st) else if xs.isEmpty && (decide (k = 2) || decide (k = 3)) then some (.tup xs, st) else none
  | .ref i, .int k => match lstOf st (.ref i) with
    | some xs => if decide (0 ≤ k) && decide (k.natAbs ≤ 10000) && decide (xs.length ≤ 100) then some (.ref st.length, st ++ [.lst (List.replicate k.toNat xs).flatten]) else none
    | none => none
  | _, _ => none
def oDiv : O2 := fun x y st => match x, y with
  | .int i, .int j => if decide (j ≠ 0) && decide (j.natAbs < 1073741824) then some (.int (Int.fdiv i j), st) else none
  | _, _ => none
def oMod : O2 := fun x y st => match x, y with
  | .int i, .int j => if j ≠ 0 then some (.int (Int.fmod i j), st) else none
  | _, _ => none
def oPow : O2 := fun x y st => match x, y with
  | .int i, .int j => if decide (0 ≤ j) && decide (j ≤ 1000) && decide (i.natAbs < 1000) then some (.int (i ^ j.toNat), st) else none
  | _, _ => none
def oCmpI (p : Int → Int → Bool) : O2 := fun x y st => match x, y with
  | .int i, .int j => some (.bl (p i j), st)
  | _, _ => none
def oLt : O2 := oCmpI fun i j => decide (i < j)
def oLe : O2 := oCmpI fun i j => decide (i ≤ j)
def oGt : O2 := oCmpI fun i j => decide (j < i)
def oGe : O2 := oCmpI fun i j => decide (j ≤ i)
def oIs : O2 := fun x y st => match x, y with
  | .bl a, .bl b => some (.bl (decide (a = b)), st)
  | x, .non => some (.bl (match x with | .non => true | _ => false), st)
  | _, _ => none
def oIsN : O2 := fun x y st => match x, y with
  | .bl a, .bl b => some (.bl (!decide (a = b)), st)
  | x, .non => some (.bl (match x with | .non => false | _ => true), st)
  | _, _ => none
/-! as PyData -/
mutual
def py : D → Option PyData
  | .non => some .none
  | .bl b => some (.bool b)
  | .int i => some (.int i)
  | .str x => some (.str x)
  | .tup xs => (pys xs).map .tuple
  | .ref _ => none
def pys : List D → Option (List PyData)
  | [] => some []
  | x :: xs => (py x).bind fun d => (pys xs).map fun r => d :: r
end
def pyS (st : Sto) : D → Option PyData
  | .ref i => match cellItems st[i]? with
    | some xs => (pys xs).map .list
    | none => none
  | d => py d
def eqD (st : Sto) (x y : D) : Option Bool := match pyS st x, pyS st y with
  | some d, some e => if (SeqAt.shaped d && SeqAt.shaped e) = true then some (PyData.eqv d e) else none
  | _, _ => none
/-- == : at once for what is simple -/
def eqF (st : Sto) : D → D → Option Bool
  | .int i, .int j => some (decide (i = j))
  | .str i, .str j => some (decide (i = j))
  | .bl i, .bl j => some (decide (i = j))
  | .non, .non => some true
  | x, y => eqD st x y
def oEq : O2 := fun x y st => (eqF st x y).map fun b => (.bl b, st)
def oNe : O2 := fun x y st => (eqF st x y).map fun b => (.bl (!b), st)

section
variable {X : Cx} {T : List (Addr × Str)}
theorem op_of {f : Value → Value → Sem Value} {o : O2} (h : ∀ dx dy st m H x y r Q, Rep X.K H m dx x → Rep X.K H m dy y → Ok X.K T H m st → o dx dy st = some r → DenO X.K T H m (some r) Q → ∃ f2 : R2, OpR X f f2 ∧ f2 x y H Q) : OpR X f (r2 X.K T o) := by
  intro pins s σ H x y v u Q I rx ry hh
  obtain ⟨dx, dy, st, m, q1, q2, ok, q3⟩ := hh
  cases ho : o dx dy st with
  | none => rw [ho] at q3; exact False.elim q3
  | some r =>
    rw [ho] at q3
    obtain ⟨f2, k1, k2⟩ := h dx dy st m H x y r Q q1 q2 ok ho q3
    exact k1 pins s σ H x y v u Q I rx ry k2
theorem deno_val {K : PySem.W.Frag} {H : Hp} {m : List Addr} {d : D} {st : Sto} {Q : VK} {v : V} (h : DenO K T H m (some (d, st)) Q) (ok : Ok K T H m st) (r : Rep K H m d v) : Q v H := h v H m (.refl H) (.refl m) ok r
theorem deno_tup {K : PySem.W.Frag} {H : Hp} {m : List Addr} {ds : List D} {st : Sto} {Q : VK} {vs : List V} (h : DenO K T H m (some (.tup ds, st)) Q) (ok : Ok K T H m st) (r : Reps K H m ds vs) : ∀ p o, H p = none → o.dict = none → Q (.ref p) (upd H p (.frz o (.tup vs))) := fun p o hp ho =>
  h _ _ m (Le.new hp) (.refl m) (ok.new hp) ⟨p, vs, rfl, .new ho, r.mono (Le.new hp) (.refl m)⟩
theorem deno_lst {K : PySem.W.Frag} {H : Hp} {m : List Addr} {ds : List D} {st : Sto} {Q : VK} {vs : List V} (h : DenO K T H m (some (.ref st.length, st ++ [.lst ds])) Q) (ok : Ok K T H m st) (r : Reps K H m ds vs) : ∀ p, H p = none → Q (.ref p) (upd H p (.lst vs)) := fun p hp =>
  h _ _ (m ++ [p]) (Le.new hp) (.add m p) (ok.newCell hp r) ⟨p, by rw [← ok.len]; simp, rfl⟩
theorem lst_of {K : PySem.W.Frag} {H : Hp} {m : List Addr} {st : Sto} {i : Nat} {xs : List D} (ok : Ok K T H m st) (h : lstOf st (.ref i) = some xs) : ∃ a vs, m[i]? = some a ∧ H a = some (.lst vs) ∧ Reps K H m xs vs := by
  unfold lstOf at h
  simp only at h
  split at h
  · rename_i ys hy
    cases h
    exact ok.lst hy
  · cases h
theorem reps_rep {K : PySem.W.Frag} {H : Hp} {m : List Addr} {xs : List D} {vs : List V} (h : Reps K H m xs vs) : ∀ n : Nat, Reps K H m (List.replicate n xs).flatten (List.replicate n vs).flatten
  | 0 => by simp; rfl
  | n + 1 => by
    rw [List.replicate_succ, List.replicate_succ, List.flatten_cons, List.flatten_cons]
    exact h.append (reps_rep h n)
/-- t + u, what is new without a dict of its own -/
def rCatN (K : PySem.W.Frag) : R2 := fun x y H Q => ∃ a b xs ys, x = .ref a ∧ y = .ref b ∧ SqT K H a xs ∧ SqT K H b ys ∧ xs.length + ys.length ≤ sizeLine ∧
  (xs = [] → Q (.ref b) H) ∧ (xs ≠ [] → ys = [] → Q (.ref a) H) ∧ (∀ p o, H p = none → o.dict = none → Q (.ref p) (upd H p (.frz o (.tup (xs ++ ys)))))
theorem op_catN : OpR X (binaryOp .Add) (rCatN X.K) := fun pins s σ H x y v u Q I rx ry ⟨a, b, xs, ys, ex, ey, ha, hb, hz, q0, q1, q2⟩ => by
  subst ex ey
  have hx0 := rx
  have hy0 := ry
  cases rx; cases ry
  obtain ⟨t1, r1, p1, _⟩ := I.tuple ha
  obtain ⟨t2, r2, p2, _⟩ := I.tuple hb
  by_cases hx : xs = []
  · exact op_catA pins s σ H _ _ _ _ Q I hx0 hy0 ⟨a, b, xs, ys, rfl, rfl, ha, hb, hz, q0, q1, fun z => absurd hx z⟩
  · have hl : (t1 ++ t2).length ≤ sizeLine := by rw [List.length_append, ← r1.length, ← r2.length]; exact hz
    refine HT.cat_tup p1 p2 (fun z => hx (r1.nil_iff.mp z)) (fun z => ⟨.ref a, H, I, rfl, q1 hx (r2.nil_iff.mp z)⟩) (fun z => ⟨.ref s.heap.objs.size, _, I.laid (t' := s.toks) (o := .frz (tupO (t1 ++ t2)) (.tup (xs ++ ys))) (fun b ob e => Heap.get?_push_of_some _ e) (Nat.le_refl _) ⟨Heap.get?_push_size _ rfl, by rw [List.length_append]; exact hz, _, r1.append r2, _, Heap.get?_push_size _ rfl, rfl, _, rfl⟩, rfl, q2 _ _ (I.hok.fresh (Nat.le_refl _)) rfl⟩) (by rw [← List.length_append]; exact hl)
theorem ope_add : OpR X (binaryOp .Add) (r2 X.K T oAdd) := op_of fun dx dy st m H x y r Q rx ry ok ho q => by
  cases dx with
  | int i =>
    cases dy with
    | int j => cases ho; cases rx; cases ry; exact ⟨_, op_add, i, j, rfl, rfl, deno_val q ok rfl⟩
    | non | bl _ | str _ | tup _ | ref _ => cases ho
  | tup xs =>
    cases dy with
    | tup ys =>
      obtain ⟨a, vs, rfl, h1, h2⟩ := rx
      obtain ⟨b, ws, rfl, h3, h4⟩ := ry
      simp only [oAdd] at ho
      split at ho
      · rename_i hl
        cases ho
        have e1 := Reps.length h2
        have e2 := Reps.length h4
        refine ⟨_, op_catN, a, b, vs, ws, rfl, rfl, h1.sq, h3.sq, lim_le (by rw [← e1, ← e2]; exact hl), fun e => ?_, fun _ e => ?_, deno_tup q ok (h2.append h4)⟩
        · subst e
          have : xs = [] := List.eq_nil_of_length_eq_zero e1
          subst this
          exact deno_val q ok ⟨b, ws, rfl, h3, h4⟩
        · subst e
          have : ys = [] := List.eq_nil_of_length_eq_zero e2
          subst this
          rw [List.append_nil] at q
          exact deno_val q ok ⟨a, vs, rfl, h1, h2⟩
      · cases ho
    | non | bl _ | str _ | int _ | ref _ => cases ho
  | ref i =>
    cases dy with
    | ref j =>
      simp only [oAdd] at ho
      split at ho
      · rename_i xs ys hx hy
        split at ho
        · rename_i hl
          cases ho
          obtain ⟨a, ha, rfl⟩ := rx
          obtain ⟨b, hb, rfl⟩ := ry
          obtain ⟨a', vs, e1, e2, e3⟩ := lst_of ok hx
          obtain ⟨b', ws, f1, f2, f3⟩ := lst_of ok hy
          rw [ha] at e1; cases e1
          rw [hb] at f1; cases f1
          exact ⟨_, op_cat, a, b, vs, ws, rfl, rfl, e2, f2, lim_le (by rw [← Reps.length e3, ← Reps.length f3]; exact hl), deno_lst q ok (e3.append f3)⟩
        · cases ho
      · cases ho
    | non | bl _ | str _ | tup _ | int _ => cases ho
  | str i =>
    cases dy with
    | str j =>
      simp only [oAdd] at ho
      split at ho
      · rename_i hl
        cases ho; cases rx; cases ry
        exact ⟨_, op_add_str, i, j, rfl, rfl, lim_le hl, deno_val q ok rfl⟩
      · cases ho
    | non | bl _ | ref _ | tup _ | int _ => cases ho
  | non | bl _ => cases dy <;> cases ho
theorem ope_sub : OpR X (binaryOp .Sub) (r2 X.K T oSub) := op_of fun dx dy st m H x y r Q rx ry ok ho q => by
  cases dx with
  | int i =>
    cases dy with
    | int j => cases ho; cases rx; cases ry; exact ⟨_, op_sub, i, j, rfl, rfl, deno_val q ok rfl⟩
    | non | bl _ | str _ | tup _ | ref _ => cases ho
  | non | bl _ | str _ | tup _ | ref _ => cases ho
theorem b64_ok {i j : Int} (h : (b64 i || b64 j) = true) : CMul i j := by
  simp only [b64, Bool.or_eq_true, decide_eq_true_eq] at h
  replace h : (-18446744073709551616 < i ∧ i < 18446744073709551616) ∨ (-18446744073709551616 < j ∧ j < 18446744073709551616) := by omega
  show (-(2 ^ 64) < i ∧ i < 2 ^ 64) ∨ (-(2 ^ 64) < j ∧ j < 2 ^ 64)
  omega
/-- a tuple once -/
theorem tuple_mul1 (l : Addr) (items : Array Value) (n : Nat) (dd : Option Addr) (sl : Array (Option Value)) (u : Tok) :
    Meets (Builtin.«tuple.__mul__» ⟨[.ref l, .int 1 u], []⟩) (fun _ R s => s.heap.get? l = some { cls := .type "tuple", dict := dd, data := .seq items n, slots := sl } ∧ R (.ok (.ret (Value.ref l))) s) :=
  .of_wp fun prog w A R s h => by
    obtain ⟨hp, g, d, tk, os⟩ := s
    obtain ⟨hl, h⟩ := h
    have f1 := AutoSeq1.idx_int
    wp_walk using wpAny_loadPart' hl
    exact ⟨_, rfl, h⟩
/-- t * 1 -/
theorem op_once : OpR X (binaryOp .Mult) (fun x y H Q => ∃ l xs, x = .ref l ∧ y = .int 1 ∧ SqT X.K H l xs ∧ Q (.ref l) H) := by
  intro pins s σ H x y v u Q I rx ry h
  obtain ⟨l, xs, rfl, rfl, hT, q⟩ := h
  cases rx
  obtain ⟨t, rfl⟩ := ry
  obtain ⟨its, r, ⟨⟨cls, dd, data, sl⟩, ho, hc, n, hd⟩, hs⟩ := I.tuple hT
  simp only at hc hd
  subst hc hd
  refine wpAny_binaryOp_repeat_ref (T := "tuple") (U := "int") (by decide) ⟨_, ho, rfl⟩ (fun s' => typeIs_int s' 1 t) noFill_tuple_mul F.fills_int_mul F.slot_int_rmul repeat_tuple F.slot_int_index.lookup
    (call_meets F.slot_int_rmul (typeIs_int s 1 t) F.entry_int_rmul (F.args_int_rmul_2 _ _) (int_rmul_tuple 1 t l its.toArray n dd sl)
      ⟨ho, rfl, ⟨_, ho, rfl⟩, call_meets F.slot_tuple_mul ⟨_, ho, rfl⟩ F.entry_tuple_mul (F.args_tuple_mul_2 _ _) (tuple_mul1 l its.toArray n dd sl t) ⟨ho, ?_⟩⟩)
  exact ⟨.ref l, H, I, rfl, q⟩
/-- a tuple no times -/
theorem tuple_mul0 (l : Addr) (items : Array Value) (n : Nat) (dd : Option Addr) (sl : Array (Option Value)) (u : Tok) (c1 : (items.isEmpty || (0 : Int) == 1) = false) :
    Meets (Builtin.«tuple.__mul__» ⟨[.ref l, .int 0 u], []⟩) (fun _ R s => s.heap.get? l = some { cls := .type "tuple", dict := dd, data := .seq items n, slots := sl } ∧
      R (.ok (.ret (Value.ref s.heap.objs.size))) { s with heap := s.heap.push { cls := Value.type "tuple", data := Data.seq #[] }, toks := s.toks }) :=
  .of_wp fun prog w A R s h => by
    obtain ⟨hp, g, d, tk, os⟩ := s
    obtain ⟨hl, h⟩ := h
    have f1 := AutoSeq1.idx_int
    wp_walk using wpAny_loadPart' hl
    repeat (first
      | (refine wpAny_ite_false (decide_eq_false (by rw [c1]; exact Bool.false_ne_true)) ?_; wp_walk using wpAny_loadPart' hl)
      | (refine wpAny_ite_false (by decide) ?_; wp_walk using wpAny_loadPart' hl))
    exact ⟨_, rfl, h⟩
theorem op_nought : OpR X (binaryOp .Mult) (fun x y H Q => ∃ l xs, x = .ref l ∧ y = .int 0 ∧ xs ≠ [] ∧ SqT X.K H l xs ∧ ∀ p o, H p = none → o.dict = none → Q (.ref p) (upd H p (.frz o (.tup [])))) := by
  intro pins s σ H x y v u Q I rx ry h
  obtain ⟨l, xs, rfl, rfl, hx, hT, q⟩ := h
  cases rx
  obtain ⟨t, rfl⟩ := ry
  obtain ⟨its, r, ⟨⟨cls, dd, data, sl⟩, ho, hc, n, hd⟩, hs⟩ := I.tuple hT
  simp only at hc hd
  subst hc hd
  have c1 : (its.toArray.isEmpty || (0 : Int) == 1) = false := by
    cases its with
    | nil =>
      have := r.length
      exact absurd (List.eq_nil_of_length_eq_zero this) hx
    | cons a b => rfl
  refine wpAny_binaryOp_repeat_ref (T := "tuple") (U := "int") (by decide) ⟨_, ho, rfl⟩ (fun s' => typeIs_int s' 0 t) noFill_tuple_mul F.fills_int_mul F.slot_int_rmul repeat_tuple F.slot_int_index.lookup
    (call_meets F.slot_int_rmul (typeIs_int s 0 t) F.entry_int_rmul (F.args_int_rmul_2 _ _) (int_rmul_tuple 0 t l its.toArray n dd sl)
      ⟨ho, rfl, ⟨_, ho, rfl⟩, call_meets F.slot_tuple_mul ⟨_, ho, rfl⟩ F.entry_tuple_mul (F.args_tuple_mul_2 _ _) (tuple_mul0 l its.toArray n dd sl t c1) ⟨ho, ?_⟩⟩)
  exact ⟨.ref s.heap.objs.size, _, I.laid (t' := s.toks) (o := .frz (tupO []) (.tup [])) (fun b ob q => Heap.get?_push_of_some _ q) (Nat.le_refl _) ⟨Heap.get?_push_size _ rfl, by decide, [], .nil, ⟨_, Heap.get?_push_size _ rfl, rfl, _, rfl⟩⟩, rfl, q _ _ (I.hok.fresh (Nat.le_refl _)) rfl⟩
theorem tuple_mulE2 (l : Addr) (n : Nat) (dd : Option Addr) (sl : Array (Option Value)) (u : Tok) :
    Meets (Builtin.«tuple.__mul__» ⟨[.ref l, .int 2 u], []⟩) (fun _ R s => s.heap.get? l = some { cls := .type "tuple", dict := dd, data := .seq #[] n, slots := sl } ∧ R (.ok (.ret (Value.ref l))) s) :=
  .of_wp fun prog w A R s h => by
    obtain ⟨hp, g, d, tk, os⟩ := s
    obtain ⟨hl, h⟩ := h
    have f1 := AutoSeq1.idx_int
    wp_walk using wpAny_loadPart' hl
    exact ⟨_, rfl, h⟩
theorem op_empty2 : OpR X (binaryOp .Mult) (fun x y H Q => ∃ l, x = .ref l ∧ y = .int 2 ∧ SqT X.K H l [] ∧ Q (.ref l) H) := by
  intro pins s σ H x y v u Q I rx ry h
  obtain ⟨l, rfl, rfl, hT, q⟩ := h
  cases rx
  obtain ⟨t, rfl⟩ := ry
  obtain ⟨its, r, ⟨⟨cls, dd, data, sl⟩, ho, hc, n, hd⟩, hs⟩ := I.tuple hT
  simp only at hc hd
  subst hc hd
  cases r
  refine wpAny_binaryOp_repeat_ref (T := "tuple") (U := "int") (by decide) ⟨_, ho, rfl⟩ (fun s' => typeIs_int s' 2 t) noFill_tuple_mul F.fills_int_mul F.slot_int_rmul repeat_tuple F.slot_int_index.lookup
    (call_meets F.slot_int_rmul (typeIs_int s 2 t) F.entry_int_rmul (F.args_int_rmul_2 _ _) (int_rmul_tuple 2 t l #[] n dd sl)
      ⟨ho, rfl, ⟨_, ho, rfl⟩, call_meets F.slot_tuple_mul ⟨_, ho, rfl⟩ F.entry_tuple_mul (F.args_tuple_mul_2 _ _) (tuple_mulE2 l n dd sl t) ⟨ho, ?_⟩⟩)
  exact ⟨.ref l, H, I, rfl, q⟩
theorem tuple_mulE3 (l : Addr) (n : Nat) (dd : Option Addr) (sl : Array (Option Value)) (u : Tok) :
    Meets (Builtin.«tuple.__mul__» ⟨[.ref l, .int 3 u], []⟩) (fun _ R s => s.heap.get? l = some { cls := .type "tuple", dict := dd, data := .seq #[] n, slots := sl } ∧ R (.ok (.ret (Value.ref l))) s) :=
  .of_wp fun prog w A R s h => by
    obtain ⟨hp, g, d, tk, os⟩ := s
    obtain ⟨hl, h⟩ := h
    have f1 := AutoSeq1.idx_int
    wp_walk using wpAny_loadPart' hl
    exact ⟨_, rfl, h⟩
theorem op_empty3 : OpR X (binaryOp .Mult) (fun x y H Q => ∃ l, x = .ref l ∧ y = .int 3 ∧ SqT X.K H l [] ∧ Q (.ref l) H) := by
  intro pins s σ H x y v u Q I rx ry h
  obtain ⟨l, rfl, rfl, hT, q⟩ := h
  cases rx
  obtain ⟨t, rfl⟩ := ry
  obtain ⟨its, r, ⟨⟨cls, dd, data, sl⟩, ho, hc, n, hd⟩, hs⟩ := I.tuple hT
  simp only at hc hd
  subst hc hd
  cases r
  refine wpAny_binaryOp_repeat_ref (T := "tuple") (U := "int") (by decide) ⟨_, ho, rfl⟩ (fun s' => typeIs_int s' 3 t) noFill_tuple_mul F.fills_int_mul F.slot_int_rmul repeat_tuple F.slot_int_index.lookup
    (call_meets F.slot_int_rmul (typeIs_int s 3 t) F.entry_int_rmul (F.args_int_rmul_2 _ _) (int_rmul_tuple 3 t l #[] n dd sl)
      ⟨ho, rfl, ⟨_, ho, rfl⟩, call_meets F.slot_tuple_mul ⟨_, ho, rfl⟩ F.entry_tuple_mul (F.args_tuple_mul_2 _ _) (tuple_mulE3 l n dd sl t) ⟨ho, ?_⟩⟩)
  exact ⟨.ref l, H, I, rfl, q⟩
/-- a tuple several times, of any length that is in sight -/
theorem op_repN : OpR X (binaryOp .Mult) (fun x y H Q => ∃ l k xs, x = .ref l ∧ y = .int k ∧ SqT X.K H l xs ∧ xs ≠ [] ∧ 2 ≤ k ∧ xs.length * k.toNat ≤ lim ∧ ∀ p o, H p = none → o.dict = none → Q (.ref p) (upd H p (.frz o (.tup (List.replicate k.toNat xs).flatten)))) := fun pins s σ H x y v u Q I rx ry ⟨l, k, xs, ex, ey, hT, hne, h1, h2, q⟩ => by
  subst ex ey
  cases rx
  obtain ⟨t, rfl⟩ := ry
  obtain ⟨its, r, ⟨⟨cls, dd, data, sl⟩, ho, hc, n, hd⟩, hs⟩ := I.tuple hT
  simp only at hc hd
  subst hc hd
  have hlen := r.length
  obtain ⟨j, rfl⟩ : ∃ j : Nat, k = (j : Int) := ⟨k.toNat, by omega⟩
  rw [Int.toNat_natCast] at h2 q
  have em : its.toArray.isEmpty = false := by
    cases its with
    | nil => exact absurd (List.eq_nil_of_length_eq_zero hlen) hne
    | cons _ _ => rfl
  have hpos : 1 ≤ xs.length := by
    cases xs with
    | nil => exact absurd rfl hne
    | cons _ _ => simp
  have hj : j ≤ 100000 := Nat.le_trans (by simpa using Nat.mul_le_mul_right j hpos) h2
  have zz : ((its.toArray.size : Nat) : Int) * (j : Int) ≤ 100000 := by
    rw [List.size_toArray, ← hlen, ← Int.natCast_mul]
    exact Int.ofNat_le.mpr h2
  have ff : (List.replicate j its).flatten.length ≤ sizeLine := by
    rw [PyProof.Rows.lm_len_rep_flat, ← hlen, Nat.mul_comm]
    exact lim_le h2
  have g0 : (decide ((j : Int) < -(2 ^ 63)) || decide ((j : Int) ≥ 2 ^ 63)) = false := by rw [decide_eq_false (by omega), decide_eq_false (by omega)]; rfl
  have g1 : (its.toArray.isEmpty || (j : Int) == 1) = false := by rw [em, Bool.false_or]; exact beq_eq_false_iff_ne.mpr (by omega)
  have g2 : (decide ((j : Int) ≤ 0) || its.toArray.isEmpty) = false := by rw [em, Bool.or_false]; exact decide_eq_false (by omega)
  have g4 : Builtin.Tuple.tupleTooMany (((its.toArray.size : Nat) : Int) * (j : Int)) = false := by
    unfold Builtin.Tuple.tupleTooMany
    rw [sizeLine_eq]
    exact decide_eq_false (by omega)
  have M := tuple_mulW l its.toArray n dd sl (j : Int) t g0 g1 g2 (by omega) g4 (by rw [Int.toNat_natCast, size_rep, List.size_toArray]; exact ff)
  rw [Int.toNat_natCast, size_rep] at M
  exact wpAny_binaryOp_repeat_ref (T := "tuple") (U := "int") (by decide) ⟨_, ho, rfl⟩ (fun s' => typeIs_int s' _ t) noFill_tuple_mul F.fills_int_mul F.slot_int_rmul repeat_tuple F.slot_int_index.lookup (call_meets F.slot_int_rmul (typeIs_int s _ t) F.entry_int_rmul (F.args_int_rmul_2 _ _) (int_rmul_tuple _ t l its.toArray n dd sl)
    ⟨ho, rfl, ⟨_, ho, rfl⟩, call_meets F.slot_tuple_mul ⟨_, ho, rfl⟩ F.entry_tuple_mul (F.args_tuple_mul_2 _ _) M ⟨ho,
      .ref s.heap.objs.size, _, I.laid (t' := s.toks) (o := .frz (tupO (List.replicate j its).flatten) (.tup (List.replicate j xs).flatten)) (fun b ob e => Heap.get?_push_of_some _ e) (Nat.le_refl _)
        ⟨Heap.get?_push_size _ rfl, by rw [PyProof.Rows.lm_len_rep_flat, Nat.mul_comm]; exact lim_le h2, _, r.rep j, _, Heap.get?_push_size _ rfl, rfl, _, rfl⟩, rfl, q _ _ (I.hok.fresh (Nat.le_refl _)) rfl⟩⟩)
theorem ope_mul : OpR X (binaryOp .Mult) (r2 X.K T oMul) := op_of fun dx dy st m H x y r Q rx ry ok ho q => by
  cases dx with
  | int i =>
    cases dy with
    | int j =>
      simp only [oMul] at ho
      split at ho
      · rename_i hb
        cases ho; cases rx; cases ry
        exact ⟨_, op_mul, i, j, rfl, rfl, b64_ok hb, deno_val q ok rfl⟩
      · cases ho
    | non | bl _ | str _ | tup _ | ref _ => cases ho
  | tup xs =>
    cases dy with
    | int k =>
      simp only [oMul] at ho
      split at ho
      · rename_i hk
        subst hk
        cases ho
        obtain ⟨a, vs, rfl, h1, h2⟩ := rx
        cases ry
        exact ⟨_, op_once, a, vs, rfl, rfl, h1.sq, deno_val q ok ⟨a, vs, rfl, h1, h2⟩⟩
      · split at ho
        · rename_i hb
          cases ho
          obtain ⟨a, vs, rfl, h1, h2⟩ := rx
          cases ry
          simp only [Bool.and_eq_true, decide_eq_true_eq, Bool.not_eq_true'] at hb
          obtain ⟨b1, b2⟩ := hb
          subst b1
          refine ⟨_, op_nought, a, vs, rfl, rfl, fun e => ?_, h1.sq, deno_tup q ok rfl⟩
          subst e
          have e1 := Reps.length h2
          have : xs = [] := List.eq_nil_of_length_eq_zero e1
          subst this
          cases b2
        split at ho
        · rename_i hb
          cases ho
          obtain ⟨a, vs, rfl, h1, h2⟩ := rx
          cases ry
          have e1 := Reps.length h2
          simp only [Bool.and_eq_true, decide_eq_true_eq, Bool.not_eq_true'] at hb
          obtain ⟨⟨b1, b3⟩, b4⟩ := hb
          refine ⟨_, op_repN, a, k, vs, rfl, rfl, h1.sq, fun e => ?_, b1, by rw [← e1]; exact b3, deno_tup q ok (reps_rep h2 _)⟩
          subst e
          have : xs = [] := List.eq_nil_of_length_eq_zero e1
          subst this
          cases b4
        split at ho
        · rename_i hb
          cases ho
          obtain ⟨a, vs, rfl, h1, h2⟩ := rx
          cases ry
          simp only [Bool.and_eq_true, Bool.or_eq_true, decide_eq_true_eq] at hb
          obtain ⟨b1, b2⟩ := hb
          have b1 : xs = [] := by cases xs with | nil => rfl | cons => cases b1
          subst b1
          have hv : vs = [] := List.eq_nil_of_length_eq_zero (Reps.length h2).symm
          subst hv
          rcases b2 with rfl | rfl
          · exact ⟨_, op_empty2, a, rfl, rfl, h1.sq, deno_val q ok ⟨a, [], rfl, h1, h2⟩⟩
          · exact ⟨_, op_empty3, a, rfl, rfl, h1.sq, deno_val q ok ⟨a, [], rfl, h1, h2⟩⟩
        · cases ho
    | non | bl _ | str _ | tup _ | ref _ => cases ho
  | ref i =>
    cases dy with
    | int k =>
      simp only [oMul] at ho
      split at ho
      · rename_i xs hx
        split at ho
        · rename_i hb
          cases ho
          obtain ⟨a, ha, rfl⟩ := rx
          cases ry
          obtain ⟨a', vs, e1, e2, e3⟩ := lst_of ok hx
          rw [ha] at e1; cases e1
          simp only [Bool.and_eq_true, decide_eq_true_eq] at hb
          obtain ⟨⟨b1, b2⟩, b3⟩ := hb
          refine ⟨_, op_rep, a, k, vs, rfl, rfl, e2, by omega, by omega, ?_, deno_lst q ok (reps_rep e3 _)⟩
          rw [← Reps.length e3]
          have z : xs.length * k.toNat ≤ 100 * 10000 := Nat.mul_le_mul b3 (by omega)
          exact Nat.le_trans z (by decide)
        · cases ho
      · cases ho
    | non | bl _ | str _ | tup _ | ref _ => cases ho
  | non | bl _ | str _ => cases dy <;> cases ho
theorem ope_div : OpR X (binaryOp .FloorDiv) (r2 X.K T oDiv) := op_of fun dx dy st m H x y r Q rx ry ok ho q => by
  cases dx with
  | int i =>
    cases dy with
    | int j =>
      simp only [oDiv] at ho
      split at ho
      · rename_i hb
        cases ho; cases rx; cases ry
        simp only [Bool.and_eq_true, decide_eq_true_eq] at hb
        exact ⟨_, op_fdivN, i, j, rfl, rfl, hb, deno_val q ok rfl⟩
      · cases ho
    | non | bl _ | str _ | tup _ | ref _ => cases ho
  | non | bl _ | str _ | tup _ | ref _ => cases ho
theorem ope_mod : OpR X (binaryOp .Mod) (r2 X.K T oMod) := op_of fun dx dy st m H x y r Q rx ry ok ho q => by
  cases dx with
  | int i =>
    cases dy with
    | int j =>
      simp only [oMod] at ho
      split at ho
      · rename_i hb
        cases ho; cases rx; cases ry
        exact ⟨_, op_modN, i, j, rfl, rfl, hb, deno_val q ok rfl⟩
      · cases ho
    | non | bl _ | str _ | tup _ | ref _ => cases ho
  | non | bl _ | str _ | tup _ | ref _ => cases ho
theorem ope_pow : OpR X (binaryOp .Pow) (r2 X.K T oPow) := op_of fun dx dy st m H x y r Q rx ry ok ho q => by
  cases dx with
  | int i =>
    cases dy with
    | int j =>
      simp only [oPow] at ho
      split at ho
      · rename_i hb
        cases ho; cases rx; cases ry
        simp only [Bool.and_eq_true, decide_eq_true_eq] at hb
        obtain ⟨⟨b1, b2⟩, b3⟩ := hb
        exact ⟨_, op_pow, i, j, rfl, rfl, ⟨b1, by omega, Nat.lt_trans b3 (by decide)⟩, deno_val q ok rfl⟩
      · cases ho
    | non | bl _ | str _ | tup _ | ref _ => cases ho
  | non | bl _ | str _ | tup _ | ref _ => cases ho
theorem ope_cmpI {op : CmpOp} {p : Int → Int → Bool} (h : OpR X (compareOp op) (rI0 fun i j => .bl (p i j))) : OpR X (compareOp op) (r2 X.K T (oCmpI p)) := op_of fun dx dy st m H x y r Q rx ry ok ho q => by
  cases dx with
  | int i =>
    cases dy with
    | int j => cases ho; cases rx; cases ry; exact ⟨_, h, i, j, rfl, rfl, deno_val q ok rfl⟩
    | non | bl _ | str _ | tup _ | ref _ => cases ho
  | non | bl _ | str _ | tup _ | ref _ => cases ho
theorem ope_lt : OpR X (compareOp .Lt) (r2 X.K T oLt) := ope_cmpI op_lt
theorem ope_le : OpR X (compareOp .LtE) (r2 X.K T oLe) := ope_cmpI op_le
theorem ope_gt : OpR X (compareOp .Gt) (r2 X.K T oGt) := ope_cmpI op_gt
theorem ope_ge : OpR X (compareOp .GtE) (r2 X.K T oGe) := ope_cmpI op_ge
theorem ope_is : OpR X (compareOp .Is) (r2 X.K T oIs) := op_of fun dx dy st m H x y r Q rx ry ok ho q => by
  cases dy with
  | non =>
    cases ry
    cases dx with
    | non => cases ho; cases rx; exact ⟨_, op_isN, rfl, deno_val q ok rfl⟩
    | bl _ => cases ho; cases rx; exact ⟨_, op_isN, rfl, deno_val q ok rfl⟩
    | int _ => cases ho; cases rx; exact ⟨_, op_isN, rfl, deno_val q ok rfl⟩
    | str _ => cases ho; cases rx; exact ⟨_, op_isN, rfl, deno_val q ok rfl⟩
    | tup _ => cases ho; obtain ⟨a, vs, rfl, _⟩ := rx; exact ⟨_, op_isN, rfl, deno_val q ok rfl⟩
    | ref _ => cases ho; obtain ⟨a, _, rfl⟩ := rx; exact ⟨_, op_isN, rfl, deno_val q ok rfl⟩
  | bl b =>
    cases dx with
    | bl a => cases ho; cases rx; cases ry; exact ⟨_, op_isBl, a, b, rfl, rfl, deno_val q ok rfl⟩
    | non | int _ | str _ | tup _ | ref _ => cases ho
  | int _ | str _ | tup _ | ref _ => cases dx <;> cases ho
theorem ope_isN : OpR X (compareOp .IsNot) (r2 X.K T oIsN) := op_of fun dx dy st m H x y r Q rx ry ok ho q => by
  cases dy with
  | non =>
    cases ry
    cases dx with
    | non => cases ho; cases rx; exact ⟨_, op_notN, rfl, deno_val q ok rfl⟩
    | bl _ => cases ho; cases rx; exact ⟨_, op_notN, rfl, deno_val q ok rfl⟩
    | int _ => cases ho; cases rx; exact ⟨_, op_notN, rfl, deno_val q ok rfl⟩
    | str _ => cases ho; cases rx; exact ⟨_, op_notN, rfl, deno_val q ok rfl⟩
    | tup _ => cases ho; obtain ⟨a, vs, rfl, _⟩ := rx; exact ⟨_, op_notN, rfl, deno_val q ok rfl⟩
    | ref _ => cases ho; obtain ⟨a, _, rfl⟩ := rx; exact ⟨_, op_notN, rfl, deno_val q ok rfl⟩
  | bl b =>
    cases dx with
    | bl a => cases ho; cases rx; cases ry; exact ⟨_, op_notBl, a, b, rfl, rfl, deno_val q ok rfl⟩
    | non | int _ | str _ | tup _ | ref _ => cases ho
  | int _ | str _ | tup _ | ref _ => cases dx <;> cases ho
/-! == -/
section
variable {K : PySem.W.Frag} {H : Hp} {m : List Addr} {st : Sto}
mutual
theorem dp_of : ∀ {d : D} {x : V} {p : PyData}, Rep K H m d x → py d = some p → Dp K H x p
  | .non, x, p, r, h => by cases r; cases h; exact .non
  | .bl b, x, p, r, h => by cases r; cases h; exact .bl b
  | .int i, x, p, r, h => by cases r; cases h; exact .int i
  | .str i, x, p, r, h => by cases r; cases h; exact .str i
  | .tup xs, x, p, r, h => by
    obtain ⟨a, vs, rfl, h1, h2⟩ := r
    simp only [py, Option.map_eq_some_iff] at h
    obtain ⟨ps, h3, rfl⟩ := h
    exact .tup h1.sq (dps_of h2 h3)
  | .ref i, x, p, r, h => by simp [py] at h
theorem dps_of : ∀ {ds : List D} {xs : List V} {ps : List PyData}, Reps K H m ds xs → pys ds = some ps → DpAll K H xs ps
  | [], xs, ps, r, h => by cases r; cases h; exact .nil
  | d :: ds, xs, ps, r, h => by
    obtain ⟨v, vr, rfl, h1, h2⟩ := r
    simp only [pys, Option.bind_eq_some_iff, Option.map_eq_some_iff] at h
    obtain ⟨p, h3, q, h4, rfl⟩ := h
    exact .cons (dp_of h1 h3) (dps_of h2 h4)
end
theorem dpS_of {d : D} {x : V} {p : PyData} (ok : Ok K T H m st) (r : Rep K H m d x) (h : pyS st d = some p) : Dp K H x p := by
  cases d with
  | ref i =>
    obtain ⟨a, hm, rfl⟩ := r
    simp only [pyS] at h
    split at h
    · rename_i xs hx
      obtain ⟨a', vs, h1, h2, h3⟩ := cellItems_ok ok hx
      rw [hm] at h1; cases h1
      simp only [Option.map_eq_some_iff] at h
      obtain ⟨ps, h4, rfl⟩ := h
      exact .lst h2 (dps_of h3 h4)
    · cases h
  | non => exact dp_of r h
  | bl _ => exact dp_of r h
  | int _ => exact dp_of r h
  | str _ => exact dp_of r h
  | tup _ => exact dp_of r h
end
theorem eqF_cases {K : PySem.W.Frag} {H : Hp} {m : List Addr} {st : Sto} {x y : D} {b : Bool} (h : eqF st x y = some b) : (∀ v w, Rep K H m x v → Rep K H m y w → scal v w = true ∧ decide (v = w) = b) ∨ eqD st x y = some b := by
  unfold eqF at h
  split at h
  · rename_i i j
    cases h
    refine .inl fun v w hv hw => ?_
    cases hv; cases hw
    exact ⟨rfl, by simp⟩
  · rename_i i j
    cases h
    refine .inl fun v w hv hw => ?_
    cases hv; cases hw
    exact ⟨rfl, by simp⟩
  · rename_i i j
    cases h
    refine .inl fun v w hv hw => ?_
    cases hv; cases hw
    exact ⟨rfl, by simp⟩
  · cases h
    refine .inl fun v w hv hw => ?_
    cases hv; cases hw
    exact ⟨rfl, by simp⟩
  · exact .inr h
theorem eqD_ok {st : Sto} {x y : D} {b : Bool} (h : eqD st x y = some b) : ∃ d e, pyS st x = some d ∧ pyS st y = some e ∧ SeqAt.shaped d = true ∧ SeqAt.shaped e = true ∧ PyData.eqv d e = b := by
  unfold eqD at h
  split at h
  · rename_i d e h1 h2
    split at h
    · rename_i hs
      cases h
      simp only [Bool.and_eq_true] at hs
      exact ⟨d, e, h1, h2, hs.1, hs.2, rfl⟩
    · cases h
  · cases h
theorem ope_eq (hu : X.A.units + 64 < cLine) : OpR X (compareOp .Eq) (r2 X.K T oEq) := op_of fun dx dy st m H x y r Q rx ry ok ho q => by
  simp only [oEq, Option.map_eq_some_iff] at ho
  obtain ⟨b, hb, rfl⟩ := ho
  rcases eqF_cases (K := X.K) (H := H) (m := m) hb with hs | hb
  · obtain ⟨h1, h2⟩ := hs x y rx ry
    exact ⟨_, op_eq, h1, by rw [h2]; exact deno_val q ok rfl⟩
  obtain ⟨d, e, h1, h2, h3, h4, h5⟩ := eqD_ok hb
  refine ⟨_, op_eqD hu, d, e, dpS_of ok rx h1, dpS_of ok ry h2, h3, h4, ?_⟩
  rw [h5]
  exact deno_val q ok rfl
theorem ope_ne (hu : X.A.units + 64 < cLine) : OpR X (compareOp .NotEq) (r2 X.K T oNe) := op_of fun dx dy st m H x y r Q rx ry ok ho q => by
  simp only [oNe, Option.map_eq_some_iff] at ho
  obtain ⟨b, hb, rfl⟩ := ho
  rcases eqF_cases (K := X.K) (H := H) (m := m) hb with hs | hb
  · obtain ⟨h1, h2⟩ := hs x y rx ry
    exact ⟨_, op_ne, h1, by rw [h2]; exact deno_val q ok rfl⟩
  obtain ⟨d, e, h1, h2, h3, h4, h5⟩ := eqD_ok hb
  refine ⟨_, op_neD hu, d, e, dpS_of ok rx h1, dpS_of ok ry h2, h3, h4, ?_⟩
  rw [h5]
  exact deno_val q ok rfl
end

/-! ### subscripts, slices, stores -/
def oIx : O2 := fun x y st => match y with
  | .int i => match seqOf st x with
    | some xs => (atI xs i).map fun d => (d, st)
    | none => none
  | _ => none
def cutD (xs : List D) (lo hi : Option Int) : List D := (xs.drop (HT.sIx xs.length 0 lo)).take (HT.sIx xs.length xs.length hi - HT.sIx xs.length 0 lo)
def eSl (a : EX) (lo hi : Option EX) : EX := fun e st => (a e st).bind fun x st1 =>
  (match lo with | none => R.ok none st1 | some f => (f e st1).bind fun d st2 => match d with | .int i => .ok (some i) st2 | _ => .no).bind fun l st2 =>
  (match hi with | none => R.ok none st2 | some f => (f e st2).bind fun d st3 => match d with | .int i => .ok (some i) st3 | _ => .no).bind fun h st3 => match x with
    | .tup xs => .ok (.tup (cutD xs l h)) st3
    | .ref i => match cellItems st3[i]? with
      | some xs => .ok (.ref st3.length) (st3 ++ [Cell.lst (cutD xs l h)])
      | none => .no
    | _ => .no
def sStore (a i f : EX) : SX := fun e st => (f e st).st e fun v st1 => (a e st1).st e fun x st2 => (i e st2).st e fun k st3 => match x, k with
  | .ref j, .int n => match lstOf st3 (.ref j) with
    | some xs => match ixN xs.length n with
      | some p => .nx e (List.set st3 j (Cell.lst (xs.set p v)))
      | none => .no
    | none => .no
  | _, _ => .no
section
variable {X : Cx} {T : List (Addr × Str)} {W : WX} {a b c : Expr} {fa fb fc : EX} {pos p2 : Pos}
theorem reps_at {K : PySem.W.Frag} {H : Hp} {m : List Addr} {xs : List D} {vs : List V} {i : Int} {d : D} (h : Reps K H m xs vs) (e : atI xs i = some d) : ∃ v, atI vs i = some v ∧ Rep K H m d v := by
  unfold atI at e ⊢
  rw [← h.length]
  cases hx : ixN xs.length i with
  | none => rw [hx] at e; cases e
  | some j => rw [hx] at e; exact h.get e
theorem seq_okN {K : PySem.W.Frag} {H : Hp} {m : List Addr} {st : Sto} {d : D} {x : V} {xs : List D} (ok : Ok K T H m st) (r : Rep K H m d x) (h : seqOf st d = some xs) : ∃ a vs, x = .ref a ∧ (SqL K H a vs ∨ SqN K H a vs) ∧ Reps K H m xs vs := by
  cases d with
  | tup ys =>
    cases h
    obtain ⟨a, vs, rfl, h1, h2⟩ := r
    exact ⟨a, vs, rfl, .inr h1, h2⟩
  | ref i =>
    obtain ⟨a, hm, rfl⟩ := r
    obtain ⟨a', vs, h1, h2, h3⟩ := cellItems_ok ok h
    rw [hm] at h1; cases h1
    exact ⟨a, vs, rfl, .inl h2, h3⟩
  | non | bl _ | int _ | str _ => cases h
theorem seq_ok {K : PySem.W.Frag} {H : Hp} {m : List Addr} {st : Sto} {d : D} {x : V} {xs : List D} (ok : Ok K T H m st) (r : Rep K H m d x) (h : seqOf st d = some xs) : ∃ a vs, x = .ref a ∧ (SqL K H a vs ∨ SqT K H a vs) ∧ Reps K H m xs vs := by
  obtain ⟨a, vs, e, h1, h2⟩ := seq_okN ok r h
  exact ⟨a, vs, e, h1.imp id (·.sq), h2⟩
theorem ixe : IxR X (r2 X.K T oIx) := by
  intro value slice pins s σ H x y v u Q I rx ry hh hs
  obtain ⟨dx, dy, st, m, q1, q2, ok, q3⟩ := hh
  cases dy with
  | int i =>
    cases q2
    unfold oIx at q3
    cases hq : seqOf st dx with
    | none => simp only [hq] at q3; exact False.elim q3
    | some xs =>
      simp only [hq] at q3
      cases hd : atI xs i with
      | none => rw [hd] at q3; exact False.elim q3
      | some d =>
        rw [hd] at q3
        obtain ⟨a, vs, rfl, h1, h2⟩ := seq_ok ok q1 hq
        obtain ⟨w, h3, h4⟩ := reps_at h2 hd
        rcases h1 with h1 | h1
        · exact ix_list value slice pins s σ H _ _ v u Q I rx ry ⟨a, vs, i, w, rfl, rfl, h1, h3, deno_val q3 ok h4⟩ hs
        · exact ix_tup value slice pins s σ H _ _ v u Q I rx ry ⟨a, vs, i, w, rfl, rfl, h1, h3, deno_val q3 ok h4⟩ hs
  | non | bl _ | str _ | tup _ | ref _ => exact False.elim q3
theorem reps_cut {K : PySem.W.Frag} {H : Hp} {m : List Addr} {xs : List D} {vs : List V} {lo hi : Option Int} (h : Reps K H m xs vs) : Reps K H m (cutD xs lo hi) (cutV vs lo hi) := by
  unfold cutD cutV
  rw [← h.length]
  exact (h.drop _).take _
def tO (K : PySem.W.Frag) (T : List (Addr × Str)) (mg : Str → Option Value) (W : WX) (f : Env → Sto → R (Option Int)) : TO := fun s H Q => ∃ e st m, EnvOk K H m s e ∧ Ok K T H m st ∧ Den K T mg W (fun _ _ (x y : Option Int) => x = y) s H m (f e st) Q
def eO : Option EX → Env → Sto → R (Option Int)
  | none => fun _ st => .ok none st
  | some f => fun e st => (f e st).bind fun d st2 => match d with | .int i => .ok (some i) st2 | _ => .no
structure JO (X : Cx) (T : List (Addr × Str)) (W : WX) (lo : Option Expr) (f : Option EX) (tl : TO) : Prop where
  po : PO X lo tl
  weak : ∀ s H Q, tO X.K T X.mg W (eO f) s H Q → tl s H Q
theorem jo_none : JO X T W none none tNoPart := ⟨po_none, fun s H Q ⟨e, st, m, he, ok, h⟩ => h none H m (.refl H) (.refl m) ok rfl⟩
theorem jo_some (ha : J X T W a fa) : JO X T W (some a) (some fa) (tPart (tE X.K T X.mg W fa)) := ⟨po_some ha, fun s H Q ⟨e, st, m, he, ok, h⟩ =>
  ⟨e, st, m, he, ok, h.bind fun d x st1 H1 m1 _ l p ok1 rx h1 => by
    cases d with
    | int i => cases rx; exact ⟨i, rfl, h1 (some i) H1 m1 (.refl H1) (.refl m1) ok1 rfl⟩
    | non | bl _ | str _ | tup _ | ref _ => exact False.elim h1⟩⟩
/-- t[lo:hi], what is new without a dict of its own -/
def rSlN (K : PySem.W.Frag) : V → Option Int → Option Int → Hp → VK → Prop := fun x lo hi H Q => ∃ a xs, x = .ref a ∧ SqT K H a xs ∧
  (HT.sIx xs.length 0 lo = 0 ∧ HT.sIx xs.length xs.length hi = xs.length → Q (.ref a) H) ∧ (∀ p o, H p = none → o.dict = none → Q (.ref p) (upd H p (.frz o (.tup (cutV xs lo hi)))))
theorem sl_tupN : SlR X (rSlN X.K) := fun pins s σ H x v vl vu lo hi sl Q I rx hs pl pu ⟨a, xs, ex, hx, q1, q2⟩ => by
  subst ex
  by_cases hw : HT.sIx xs.length 0 lo = 0 ∧ HT.sIx xs.length xs.length hi = xs.length
  · exact sl_tupA pins s σ H _ v vl vu lo hi sl Q I rx hs pl pu ⟨a, xs, rfl, hx, q1, fun z => absurd hw z⟩
  · cases rx
    obtain ⟨its, r, ht, hz⟩ := I.tuple hx
    have hsz : its.toArray.size = xs.length := by rw [List.size_toArray]; exact r.length.symm
    refine ⟨"tuple", _, PyProof.Rows.slot_tuple_getitem.lookup, ht.typeIs, HT.getItem_tuple_cut ht hs pl pu (by rw [hsz]; exact hw) ?_ (by rw [hsz]; exact hz)⟩
    rw [hsz]
    have rr := (r.drop (HT.sIx xs.length 0 lo)).take (HT.sIx xs.length xs.length hi - HT.sIx xs.length 0 lo)
    refine ⟨.ref s.heap.objs.size, _, I.laid (t' := s.toks) (o := .frz (tupO _) (.tup (cutV xs lo hi))) (fun b ob e => Heap.get?_push_of_some _ e) (Nat.le_refl _) ⟨Heap.get?_push_size _ rfl, Nat.le_trans (cutV_length xs lo hi) hz, _, rr, _, Heap.get?_push_size _ rfl, rfl, _, rfl⟩, rfl, q2 _ _ (I.hok.fresh (Nat.le_refl _)) rfl⟩
def rSl2 (K : PySem.W.Frag) : V → Option Int → Option Int → Hp → VK → Prop := fun x lo hi H Q => rSlL K x lo hi H Q ∨ rSlN K x lo hi H Q
theorem sl_two : SlR X (rSl2 X.K) := by
  intro pins s σ H x v vl vu lo hi sl Q I rx hs pl pu h
  rcases h with h | h
  · exact sl_list pins s σ H x v vl vu lo hi sl Q I rx hs pl pu h
  · exact sl_tupN pins s σ H x v vl vu lo hi sl Q I rx hs pl pu h
theorem j_sl {lo hi : Option Expr} {fl fh : Option EX} {tl th : TO} (ha : J X T W a fa) (hl : JO X T W lo fl tl) (hh : JO X T W hi fh th) : J X T W (.Subscript a (.Slice lo hi none p2) pos) (eSl fa fl fh) :=
  pe_weak (pe_slice sl_two ha hl.po hh.po) fun s H Q ⟨e, st, m, he, ok, h⟩ => ⟨e, st, m, he, ok, h.bind fun d x st1 H1 m1 _ l p ok1 rx h1 => by
    refine hl.weak _ _ _ ⟨e, st1, m1, he.mono l p, ok1, ?_⟩
    refine Den.bind (RC := RD X.K) (Q := Q) (k := fun l st2 => (eO fh e st2).bind fun h st3 => match d with
      | .tup xs => .ok (.tup (cutD xs l h)) st3
      | .ref i => match cellItems st3[i]? with
        | some xs => .ok (.ref st3.length) (st3 ++ [Cell.lst (cutD xs l h)])
        | none => .no
      | _ => .no) ?_ fun lo' lo2 st2 H2 m2 _ l2 p2 ok2 r2 h2 => ?_
    · cases fl <;> cases fh <;> exact h1
    · cases r2
      refine hh.weak _ _ _ ⟨e, st2, m2, (he.mono l p).mono l2 p2, ok2, h2.bind fun hi' hi2 st3 H3 m3 _ l3 p3 ok3 r3 h3 => ?_⟩
      cases r3
      have rx := (rx.mono l2 p2).mono l3 p3
      cases d with
      | tup xs =>
        obtain ⟨a, vs, rfl, q1, q2⟩ := rx
        refine .inr ⟨a, vs, rfl, q1.sq, fun hw => ?_, fun p o hp ho => ?_⟩
        · refine h3 _ H3 m3 (.refl H3) (.refl m3) ok3 ⟨a, vs, rfl, q1, ?_⟩
          have z : cutV vs lo' hi' = vs := by
            unfold cutV
            rw [hw.1, hw.2, List.drop_zero, Nat.sub_zero, List.take_length]
          rw [← z]
          exact reps_cut q2
        · exact h3 _ _ m3 (Le.new hp) (.refl m3) (ok3.new hp) ⟨p, _, rfl, .new ho, (reps_cut q2).mono (Le.new hp) (.refl m3)⟩
      | ref i =>
        obtain ⟨a, hm, rfl⟩ := rx
        cases hc : cellItems st3[i]? with
        | none => simp only [hc] at h3; exact False.elim h3
        | some xs =>
          simp only [hc] at h3
          obtain ⟨a', vs, q1, q2, q3⟩ := cellItems_ok ok3 hc
          rw [hm] at q1; cases q1
          exact .inl ⟨a, vs, rfl, q2, fun p hp => h3 _ _ (m3 ++ [p]) (Le.new hp) (.add m3 p) (ok3.newCell hp (reps_cut q3)) ⟨p, by rw [← ok3.len]; simp, rfl⟩⟩
      | non | bl _ | str _ | int _ => exact False.elim h3⟩
theorem js_store {i : Expr} {fi : EX} (ha : J X T W a fa) (hi : J X T W i fi) (hb : J X T W b fb) (hs : swapsWithSole [.Subscript a i p2] b pos.line X.env = pure false := by rfl) (hw : swappedStores [.Subscript a i p2] b X.env = pure none := by rfl)
    (h1 : (assignEach [.Subscript a i p2] X.env).map (·.2) = [assign (.Subscript a i p2) X.env] := by rfl)
    (h2 : ∀ v, assign (.Subscript a i p2) X.env v = (do
      let ov ← holding [v] (eval a X.env)
      let iv ← holding [v, ov] (eval i X.env)
      standAt p2
      holding [v, ov, iv] (setItem ov iv v)
      release [v, ov, iv] []) := by intro _; rfl) : JS X T W (.Assign [.Subscript a i p2] b pos) (sStore fa fi fb) :=
  ps_weak (ps_asg hb (pg_sub ha hi set_list h2) hs hw h1) fun F s H ⟨e, st, m, he, ok, h⟩ =>
    ⟨e, st, m, he, ok, st_of he h fun v vv st1 H1 m1 _ l p ok1 rv h1 =>
      ⟨e, st1, m1, he.mono l p, ok1, st_of (he.mono l p) h1 fun x xv st2 H2 m2 _ l2 p2 ok2 rx h2 =>
        ⟨e, st2, m2, (he.mono l p).mono l2 p2, ok2, st_of ((he.mono l p).mono l2 p2) h2 fun k kv st3 H3 m3 _ l3 p3 ok3 rk h3 => by
          cases x with
          | ref j =>
            cases k with
            | int n =>
              obtain ⟨q, hm, rfl⟩ := rx.mono l3 p3
              cases rk
              cases hx : lstOf st3 (.ref j) with
              | none => simp only [hx] at h3; exact False.elim h3
              | some xs =>
                simp only [hx] at h3
                cases hp : ixN xs.length n with
                | none => simp only [hp] at h3; exact False.elim h3
                | some k =>
                  simp only [hp] at h3
                  obtain ⟨a', vs, q1, q2, q3⟩ := lst_of ok3 hx
                  rw [hm] at q1; cases q1
                  have hst : st3[j]? = some (.lst xs) := by
                    unfold lstOf at hx
                    simp only at hx
                    split at hx
                    · rename_i z hz; cases hx; exact hz
                    · cases hx
                  have le := Le.set (o := .lst (vs.set k vv)) q2
                  refine ⟨q, vs, n, k, rfl, rfl, q2, by rw [← Reps.length q3]; exact hp, ?_⟩
                  exact h3 s _ m3 le (.refl m3) (ok3.setCell hst hm q2 (q3.set ((rv.mono l2 p2).mono l3 p3))) ((((he.mono l p).mono l2 p2).mono l3 p3).mono le (.refl m3))
            | non | bl _ | str _ | tup _ | ref _ => exact False.elim h3
          | non | bl _ | str _ | tup _ | int _ => exact False.elim h3⟩⟩⟩
end
end Mm

namespace Mm
open PySem L2
/-! ### what a def hands back -/
mutual
def lowD (n : Nat) : D → Bool
  | .ref i => decide (i < n)
  | .tup xs => lowDs n xs
  | _ => true
def lowDs (n : Nat) : List D → Bool
  | [] => true
  | x :: xs => lowD n x && lowDs n xs
end
def lowC (n : Nat) : Cell → Bool
  | .lst xs => lowDs n xs
  | .ro xs => lowDs n xs
def lowS (n : Nat) (st : Sto) : Bool := st.all (lowC n)
/-- the cells from n on are dropped where nothing leads to them -/
def fin (st : Sto) (d : D) (st' : Sto) : R D :=
  if st'.take st.length = st ∨ lowS st.length (st'.take st.length) = true then
    if lowD st.length d = true then .ok d (st'.take st.length)
    else match d with
      | .ref j => match st'[j]? with
        | some (.lst xs) => if lowDs st.length xs = true then .ok (.ref st.length) (st'.take st.length ++ [.lst xs]) else .ok d st'
        | _ => .ok d st'
      | _ => .ok d st'
  else .ok d st'
def fnS (ns : Nat) (body : SX) : List D → Sto → R D := fun ds st => match body (ds.map some ++ List.replicate (ns - ds.length) none) st with
  | .nx _ st' => fin st .non st'
  | .ret d st' => fin st d st'
  | .exc x _ st' => .ex x st'
  | _ => .no
section
variable {K : PySem.W.Frag} {T : List (Addr × Str)} {H : Hp} {m : List Addr} {st : Sto}
mutual
theorem rep_low {n : Nat} : ∀ {d : D} {v : V}, Rep K H m d v → lowD n d = true → Rep K H (m.take n) d v
  | .non, _, h, _ => h
  | .bl _, _, h, _ => h
  | .int _, _, h, _ => h
  | .str _, _, h, _ => h
  | .tup xs, _, h, l => by
    obtain ⟨a, vs, h1, h2, h3⟩ := h
    exact ⟨a, vs, h1, h2, reps_low h3 l⟩
  | .ref i, _, h, l => by
    obtain ⟨a, h1, h2⟩ := h
    have l : i < n := of_decide_eq_true l
    exact ⟨a, by rw [List.getElem?_take_of_lt l]; exact h1, h2⟩
theorem reps_low {n : Nat} : ∀ {ds : List D} {vs : List V}, Reps K H m ds vs → lowDs n ds = true → Reps K H (m.take n) ds vs
  | [], _, h, _ => h
  | d :: ds, _, h, l => by
    obtain ⟨v, r, h1, h2, h3⟩ := h
    simp only [lowDs, Bool.and_eq_true] at l
    exact ⟨v, r, h1, rep_low h2 l.1, reps_low h3 l.2⟩
end
mutual
theorem low_of : ∀ {d : D} {v : V}, Rep K H m d v → lowD m.length d = true
  | .non, _, h => rfl
  | .bl _, _, h => rfl
  | .int _, _, h => rfl
  | .str _, _, h => rfl
  | .tup xs, _, h => by
    obtain ⟨a, vs, h1, h2, h3⟩ := h
    exact lows_of h3
  | .ref i, _, h => by
    obtain ⟨a, h1, h2⟩ := h
    exact decide_eq_true (List.getElem?_eq_some_iff.mp h1).1
theorem lows_of : ∀ {ds : List D} {vs : List V}, Reps K H m ds vs → lowDs m.length ds = true
  | [], _, h => rfl
  | d :: ds, _, h => by
    obtain ⟨v, r, h1, h2, h3⟩ := h
    simp only [lowDs, low_of h2, lows_of h3, Bool.and_self]
end
theorem lowS_of (ok : Ok K T H m st) : lowS st.length st = true := by
  unfold lowS
  rw [List.all_eq_true]
  intro c hc
  obtain ⟨i, hi⟩ := List.mem_iff_getElem?.mp hc
  obtain ⟨a, h1, h2⟩ := ok.cell i c hi
  obtain ⟨ds, vs, h3, _, h4⟩ := h2.list
  have z := lows_of h4
  rw [ok.len] at z
  rcases h3 with rfl | rfl <;> exact z
theorem cell_low {n : Nat} {a : Addr} {c : Cell} (h : CellOk K H m a c) (l : lowC n c = true) : CellOk K H (m.take n) a c := by
  cases c with
  | lst xs =>
    obtain ⟨vs, h1, h2⟩ := h
    exact ⟨vs, h1, reps_low h2 l⟩
  | ro xs =>
    obtain ⟨vs, h1, h2⟩ := h
    exact ⟨vs, h1, reps_low h2 l⟩
theorem Ok.take {n : Nat} (ok : Ok K T H m st) (l : lowS n (st.take n) = true) : Ok K T H (m.take n) (st.take n) := by
  refine ⟨by rw [List.length_take, List.length_take, ok.len], fun i j a xs ys h1 h2 h3 h4 => ?_, fun i c hc => ?_, ok.tabs⟩
  · have g : ∀ {i : Nat} {a : Addr}, (m.take n)[i]? = some a → m[i]? = some a := fun {i a} h => by
      have hi : i < n := by
        have := (List.getElem?_eq_some_iff.mp h).1
        rw [List.length_take] at this
        omega
      rw [List.getElem?_take_of_lt hi] at h; exact h
    have g2 : ∀ {i : Nat} {a : Cell}, (st.take n)[i]? = some a → st[i]? = some a := fun {i a} h => by
      have hi : i < n := by
        have := (List.getElem?_eq_some_iff.mp h).1
        rw [List.length_take] at this
        omega
      rw [List.getElem?_take_of_lt hi] at h; exact h
    exact ok.nd i j a xs ys (g h1) (g h2) (g2 h3) (g2 h4)
  · have hi : i < n := by
      have := (List.getElem?_eq_some_iff.mp hc).1
      rw [List.length_take] at this
      omega
    have lc : lowC n c = true := List.all_eq_true.mp l c (List.mem_of_getElem? hc)
    rw [List.getElem?_take_of_lt hi] at hc
    obtain ⟨a, h1, h2⟩ := ok.cell i c hc
    exact ⟨a, by rw [List.getElem?_take_of_lt hi]; exact h1, cell_low h2 lc⟩
/-- what is told of fin -/
theorem fin_ok {mg : Str → Option Value} {W : WX} {s : L2.St} {H' : Hp} {m' : List Addr} {st' : Sto} {d : D} {v : V} {Q : VK} (hm : m.length = st.length) (ok0 : lowS st.length st = true) (h : Den K T mg W (RD K) s H m (fin st d st') Q) (le : Le H H') (pr : Pre m m') (ok : Ok K T H' m' st') (r : Rep K H' m' d v) : Q v H' := by
  unfold fin at h
  have et : m'.take st.length = m := pr.take hm.symm
  split at h
  · rename_i hl
    have hlow : lowS st.length (st'.take st.length) = true := by
      rcases hl with e | e
      · rw [e]; exact ok0
      · exact e
    have okt := ok.take hlow
    rw [et] at okt
    split at h
    · rename_i hd
      have rt := rep_low r hd
      rw [et] at rt
      exact h v H' m le (.refl m) okt rt
    · split at h
      · rename_i j hj
        split at h
        · rename_i xs hx
          split at h
          · rename_i hxs
            obtain ⟨a, h1, rfl⟩ := r
            obtain ⟨a', vs, h2, h3, h4⟩ := ok.lst hx
            rw [h1] at h2; cases h2
            have h4 := reps_low h4 hxs
            rw [et] at h4
            refine h _ H' (m ++ [a]) le (.add m a) ?_ ⟨a, by rw [← hm]; simp, rfl⟩
            -- the cell itself, behind the old ones
            have lenT : (st'.take st.length).length = st.length := by rw [← okt.len, hm]
            refine ⟨by simp [okt.len], fun i k b ys zs q1 q2 q3 q4 => ?_, fun i c hc => ?_, ok.tabs⟩
            · have key : ∀ (i : Nat) (b : Addr) (ys : List D), (m ++ [a])[i]? = some b → (st'.take st.length ++ [Cell.lst xs])[i]? = some (.lst ys) → ∃ i' ys', m'[i']? = some b ∧ st'[i']? = some (.lst ys') ∧ ((i' < st.length ∧ i = i') ∨ (i' = j ∧ i = st.length)) := by
                intro i b ys q1 q3
                by_cases hi : i < st.length
                · rw [List.getElem?_append_left (by rw [hm]; exact hi)] at q1
                  rw [List.getElem?_append_left (by rw [lenT]; exact hi), List.getElem?_take_of_lt hi] at q3
                  exact ⟨i, ys, pr.get q1, q3, .inl ⟨hi, rfl⟩⟩
                · have hi2 : i = st.length := by
                    have := (List.getElem?_eq_some_iff.mp q1).1
                    simp [hm] at this; omega
                  subst hi2
                  rw [← hm] at q1
                  simp at q1
                  subst q1
                  exact ⟨j, xs, h1, hx, .inr ⟨rfl, rfl⟩⟩
              obtain ⟨i', ys', a1, a2, a3⟩ := key i b ys q1 q3
              obtain ⟨k', zs', b1, b2, b3⟩ := key k b zs q2 q4
              have e := ok.nd i' k' b ys' zs' a1 b1 a2 b2
              have hjn : ¬ j < st.length := fun z => by
                have : lowD st.length (.ref j) = true := decide_eq_true z
                rename_i hnd
                exact absurd this (by first | exact hnd | assumption)
              rcases a3 with ⟨a3, a4⟩ | ⟨a3, a4⟩ <;> rcases b3 with ⟨b3, b4⟩ | ⟨b3, b4⟩ <;> omega
            · by_cases hi : i < st.length
              · rw [List.getElem?_append_left (by rw [lenT]; exact hi)] at hc
                obtain ⟨b, g1, g2⟩ := okt.cell i c hc
                exact ⟨b, by rw [List.getElem?_append_left (by rw [hm]; exact hi)]; exact g1, g2.mono (.refl _) (.add m a) fun _ _ => rfl⟩
              · have hi2 : i = st.length := by
                  have := (List.getElem?_eq_some_iff.mp hc).1
                  simp [lenT] at this; omega
                subst hi2
                have hc : (List.take st.length st' ++ [Cell.lst xs])[(List.take st.length st').length]? = some c := by rw [lenT]; exact hc
                simp at hc
                subst hc
                exact ⟨a, by rw [← hm]; simp, vs, h3, h4.mono (.refl _) (.add m a)⟩
          · exact h v H' m' le pr ok r
        · exact h v H' m' le pr ok r
      · exact h v H' m' le pr ok r
  · exact h v H' m' le pr ok r
end
/-! ### defs and their calls: the frames around hold no guard -/
structure FnG (P : Program) (w : World) (K : PySem.W.Frag) (mg : Str → Option Value) (base : Heap) (CX : CXT) (k : Nat) (f : Addr) (fd : FuncData) (ps : List Str) (sp : Sp) : Prop where
  len : ∀ vs H Q E, sp vs H Q E → vs.length = ps.length
  run : ∀ (A : Around) (outer : List PySem.Env) (s : Shared) (H : Hp) (args : Args) (us : List Value) (vs : List V) (Q : VK) (E : XK), A.guards = some [] → Room k A → Env0 P w K mg base A outer s H → BindsTo s fd args (ps.zip us) → Vals vs us → sp vs H Q E →
    codeAny (model P w) A (.call (.ref f) args) (CR CX outer P w H s Q E) s
def DenF (K : PySem.W.Frag) (T : List (Addr × Str)) (mg : Str → Option Value) (H : Hp) (m : List Addr) (r : R D) (Q : VK) (E : XK) : Prop := Den K T mg (fun cls dd _ H' => E cls dd H') (RD K) [] H m r Q
def SpG (K : PySem.W.Frag) (T : List (Addr × Str)) (mg : Str → Option Value) (n : Nat) (g : List D → Sto → R D) : Sp := fun vs H Q E => vs.length = n ∧ ∃ ds st m, Reps K H m ds vs ∧ Ok K T H m st ∧ DenF K T mg H m (g ds st) Q E
section
variable {P : Program} {w : World} {K : PySem.W.Frag} {mg : Str → Option Value} {base : Heap} {T : List (Addr × Str)}
/-- the context of a def's body -/
abbrev CxB (P : Program) (w : World) (K : PySem.W.Frag) (mg : Str → Option Value) (base : Heap) (N : List Str) (qual : Str) (st : Stmt) (f : Addr) (cdv : Value) (A : Around) (outer : List PySem.Env) (s : Shared) (H : Hp) (E : XK) : Cx :=
  cxOf (L2.CX P w) P w K mg base N qual (defScope st) f cdv A outer s H E
theorem env_start {H : Hp} {m : List Addr} {ds : List D} {vs : List V} {N : List Str} (h : Reps K H m ds vs) : EnvOk K H m (L2.start N vs) (ds.map some ++ List.replicate (N.length - ds.length) none) := by
  have e := Reps.length h
  refine ⟨by simp [L2.start, e], fun i d hd => ?_⟩
  by_cases hi : i < ds.length
  · rw [List.getElem?_append_left (by simpa using hi), List.getElem?_map] at hd
    cases hx : ds[i]? with
    | none => rw [hx] at hd; cases hd
    | some x =>
      rw [hx] at hd
      cases hd
      obtain ⟨v, h1, h2⟩ := h.get hx
      refine ⟨v, ?_, h2⟩
      unfold L2.start
      rw [List.getElem?_append_left (by simp [← e]; exact hi), List.getElem?_map, h1]
      rfl
  · rw [List.getElem?_append_right (by simpa using hi), List.getElem?_replicate] at hd
    split at hd <;> cases hd
theorem fnG_ok {x qual : Str} {st : Stmt} {f : Addr} {fd : FuncData} {N ps : List Str} {k : Nat} {body : SX} (F : Fun K x qual st f fd) (S : FnScope N ps (defScope st))
    (hb : ∀ (cdv : Value), fd.code = cdv → ∀ (A : Around) (outer : List PySem.Env) (s : Shared) (H : Hp) (E : XK), A.guards = some [] → Room k (CxB P w K mg base N qual st f cdv A outer s H E).A → Takes (CxB P w K mg base N qual st f cdv A outer s H E) (fun cls dd _ H' => E cls dd H') →
      JB (CxB P w K mg base N qual st f cdv A outer s H E) T (fun cls dd _ H' => E cls dd H') (defBody st) body) :
    FnG P w K mg base (L2.CX P w) (k + 1) f fd ps (SpG K T mg ps.length (fnS N.length body)) := by
  refine ⟨fun vs H Q E h => h.1, ?_⟩
  obtain ⟨oc, od, kV, doc, pm, an, cdv, ct, osl, rfl, lk, hcd⟩ := F.ex
  intro A outer s H args us vs Q E hgd hr e0 hbd rv ⟨hl, ds, sto, m, hreps, ok, hden⟩
  have KX : K.In s.heap := e0.mod.kin.keeps fun b o e => (e0.bs b o e).1
  have lim0 : s.heap.NoLimit := e0.mod.nolimit.keeps fun b o e => (e0.bs b o e).1
  have hkind : ∀ y ∈ ps.zip us, (defScope st).names.lookup y.1 = some .local ∨ ((defScope st).names.lookup y.1 = some .cell ∧ ((cellsFrom (s.heap.objs.size + 1) (defScope st).names []).lookup y.1).isSome = true) := fun ⟨n, v⟩ hy => by
    rcases S.par n (List.of_mem_zip hy).1 with q | q
    · exact .inl q
    · exact .inr ⟨q, PySem.W.cellsFrom_some _ _ _ (.inl q)⟩
  refine codeAny_call_function hr.depth (KX _ _ lk) rfl S.co S.gen rfl (PySem.W.codeRec_of KX hcd) (hbd _ _ _ _ ?_)
  refine wpAny_newFunctionEnv_cells S.kind hkind fun env he s1 x => ?_
  subst he
  refine ⟨lim0.keeps x.toInCall.keep, codeAny_func ?_⟩
  have hj := hb cdv rfl A outer s H E hgd (hr.deeper _) (takes_of rfl rfl rfl rfl)
  have I : Inv (CxB P w K mg base N qual st f cdv A outer s H E) [] (L2.start N vs) H s1 := inv_start S hr.hd e0 hl rv x
  have hq : tS K T mg (fun cls dd _ H' => E cls dd H') body { nx := fun _ H' => Q .non H', rt := Q } (L2.start N vs) H := by
    refine ⟨_, sto, m, env_start hreps, ok, ?_⟩
    have hd : Den K T mg (fun cls dd _ H' => E cls dd H') (RD K) [] H m (fnS N.length body ds sto) Q := hden
    have l0 := lowS_of ok
    have hml := ok.len
    unfold fnS at hd
    revert hd
    generalize body (ds.map some ++ List.replicate (N.length - ds.length) none) sto = r
    intro hd
    cases r with
    | no => exact hd
    | brk _ _ => exact False.elim hd
    | ct _ _ => exact False.elim hd
    | nx e' st' => exact fun s' H' m' le pr ok' _ => fin_ok hml l0 hd le pr ok' rfl
    | ret d st' => exact fun v H' m' le pr ok' rv' => fin_ok hml l0 hd le pr ok' rv'
    | exc x e' st' => exact fun cls dd s' H' m' le pr ok' _ xr => hd cls dd H' m' le pr ok' xr
  refine wpAny_mono (hj.run [] s1 (L2.start N vs) H _ I hq) (fun fl s' hs => ?_) fun e s' hs => hs
  have done : ∀ {σ' : L2.St} {H' : Hp} {v : V} {u : Value}, Inv (CxB P w K mg base N qual st f cdv A outer s H E) [] σ' H' s' → RelV v u → Q v H' → CE outer P w H s Q u s' :=
    fun {σ' H' v u} Jv rv q => ⟨v, H', Jv.os, Jv.bare, Jv.base, Jv.hok, rv, q⟩
  cases fl with
  | ret u =>
    obtain ⟨v, σ', H', Jv, rv', q⟩ := hs
    exact done Jv rv' q
  | next =>
    obtain ⟨σ', H', Jv, q⟩ := hs
    exact done (v := V.non) (u := Value.none) Jv rfl q
  | brk =>
    obtain ⟨_, _, _, z⟩ := hs
    exact False.elim z
  | cont =>
    obtain ⟨_, _, _, z⟩ := hs
    exact False.elim z
end
section
variable {X : Cx} {T : List (Addr × Str)} {W : WX} {k : Nat} {f : Addr} {fd : FuncData} {ps : List Str} {g : List D → Sto → R D} {x : Str} {p pos : Pos} {e : Expr} {es : List Expr} {fr : AX}
/-- f(e, ..) -/
theorem j_call (F : FnG X.prog X.w X.K X.mg X.base (L2.CX X.prog X.w) k f fd ps (SpG X.K T X.mg ps.length g)) (hgd : X.A.guards = some []) (hr : Room k X.A) (tk : Takes X W) (hg : Gl X x) (hm : X.mg x = some (.ref f)) (hk : PySem.W.keepIn X.K (.ref f) = true) (hb : Binds X.K fd ps [])
    (ha : JA X T W (e :: es) fr) (hn : (e :: es).length = ps.length := by rfl) (hdb : (x == ("__debug__" : Str)) = false := by decide) (he : starEach (e :: es) X.env = (false, eval e X.env) :: starEach es X.env := by rfl) (hpl : (backTo pos (starEach es X.env)).any (·.1) = false := by rfl) :
    J X T W (.Call (.Name x p) (e :: es) [] pos) (eCall g fr) := by
  refine ⟨fun pins s σ H Q I h => ?_⟩
  refine wpAny_Call_Name_kw (ld_glob I hg hm ?_ hdb)
  obtain ⟨en, st, m, hen, ok, h⟩ := h
  have key : tA X.K T X.mg W fr σ H (fun vs H1 => SpG X.K T X.mg ps.length g vs H1 Q (WE W σ)) := ⟨en, st, m, hen, ok, h.bind fun ds vs st1 H1 m1 hf l p1 ok1 rs h1 => by
    refine ⟨by rw [← Reps.length rs, ha.len _ _ _ _ hf]; exact hn, ds, st1, m1, rs, ok1, ?_⟩
    revert h1
    generalize g ds st1 = r
    intro h1
    cases r with
    | no => exact h1
    | ok d st2 => exact h1
    | ex xx st2 => exact h1⟩
  refine PySem.W.callWith_K (h₀ := X.base) I.ok.mod.kin hk (thn (ha.pa.run pos pins s σ H _ I key) fun us s1 ⟨vs, H1, I1, r, q⟩ => ⟨I1.kIn, ?_⟩) he hpl
  have hl : us.length = ps.length := by rw [← r.length]; exact F.len _ _ _ _ q
  have b := hb s1 us I1.kIn (by rw [List.append_nil]; exact hl)
  rw [List.append_nil] at b
  refine wpAny_call (codeAny_mono (F.run X.A X.stack s1 H1 ⟨us, []⟩ us vs Q (WE W σ) hgd hr I1.env0 b r q) fun r s' hq => ?_)
  cases r with
  | error e => exact passAt tk σ pins H1 s1 e s' I1 hq
  | ok fl =>
    cases fl with
    | ret u => exact I1.after hq
    | next => exact False.elim hq
    | brk => exact False.elim hq
    | cont => exact False.elim hq
end
end Mm

namespace Mm
open PySem L2
/-! ### built-ins -/
def intsOf : List D → Option (List Int)
  | [] => some []
  | .int i :: r => (intsOf r).map fun l => i :: l
  | _ :: _ => none
def boolsOf : List D → Option (List Bool)
  | [] => some []
  | .bl i :: r => (boolsOf r).map fun l => i :: l
  | _ :: _ => none
def maxI (a : Int) (l : List Int) : Int := l.foldl (fun a y => if a < y then y else a) a
def minI (a : Int) (l : List Int) : Int := l.foldl (fun a y => if y < a then y else a) a
def oLen : ON := fun ds st => match ds with
  | [d] => match d with
    | .str x => if x.length ≤ lim then some (.int x.length, st) else none
    | d => (seqOf st d).map fun xs => (.int xs.length, st)
  | _ => none
def oInt : ON := fun ds st => match ds with
  | [.int i] => some (.int i, st)
  | [.bl b] => some (.int (if b = true then 1 else 0), st)
  | _ => none
def oListOf : ON := fun ds st => match ds with
  | [d] => (seqOf st d).map fun xs => (.ref st.length, st ++ [.lst xs])
  | _ => none
def oTupOf : ON := fun ds st => match ds with
  | [d] => (seqOf st d).map fun xs => (.tup xs, st)
  | _ => none
def oMax : ON := fun ds st => match ds with
  | [.int i, .int j] => some (.int (if j > i then j else i), st)
  | [d] => match (seqOf st d).bind intsOf with
    | some (a :: l) => some (.int (maxI a l), st)
    | _ => none
  | _ => none
def oMin : ON := fun ds st => match ds with
  | [.int i, .int j] => some (.int (if j < i then j else i), st)
  | [d] => match (seqOf st d).bind intsOf with
    | some (a :: l) => some (.int (minI a l), st)
    | _ => none
  | _ => none
def oSum : ON := fun ds st => match ds with
  | [d] => ((seqOf st d).bind intsOf).map fun l => (.int l.sum, st)
  | _ => none
def oGcd : ON := fun ds st => match ds with
  | [.int i, .int j] => some (.int ((Nat.gcd i.natAbs j.natAbs : Nat) : Int), st)
  | _ => none
def oAny : ON := fun ds st => match ds with
  | [.ref i] => ((cellItems st[i]?).bind boolsOf).map fun l => (.bl (l.any id), st)
  | _ => none
def oAll : ON := fun ds st => match ds with
  | [.ref i] => ((cellItems st[i]?).bind boolsOf).map fun l => (.bl (l.all id), st)
  | _ => none
/-! how long a repr may be, at most -/
mutual
def wide : PyData → Nat
  | .none => 4
  | .bool _ => 5
  | .int i => (toString i : String).length
  | .str x => (reprText x).length
  | .list xs => 2 + wides xs
  | .tuple xs => 3 + wides xs
  | .dict _ => 100000000
def wides : List PyData → Nat
  | [] => 0
  | x :: xs => wide x + 2 + wides xs
end
def reprD (d : PyData) : D := .str d.shown
def oRepr : ON := fun ds st => match ds with
  | [d] => match pyS st d with
    | some p => if (p.showable && !p.hasDict && decide (p.depth ≤ 60) && decide (p.shown.length ≤ 16000000)) = true then some (reprD p, st) else none
    | none => none
  | _ => none
def tyName (st : Sto) : D → Option String
  | .non => some "NoneType"
  | .bl _ => some "bool"
  | .int _ => some "int"
  | .str _ => some "str"
  | .tup _ => some "tuple"
  | .ref i => match st[i]? with
    | some (.lst _) => some "list"
    | _ => none
def oIsi (t : String) : O1 := fun d st => match tyName st d with
  | some a => (kitB a t).map fun b => (.bl b, st)
  | none => none
section
variable {X : Cx} {T : List (Addr × Str)} {W : WX} {f : Value} {o : ON}
theorem cr_of (h : ∀ ds st m H xs r Q, Reps X.K H m ds xs → Ok X.K T H m st → o ds st = some r → DenO X.K T H m (some r) Q → ∃ f2 : List V → Hp → VK → Prop, CallR X f f2 ∧ f2 xs H Q) : CallR X f (rN X.K T o) := by
  intro pins s σ H xs us Q I rx hh
  obtain ⟨ds, st, m, q1, ok, q3⟩ := hh
  cases ho : o ds st with
  | none => rw [ho] at q3; exact False.elim q3
  | some r =>
    rw [ho] at q3
    obtain ⟨f2, k1, k2⟩ := h ds st m H xs r Q q1 ok ho q3
    exact k1 pins s σ H xs us Q I rx k2
theorem reps_ints {K : PySem.W.Frag} {H : Hp} {m : List Addr} : ∀ {ds : List D} {vs : List V} {ns : List Int}, Reps K H m ds vs → intsOf ds = some ns → vs = ns.map V.int
  | [], _, _, h, e => by cases h; cases e; rfl
  | d :: ds, _, ns, h, e => by
    obtain ⟨v, r, rfl, h1, h2⟩ := h
    cases d with
    | int i =>
      simp only [intsOf, Option.map_eq_some_iff] at e
      obtain ⟨l, e1, rfl⟩ := e
      rw [show v = V.int i from h1, reps_ints h2 e1]
      rfl
    | non | bl _ | str _ | tup _ | ref _ => simp [intsOf] at e
theorem reps_bools {K : PySem.W.Frag} {H : Hp} {m : List Addr} : ∀ {ds : List D} {vs : List V} {ns : List Bool}, Reps K H m ds vs → boolsOf ds = some ns → vs = ns.map V.bl
  | [], _, _, h, e => by cases h; cases e; rfl
  | d :: ds, _, ns, h, e => by
    obtain ⟨v, r, rfl, h1, h2⟩ := h
    cases d with
    | bl i =>
      simp only [boolsOf, Option.map_eq_some_iff] at e
      obtain ⟨l, e1, rfl⟩ := e
      rw [show v = V.bl i from h1, reps_bools h2 e1]
      rfl
    | non | int _ | str _ | tup _ | ref _ => simp [boolsOf] at e
/-- one argument that is a list or a tuple -/
theorem one_seq {K : PySem.W.Frag} {H : Hp} {m : List Addr} {st : Sto} {d : D} {vs : List V} {xs : List D} (ok : Ok K T H m st) (r : Reps K H m [d] vs) (h : seqOf st d = some xs) : ∃ a ws, vs = [.ref a] ∧ (SqL K H a ws ∨ SqT K H a ws) ∧ Reps K H m xs ws := by
  obtain ⟨v, r', rfl, h1, rfl⟩ := r
  obtain ⟨a, ws, rfl, h2, h3⟩ := seq_ok ok h1 h
  exact ⟨a, ws, rfl, h2, h3⟩
theorem one_seqN {K : PySem.W.Frag} {H : Hp} {m : List Addr} {st : Sto} {d : D} {vs : List V} {xs : List D} (ok : Ok K T H m st) (r : Reps K H m [d] vs) (h : seqOf st d = some xs) : ∃ a ws, vs = [.ref a] ∧ (SqL K H a ws ∨ SqN K H a ws) ∧ Reps K H m xs ws := by
  obtain ⟨v, r', rfl, h1, rfl⟩ := r
  obtain ⟨a, ws, rfl, h2, h3⟩ := seq_okN ok h1 h
  exact ⟨a, ws, rfl, h2, h3⟩
theorem cre_len : CallR X (.builtin "len") (rN X.K T oLen) := cr_of fun ds st m H xs r Q rx ok ho q => by
  match ds, ho, rx with
  | [d], ho, rx =>
    have seq : (seqOf st d).map (fun xs => (D.int xs.length, st)) = some r → ∃ f2 : List V → Hp → VK → Prop, CallR X (.builtin "len") f2 ∧ f2 xs H Q := fun ho => by
      simp only [Option.map_eq_some_iff] at ho
      obtain ⟨ys, h1, rfl⟩ := ho
      obtain ⟨a, ws, rfl, h2, h3⟩ := one_seq ok rx h1
      exact ⟨_, call_len_seq, a, ws, rfl, h2, deno_val q ok (by rw [Reps.length h3]; rfl)⟩
    cases d with
    | str x =>
      simp only [oLen] at ho
      split at ho
      · rename_i hl
        cases ho
        obtain ⟨v, r', rfl, h1, rfl⟩ := rx
        cases h1
        exact ⟨_, call_len_str, x, rfl, lim_le hl, deno_val q ok rfl⟩
      · cases ho
    | tup _ => exact seq ho
    | ref _ => exact seq ho
    | non => cases ho
    | bl _ => cases ho
    | int _ => cases ho
  | [], ho, _ => cases ho
  | _ :: _ :: _, ho, _ => simp [oLen] at ho
theorem cre_int : CallR X (.type "int") (rN X.K T oInt) := cr_of fun ds st m H xs r Q rx ok ho q => by
  match ds, ho, rx with
  | [d], ho, rx =>
    cases d with
    | int i =>
      cases ho
      obtain ⟨v, r', rfl, h1, rfl⟩ := rx
      cases h1
      exact ⟨_, call_int1, .inl ⟨i, rfl, deno_val q ok rfl⟩⟩
    | bl i =>
      cases ho
      obtain ⟨v, r', rfl, h1, rfl⟩ := rx
      cases h1
      exact ⟨_, call_int1, .inr ⟨i, rfl, deno_val q ok rfl⟩⟩
    | tup _ | ref _ | non | str _ => cases ho
  | [], ho, _ => cases ho
  | _ :: _ :: _, ho, _ => simp [oInt] at ho
theorem cre_list : CallR X (.type "list") (rN X.K T oListOf) := cr_of fun ds st m H xs r Q rx ok ho q => by
  match ds, ho, rx with
  | [d], ho, rx =>
    simp only [oListOf, Option.map_eq_some_iff] at ho
    obtain ⟨ys, h1, rfl⟩ := ho
    obtain ⟨a, ws, rfl, h2, h3⟩ := one_seq ok rx h1
    exact ⟨_, call_list_of, a, ws, rfl, h2, deno_lst q ok h3⟩
  | [], ho, _ => cases ho
  | _ :: _ :: _, ho, _ => simp [oListOf] at ho
/-- tuple(x), what is new without a dict of its own -/
theorem call_tupleN : CallR X (.type "tuple") (fun xs H Q => ∃ p ys, xs = [.ref p] ∧ ((SqL X.K H p ys ∧ ∀ l o, H l = none → o.dict = none → Q (.ref l) (upd H l (.frz o (.tup ys)))) ∨ (SqT X.K H p ys ∧ Q (.ref p) H))) := fun pins s σ H xs us Q I r ⟨p, ys, e, h⟩ => by
  rcases h with ⟨hq, q⟩ | h
  · subst e
    obtain ⟨u, rfl, rx⟩ := vals1 r
    cases rx
    obtain ⟨its, r', pl, hz⟩ := I.list hq
    have hn := r'.length
    refine call_tuple_list pl.isList (fun h' kp => ?_) (by rw [List.size_toArray, ← hn]; exact hz)
    have J := I.kept (t' := s.toks) kp
    exact ⟨.ref h'.objs.size, _, J.laid (t' := s.toks) (o := .frz (tupO its) (.tup ys)) (fun b o z => Heap.get?_push_of_some _ z) (Nat.le_refl _) ⟨Heap.get?_push_size _ rfl, hz, its, r', _, Heap.get?_push_size _ rfl, rfl, _, rfl⟩, rfl, q _ _ (J.hok.fresh (Nat.le_refl _)) rfl⟩
  · exact call_tuple_of pins s σ H xs us Q I r ⟨p, ys, e, .inr h⟩
theorem cre_tuple : CallR X (.type "tuple") (rN X.K T oTupOf) := cr_of fun ds st m H xs r Q rx ok ho q => by
  match ds, ho, rx with
  | [d], ho, rx =>
    simp only [oTupOf, Option.map_eq_some_iff] at ho
    obtain ⟨ys, h1, rfl⟩ := ho
    obtain ⟨a, ws, rfl, h2, h3⟩ := one_seqN ok rx h1
    refine ⟨_, call_tupleN, a, ws, rfl, ?_⟩
    rcases h2 with h2 | h2
    · exact .inl ⟨h2, deno_tup q ok h3⟩
    · exact .inr ⟨h2.sq, deno_val q ok ⟨a, ws, rfl, h2, h3⟩⟩
  | [], ho, _ => cases ho
  | _ :: _ :: _, ho, _ => simp [oTupOf] at ho
theorem maxI_spec : ∀ (l : List Int) (a : Int), maxI a l ∈ a :: l ∧ ∀ y ∈ a :: l, y ≤ maxI a l
  | [], a => ⟨by simp [maxI], by simp [maxI]⟩
  | b :: l, a => by
    obtain ⟨c, hc⟩ : ∃ c, c = if a < b then b else a := ⟨_, rfl⟩
    have e : maxI a (b :: l) = maxI c l := by rw [hc]; rfl
    have hc1 : a ≤ c ∧ b ≤ c ∧ (c = a ∨ c = b) := by split at hc <;> omega
    obtain ⟨h1, h2⟩ := maxI_spec l c
    rw [e]
    refine ⟨?_, fun y hy => ?_⟩
    · rcases List.mem_cons.mp h1 with z | z
      · rw [z]; rcases hc1.2.2 with q | q <;> rw [q] <;> simp
      · exact List.mem_cons_of_mem _ (List.mem_cons_of_mem _ z)
    · have hm := h2 _ List.mem_cons_self
      rcases List.mem_cons.mp hy with rfl | hy
      · omega
      · rcases List.mem_cons.mp hy with rfl | hy
        · omega
        · exact h2 y (List.mem_cons_of_mem _ hy)
theorem minI_spec : ∀ (l : List Int) (a : Int), minI a l ∈ a :: l ∧ ∀ y ∈ a :: l, minI a l ≤ y
  | [], a => ⟨by simp [minI], by simp [minI]⟩
  | b :: l, a => by
    obtain ⟨c, hc⟩ : ∃ c, c = if b < a then b else a := ⟨_, rfl⟩
    have e : minI a (b :: l) = minI c l := by rw [hc]; rfl
    have hc1 : c ≤ a ∧ c ≤ b ∧ (c = a ∨ c = b) := by split at hc <;> omega
    obtain ⟨h1, h2⟩ := minI_spec l c
    rw [e]
    refine ⟨?_, fun y hy => ?_⟩
    · rcases List.mem_cons.mp h1 with z | z
      · rw [z]; rcases hc1.2.2 with q | q <;> rw [q] <;> simp
      · exact List.mem_cons_of_mem _ (List.mem_cons_of_mem _ z)
    · have hm := h2 _ List.mem_cons_self
      rcases List.mem_cons.mp hy with rfl | hy
      · omega
      · rcases List.mem_cons.mp hy with rfl | hy
        · omega
        · exact h2 y (List.mem_cons_of_mem _ hy)
theorem maxD_ints : ∀ (l : List Int) (a : Int), PySem.W.maxD (.int a) (l.map .int) = .int (maxI a l)
  | [], a => rfl
  | b :: l, a => by
    show PySem.W.maxD (if PySem.W.dataLt (.int a) (.int b) then .int b else .int a) (l.map .int) = .int (maxI (if a < b then b else a) l)
    rw [PySem.W.dataLt_int]
    by_cases h : a < b
    · simp only [h, decide_true, if_true]; exact maxD_ints l b
    · simp only [h, decide_false, if_false, Bool.false_eq_true]; exact maxD_ints l a
theorem minD_ints : ∀ (l : List Int) (a : Int), PySem.W.minD (.int a) (l.map .int) = .int (minI a l)
  | [], a => rfl
  | b :: l, a => by
    show PySem.W.minD (if PySem.W.dataLt (.int b) (.int a) then .int b else .int a) (l.map .int) = .int (minI (if b < a then b else a) l)
    rw [PySem.W.dataLt_int]
    by_cases h : b < a
    · simp only [h, decide_true, if_true]; exact minD_ints l b
    · simp only [h, decide_false, if_false, Bool.false_eq_true]; exact minD_ints l a
theorem dpAll_ints {K : PySem.W.Frag} {H : Hp} : ∀ (ns : List Int), DpAll K H (ns.map V.int) (ns.map PyData.int)
  | [] => .nil
  | n :: ns => .cons (.int n) (dpAll_ints ns)
theorem alike_ints (ns : List Int) : PySem.W.AlikeAll (ns.map PyData.int) := by
  refine ⟨fun x hx y hy => ?_, fun x hx => ?_⟩
  · obtain ⟨i, _, rfl⟩ := List.mem_map.mp hx
    obtain ⟨j, _, rfl⟩ := List.mem_map.mp hy
    rfl
  · obtain ⟨i, _, rfl⟩ := List.mem_map.mp hx
    intro z; cases z
theorem depth_ints : ∀ ns : List Int, PyData.depthAll (ns.map PyData.int) ≤ 1
  | [] => by simp [PyData.depthAll]
  | n :: ns => by
    have := depth_ints ns
    simp only [List.map_cons, PyData.depthAll, PyData.depth]
    omega
end
end Mm

namespace Mm
open PySem L2
section
variable {X : Cx} {T : List (Addr × Str)} {W : WX}
theorem seq_bind {st : Sto} {d : D} {al : Type} {f : List D → Option al} {r : al} (h : (seqOf st d).bind f = some r) : ∃ xs, seqOf st d = some xs ∧ f xs = some r := by
  cases e : seqOf st d with
  | none => rw [e] at h; cases h
  | some xs => rw [e] at h; exact ⟨xs, rfl, h⟩
/-- max, min of one list or tuple of ints -/
theorem call_maxS (hc : X.calm = true) (hu : X.A.units + 100 < cLine) : CallR X (.builtin "max") (fun vs H Q => ∃ a b l, vs = [V.ref a] ∧ (SqL X.K H a ((b :: l).map V.int) ∨ SqT X.K H a ((b :: l).map V.int)) ∧ Q (.int (maxI b l)) H) := by
  intro pins s σ H vs us Q I rr h
  obtain ⟨a, b, l, rfl, hs, q⟩ := h
  rcases hs with hs | hs
  · refine cr_max hc pins s σ H _ us Q I rr ⟨a, b :: l, rfl, hs, by simp, fun M hM hle => ?_⟩
    obtain ⟨h1, h2⟩ := maxI_spec l b
    have e : M = maxI b l := by
      have := hle _ h1
      have := h2 _ hM
      omega
    rw [e]; exact q
  · obtain ⟨its, rv, ht, _⟩ := I.tuple hs
    rw [Vals.ref1 rr]
    obtain ⟨as, hr⟩ := Dp.readsAll I _ _ its (dpAll_ints (b :: l)) rv
    refine PySem.W.max_tuple_data (I.ok.hd hc) (show s.heap.IsTuple a its.toArray from ht) (by simpa using hr) (alike_ints (b :: l)) (by have := depth_ints (b :: l); simp only [List.map_cons] at this; omega) fun i v h' tk bs hv hread hk => ?_
    rw [maxD_ints] at hread
    have hv : ∃ t, v = Value.int (maxI b l) t := by cases hread; exact ⟨_, rfl⟩
    exact ⟨.int (maxI b l), H, I.kept hk, hv, q⟩
theorem call_minS (hc : X.calm = true) (hu : X.A.units + 100 < cLine) : CallR X (.builtin "min") (fun vs H Q => ∃ a b l, vs = [V.ref a] ∧ (SqL X.K H a ((b :: l).map V.int) ∨ SqT X.K H a ((b :: l).map V.int)) ∧ Q (.int (minI b l)) H) := by
  intro pins s σ H vs us Q I rr h
  obtain ⟨a, b, l, rfl, hs, q⟩ := h
  rcases hs with hs | hs
  · refine cr_min hc pins s σ H _ us Q I rr ⟨a, b :: l, rfl, hs, by simp, fun M hM hle => ?_⟩
    obtain ⟨h1, h2⟩ := minI_spec l b
    have e : M = minI b l := by
      have := hle _ h1
      have := h2 _ hM
      omega
    rw [e]; exact q
  · obtain ⟨its, rv, ht, _⟩ := I.tuple hs
    rw [Vals.ref1 rr]
    obtain ⟨as, hr⟩ := Dp.readsAll I _ _ its (dpAll_ints (b :: l)) rv
    refine PySem.W.min_tuple_data (I.ok.hd hc) (show s.heap.IsTuple a its.toArray from ht) (by simpa using hr) (alike_ints (b :: l)) (by have := depth_ints (b :: l); simp only [List.map_cons] at this; omega) fun i v h' tk bs hv hread hk => ?_
    rw [minD_ints] at hread
    have hv : ∃ t, v = Value.int (minI b l) t := by cases hread; exact ⟨_, rfl⟩
    exact ⟨.int (minI b l), H, I.kept hk, hv, q⟩
theorem call_sumS (hc : X.calm = true) : CallR X (.builtin "sum") (fun vs H Q => ∃ (a : Addr) (l : List Int), vs = [V.ref a] ∧ (SqL X.K H a (l.map V.int) ∨ SqT X.K H a (l.map V.int)) ∧ Q (.int l.sum) H) := by
  intro pins s σ H vs us Q I rr h
  obtain ⟨a, l, rfl, hs, q⟩ := h
  rcases hs with hs | hs
  · exact cr_sum hc pins s σ H _ us Q I rr ⟨a, l, rfl, hs, q⟩
  · obtain ⟨its, rv, ht, _⟩ := I.tuple hs
    rw [Vals.ref1 rr]
    have hi := rv.ints
    obtain ⟨xs, e⟩ := hi.allInts.items
    have hn : numsOf (intItems xs).toList = l := by rw [← e]; exact hi.numsOf
    rw [nums_intItems] at hn
    have ht : s.heap.IsTuple a (intItems xs) := by rw [← e]; exact ht
    refine PySem.W.ktm_sumG (I.ok.hd hc) ht fun h' tk t' hk => ?_
    rw [preSum_eq, List.take_of_length_le (by simp), hn]
    exact ⟨.int l.sum, H, I.kept hk, ⟨_, rfl⟩, q⟩
theorem cre_max (hc : X.calm = true) (hu : X.A.units + 100 < cLine) : CallR X (.builtin "max") (rN X.K T oMax) := cr_of fun ds st m H xs r Q rx ok ho q => by
  match ds, ho, rx with
  | [d], ho, rx =>
    have ho : (match (seqOf st d).bind intsOf with | some (a :: l) => some (D.int (maxI a l), st) | _ => none) = some r := by
      cases d <;> exact ho
    split at ho
    · rename_i b l hb
      cases ho
      obtain ⟨ys, h1, h2⟩ := seq_bind hb
      obtain ⟨a, ws, rfl, h3, h4⟩ := one_seq ok rx h1
      have e := reps_ints h4 h2
      subst e
      exact ⟨_, call_maxS hc hu, a, b, l, rfl, h3, deno_val q ok rfl⟩
    · cases ho
  | [], ho, _ => cases ho
  | [x, y], ho, rx =>
    cases x with
    | int i =>
      cases y with
      | int j =>
        cases ho
        obtain ⟨v, r', rfl, h1, v2, r2, rfl, h2, rfl⟩ := rx
        cases h1; cases h2
        exact ⟨_, call_max2 hc, i, j, rfl, deno_val q ok rfl⟩
      | non | bl _ | str _ | tup _ | ref _ => cases ho
    | non | bl _ | str _ | tup _ | ref _ => cases ho
  | _ :: _ :: _ :: _, ho, _ => simp [oMax] at ho
theorem cre_min (hc : X.calm = true) (hu : X.A.units + 100 < cLine) : CallR X (.builtin "min") (rN X.K T oMin) := cr_of fun ds st m H xs r Q rx ok ho q => by
  match ds, ho, rx with
  | [d], ho, rx =>
    have ho : (match (seqOf st d).bind intsOf with | some (a :: l) => some (D.int (minI a l), st) | _ => none) = some r := by
      cases d <;> exact ho
    split at ho
    · rename_i b l hb
      cases ho
      obtain ⟨ys, h1, h2⟩ := seq_bind hb
      obtain ⟨a, ws, rfl, h3, h4⟩ := one_seq ok rx h1
      have e := reps_ints h4 h2
      subst e
      exact ⟨_, call_minS hc hu, a, b, l, rfl, h3, deno_val q ok rfl⟩
    · cases ho
  | [], ho, _ => cases ho
  | [x, y], ho, rx =>
    cases x with
    | int i =>
      cases y with
      | int j =>
        cases ho
        obtain ⟨v, r', rfl, h1, v2, r2, rfl, h2, rfl⟩ := rx
        cases h1; cases h2
        exact ⟨_, call_min2 hc, i, j, rfl, deno_val q ok rfl⟩
      | non | bl _ | str _ | tup _ | ref _ => cases ho
    | non | bl _ | str _ | tup _ | ref _ => cases ho
  | _ :: _ :: _ :: _, ho, _ => simp [oMin] at ho
theorem cre_sum (hc : X.calm = true) : CallR X (.builtin "sum") (rN X.K T oSum) := cr_of fun ds st m H xs r Q rx ok ho q => by
  match ds, ho, rx with
  | [d], ho, rx =>
    simp only [oSum, Option.map_eq_some_iff] at ho
    obtain ⟨l, hb, rfl⟩ := ho
    obtain ⟨ys, h1, h2⟩ := seq_bind hb
    obtain ⟨a, ws, rfl, h3, h4⟩ := one_seq ok rx h1
    have e := reps_ints h4 h2
    subst e
    exact ⟨_, call_sumS hc, a, l, rfl, h3, deno_val q ok rfl⟩
  | [], ho, _ => cases ho
  | _ :: _ :: _, ho, _ => simp [oSum] at ho
theorem cre_gcd : CallR X (.builtin "math.gcd") (rN X.K T oGcd) := cr_of fun ds st m H xs r Q rx ok ho q => by
  match ds, ho, rx with
  | [x, y], ho, rx =>
    cases x with
    | int i =>
      cases y with
      | int j =>
        cases ho
        obtain ⟨v, r', rfl, h1, v2, r2, rfl, h2, rfl⟩ := rx
        cases h1; cases h2
        exact ⟨_, cr_gcd, i, j, rfl, deno_val q ok rfl⟩
      | non | bl _ | str _ | tup _ | ref _ => cases ho
    | non | bl _ | str _ | tup _ | ref _ => cases ho
  | [], ho, _ => cases ho
  | [x], ho, _ => cases x <;> cases ho
  | _ :: _ :: _ :: _, ho, _ => simp [oGcd] at ho
theorem cre_any (hc : X.calm = true) : CallR X (.builtin "any") (rN X.K T oAny) := cr_of fun ds st m H xs r Q rx ok ho q => by
  match ds, ho, rx with
  | [x], ho, rx =>
    cases x with
    | ref i =>
      simp only [oAny, Option.map_eq_some_iff] at ho
      obtain ⟨l, hb, rfl⟩ := ho
      obtain ⟨ys, h1, h2⟩ := seq_bind (st := st) (d := .ref i) hb
      obtain ⟨v, r', rfl, ⟨a, hm, rfl⟩, rfl⟩ := rx
      obtain ⟨a', ws, h3, h4, h5⟩ := cellItems_ok ok h1
      rw [hm] at h3; cases h3
      have e := reps_bools h5 h2
      subst e
      exact ⟨_, cr_any hc, a, l, rfl, h4, deno_val q ok rfl⟩
    | non | bl _ | str _ | tup _ | int _ => cases ho
  | [], ho, _ => cases ho
  | _ :: _ :: _, ho, _ => simp [oAny] at ho
theorem cre_all (hc : X.calm = true) : CallR X (.builtin "all") (rN X.K T oAll) := cr_of fun ds st m H xs r Q rx ok ho q => by
  match ds, ho, rx with
  | [x], ho, rx =>
    cases x with
    | ref i =>
      simp only [oAll, Option.map_eq_some_iff] at ho
      obtain ⟨l, hb, rfl⟩ := ho
      obtain ⟨ys, h1, h2⟩ := seq_bind (st := st) (d := .ref i) hb
      obtain ⟨v, r', rfl, ⟨a, hm, rfl⟩, rfl⟩ := rx
      obtain ⟨a', ws, h3, h4, h5⟩ := cellItems_ok ok h1
      rw [hm] at h3; cases h3
      have e := reps_bools h5 h2
      subst e
      exact ⟨_, cr_all hc, a, l, rfl, h4, deno_val q ok rfl⟩
    | non | bl _ | str _ | tup _ | int _ => cases ho
  | [], ho, _ => cases ho
  | _ :: _ :: _, ho, _ => simp [oAll] at ho
theorem dp_ref {K : PySem.W.Frag} {H : Hp} {x : V} {p : PyData} (h : Dp K H x p) : (∃ a, x = .ref a) ∨ (p = .none ∧ x = .non) ∨ (∃ b, p = .bool b ∧ x = .bl b) ∨ (∃ b, p = .int b ∧ x = .int b) ∨ (∃ b, p = .str b ∧ x = .str b) := by
  cases h with
  | non => exact .inr (.inl ⟨rfl, rfl⟩)
  | bl b => exact .inr (.inr (.inl ⟨b, rfl, rfl⟩))
  | int b => exact .inr (.inr (.inr (.inl ⟨b, rfl, rfl⟩)))
  | str b => exact .inr (.inr (.inr (.inr ⟨b, rfl, rfl⟩)))
  | lst _ _ => exact .inl ⟨_, rfl⟩
  | tup _ _ => exact .inl ⟨_, rfl⟩
theorem call_reprD (hgd : X.A.guards = some []) (hu : X.A.units + 100 < cLine) : CallR X (.builtin "repr") (fun vs H Q => ∃ x p, vs = [x] ∧ Dp X.K H x p ∧ p.showable = true ∧ p.hasDict = false ∧ p.depth ≤ 60 ∧ p.shown.length ≤ 16000000 ∧ Q (.str p.shown) H) := by
  intro pins s σ H vs us Q I rr h
  obtain ⟨x, p, rfl, hd, h1, h2, h3, h4, q⟩ := h
  obtain ⟨u, rfl, ru⟩ := vals1 rr
  have hz : p.shown.length ≤ sizeLine := Nat.le_trans h4 (by decide)
  rcases dp_ref hd with ⟨a, rfl⟩ | ⟨rfl, rfl⟩ | ⟨b, rfl, rfl⟩ | ⟨b, rfl, rfl⟩ | ⟨b, rfl, rfl⟩
  · cases ru
    obtain ⟨as, hr⟩ := Dp.reads I p _ _ hd rfl
    refine repr_of_reads' hr h1 (fun z => by rw [h2] at z; cases z) hgd (by omega) (fun _ _ e => e) (fun h' u tk hk => ?_) hz
    exact ⟨.str p.shown, H, I.kept hk, ⟨u, rfl⟩, q⟩
  · cases ru
    exact PySem.P.repr_of_none ⟨.str _, H, I.tok _, ⟨_, rfl⟩, by rw [PyData.shown_none] at q; exact q⟩
  · cases ru
    refine PySem.P.repr_of_bool ⟨.str _, H, I.tok _, ⟨_, rfl⟩, ?_⟩
    rw [PyData.shown_bool] at q
    cases b <;> exact q
  · obtain ⟨t, rfl⟩ := ru
    simp only [PyData.showable, decide_eq_true_eq] at h1
    refine PySem.P.repr_of_int h1 ⟨.str _, H, I.tok _, ⟨_, rfl⟩, ?_⟩
    rw [PyData.shown_int] at q
    exact q
  · obtain ⟨t, rfl⟩ := ru
    rw [PyData.shown_str] at q hz
    exact PySem.P.repr_of_str ⟨.str _, H, I.tok _, ⟨_, rfl⟩, q⟩ hz
theorem cre_repr (hgd : X.A.guards = some []) (hu : X.A.units + 100 < cLine) : CallR X (.builtin "repr") (rN X.K T oRepr) := cr_of fun ds st m H xs r Q rx ok ho q => by
  match ds, ho, rx with
  | [d], ho, rx =>
    simp only [oRepr] at ho
    split at ho
    · rename_i p hp
      split at ho
      · rename_i hb
        cases ho
        simp only [Bool.and_eq_true, decide_eq_true_eq, Bool.not_eq_true'] at hb
        obtain ⟨⟨⟨b1, b2⟩, b3⟩, b4⟩ := hb
        obtain ⟨v, r', rfl, h1, rfl⟩ := rx
        exact ⟨_, call_reprD hgd hu, v, p, rfl, dpS_of ok h1 hp, b1, b2, b3, b4, deno_val q ok rfl⟩
      · cases ho
    · cases ho
  | [], ho, _ => cases ho
  | _ :: _ :: _, ho, _ => simp [oRepr] at ho
/-! calls of built-ins by name -/
section
variable {e : Expr} {es : List Expr} {fr : AX} {x : Str} {p pos : Pos} {id t : String} {o : ON}
theorem nN_weak {s : L2.St} {H : Hp} {Q : VK} (h : tE X.K T X.mg W (eN o fr) s H Q) : tCB (rN X.K T o) (tA X.K T X.mg W fr) s H Q := by
  obtain ⟨en, st, m, he, ok, h⟩ := h
  exact ⟨en, st, m, he, ok, h.bind fun ds xs st1 H1 m1 _ l1 p1 ok1 rs h1 => ⟨ds, st1, m1, rs, ok1, den_of h1⟩⟩
theorem j_bi (hr : CallR X (.builtin id) (rN X.K T o)) (hg : Gl X x) (hm : X.mg x = none) (hv : bootBuiltins x = some (.builtin id)) (ha : JA X T W (e :: es) fr) (hx : x ≠ ("__name__" : Str) := by decide) (hdb : (x == ("__debug__" : Str)) = false := by decide)
    (he : starEach (e :: es) X.env = (false, eval e X.env) :: starEach es X.env := by rfl) (hpl : (backTo pos (starEach es X.env)).any (·.1) = false := by rfl) : J X T W (.Call (.Name x p) (e :: es) [] pos) (eN o fr) :=
  pe_weak (pe_callB hr hg hm hv ha.pa hx hdb he hpl) fun s H Q => nN_weak
theorem j_ty (hr : CallR X (.type t) (rN X.K T o)) (hg : Gl X x) (hm : X.mg x = none) (hv : bootBuiltins x = some (.type t)) (ha : JA X T W (e :: es) fr) (hx : x ≠ ("__name__" : Str) := by decide) (hdb : (x == ("__debug__" : Str)) = false := by decide)
    (he : starEach (e :: es) X.env = (false, eval e X.env) :: starEach es X.env := by rfl) (hpl : (backTo pos (starEach es X.env)).any (·.1) = false := by rfl) : J X T W (.Call (.Name x p) (e :: es) [] pos) (eN o fr) :=
  pe_weak (pe_callTy hr hg hm hv ha.pa hx hdb he hpl) fun s H Q => nN_weak
theorem j_bf (hr : CallR X (.builtin id) (rN X.K T o)) (hg : Gl X x) (hm : X.mg x = some (.builtin id)) (ha : JA X T W (e :: es) fr) (hdb : (x == ("__debug__" : Str)) = false := by decide)
    (he : starEach (e :: es) X.env = (false, eval e X.env) :: starEach es X.env := by rfl) (hpl : (backTo pos (starEach es X.env)).any (·.1) = false := by rfl) : J X T W (.Call (.Name x p) (e :: es) [] pos) (eN o fr) :=
  pe_weak (pe_callBfun hr hg hm ha.pa hdb he hpl) fun s H Q => nN_weak
/-- isinstance(e, T), T a built-in class by its name -/
theorem tyx_of {K : PySem.W.Frag} {H : Hp} {m : List Addr} {st : Sto} {d : D} {v : V} {a : String} (ok : Ok K T H m st) (r : Rep K H m d v) (h : tyName st d = some a) : TyX K H v (.type a) := by
  cases d with
  | non => cases r; cases h; exact .base .non
  | bl b => cases r; cases h; exact .base (.bl b)
  | int b => cases r; cases h; exact .base (.int b)
  | str b => cases r; cases h; exact .base (.str b)
  | tup ds =>
    cases h
    obtain ⟨a, vs, rfl, hs, _⟩ := r
    rcases hs with (hs | ⟨o, hs⟩) | ⟨o, its, n, hk, hc, _⟩
    · exact .base (.tup hs)
    · exact .fTuple hs
    · exact .kTuple hk hc
  | ref i =>
    simp only [tyName] at h
    split at h
    · rename_i xs hx
      cases h
      obtain ⟨a, hm, rfl⟩ := r
      obtain ⟨a', vs, h1, h2, _⟩ := ok.lst hx
      rw [hm] at h1; cases h1
      exact .base (.lst h2)
    · cases h
theorem j_isi {fa : EX} {y : Str} {p2 : Pos} (ha : J X T W e fa) (hg : Gl X "isinstance") (hm : X.mg "isinstance" = none) (hgy : Gl X y) (hmy : X.mg y = none) (hvy : bootBuiltins y = some (.type t)) (hy : y ≠ ("__name__" : Str) := by decide) (hdy : (y == ("__debug__" : Str)) = false := by decide)
    (he : starEach (e :: [.Name y p2]) X.env = (false, eval e X.env) :: starEach [.Name y p2] X.env := by rfl) (he2 : starEach (.Name y p2 :: []) X.env = (false, eval (.Name y p2) X.env) :: starEach [] X.env := by rfl) (hpl : (backTo pos (starEach [.Name y p2] X.env)).any (·.1) = false := by rfl) :
    J X T W (.Call (.Name "isinstance" p) [e, .Name y p2] [] pos) (e1 (oIsi t) fa) :=
  pe_weak (pe_callB call_isi hg hm (by decide +kernel) (pa_cons ha (pa_cons (pe_bltn hgy hmy hvy (v := .ty t) rfl hy hdy) pa_nil he2) he) (by decide) (by decide) he hpl) fun s H Q ⟨en, st, m, hen, ok, h⟩ =>
    ⟨en, st, m, hen, ok, h.bind fun d v st1 H1 m1 _ l1 p1 ok1 rv h1 => by
      show rIsi X.K [v, .ty t] H1 Q
      simp only [oIsi] at h1
      cases ht : tyName st1 d with
      | none => simp only [ht] at h1; exact False.elim h1
      | some a =>
        simp only [ht] at h1
        cases hk : kitB a t with
        | none => rw [hk] at h1; exact False.elim h1
        | some b =>
          rw [hk] at h1
          exact ⟨v, .ty t, .type a, .type t, b, rfl, .ty t, tyx_of ok1 rv ht, kit_ty hk, h1 (.bl b) H1 m1 (.refl H1) (.refl m1) ok1 rfl⟩⟩
end
/-! methods of lists -/
def oApp (x y : D) (st : Sto) : Option (D × Sto) := match x with
  | .ref i => match lstOf st (.ref i) with
    | some xs => if xs.length < lim then some (.non, st.set i (Cell.lst (xs ++ [y]))) else none
    | none => none
  | _ => none
def oExt (x y : D) (st : Sto) : Option (D × Sto) := match x, y with
  | .ref i, .ref j => match lstOf st (.ref i), lstOf st (.ref j) with
    | some xs, some ys => if xs.length + ys.length < lim then some (.non, st.set i (Cell.lst (xs ++ ys))) else none
    | _, _ => none
  | _, _ => none
def oPopAt (x y : D) (st : Sto) : Option (D × Sto) := match x, y with
  | .ref i, .int n => match lstOf st (.ref i) with
    | some xs => if xs.length ≤ lim then match ixN xs.length n with
      | some k => match xs[k]? with
        | some d => some (d, st.set i (Cell.lst (xs.eraseIdx k)))
        | none => none
      | none => none else none
    | none => none
  | _, _ => none
def oPop (x : D) (st : Sto) : Option (D × Sto) := match x with
  | .ref i => match lstOf st (.ref i) with
    | some xs => match xs[xs.length - 1]? with
      | some d => some (d, st.set i (Cell.lst xs.dropLast))
      | none => none
    | none => none
  | _ => none
theorem lst_get {st : Sto} {i : Nat} {xs : List D} (h : lstOf st (.ref i) = some xs) : st[i]? = some (.lst xs) := by
  unfold lstOf at h
  simp only at h
  split at h
  · rename_i z hz; cases h; exact hz
  · cases h
def isLst (st : Sto) (d : D) : Bool := (lstOf st d).isSome
def eM1 (o : O2) (a b : EX) : EX := fun e st => (a e st).bind fun x st1 => if isLst st1 x = true then (b e st1).bind fun y st2 => .of (o x y st2) else .no
def eM0 (o : O1) (a : EX) : EX := fun e st => (a e st).bind fun x st1 => if isLst st1 x = true then .of (o x st1) else .no
def rM1 (K : PySem.W.Frag) (T : List (Addr × Str)) (o : O2) : V → List V → Hp → VK → Prop := fun x xs H Q => ∃ dx dy st m y, xs = [y] ∧ Rep K H m dx x ∧ Rep K H m dy y ∧ Ok K T H m st ∧ DenO K T H m (o dx dy st) Q
def rM0 (K : PySem.W.Frag) (T : List (Addr × Str)) (o : O1) : V → List V → Hp → VK → Prop := fun x xs H Q => ∃ dx st m, xs = [] ∧ Rep K H m dx x ∧ Ok K T H m st ∧ DenO K T H m (o dx st) Q
theorem tyv_lst {K : PySem.W.Frag} {H : Hp} {m : List Addr} {st : Sto} {d : D} {v : V} (ok : Ok K T H m st) (r : Rep K H m d v) (h : isLst st d = true) : tyV K "list" v H := by
  unfold isLst at h
  cases hl : lstOf st d with
  | none => rw [hl] at h; cases h
  | some xs =>
    cases d with
    | ref i =>
      obtain ⟨a, hm, rfl⟩ := r
      obtain ⟨a', vs, h1, h2, _⟩ := lst_of ok hl
      rw [hm] at h1; cases h1
      exact .inl ⟨rfl, vs, .of h2⟩
    | non | bl _ | int _ | str _ | tup _ => cases hl
section
variable {a b : Expr} {fa fb : EX} {apos cpos : Pos} {name : Str} {id : String}
theorem j_m1 {o : O2} (hs : Slot "list" name id) (ht : typeOf (.builtin id) = pure (.type "method_descriptor")) (hr : MtR X id (rM1 X.K T o)) (ha : J X T W a fa) (hb : J X T W b fb)
    (hbase : attributeBase a name X.env (eval a X.env) = eval a X.env := by rfl)
    (hfew : ((backTo cpos (starEach (b :: []) X.env)).all (fun x => !x.1) && (backToKw cpos (keywordEach [] X.env)).all (fun x => x.1.isSome) && decide ((b :: ([] : List Expr)).length + ([] : List Keyword).length + (if ([] : List Keyword).isEmpty = true then 0 else 1) < 30)) = true := by rfl)
    (hline : (apos.endLine == cpos.line) = true := by rfl) (he : starEach (b :: []) X.env = (false, eval b X.env) :: starEach [] X.env := by rfl) (hpl : (backTo cpos (starEach [] X.env)).any (·.1) = false := by rfl) :
    J X T W (.Call (.Attribute a name apos) [b] [] cpos) (eM1 o fa fb) :=
  pe_weak (pe_bm PySem.F.plainAttrs_list hs ht hr ha (pa_cons hb pa_nil he) hbase hfew hline he hpl) fun s H Q ⟨e, st, m, hen, ok, h⟩ =>
    ⟨e, st, m, hen, ok, h.bind fun dx x st1 H1 m1 _ l1 p1 ok1 rx h1 => by
      by_cases hl : isLst st1 dx = true
      · have h1 : Den X.K T X.mg W (RD X.K) s H1 m1 (if isLst st1 dx = true then (fb e st1).bind fun y st2 => .of (o dx y st2) else .no) Q := h1
        rw [if_pos hl] at h1
        exact ⟨tyv_lst ok1 rx hl, e, st1, m1, hen.mono l1 p1, ok1, h1.bind fun dy y st2 H2 m2 _ l2 p2 ok2 ry h2 => ⟨dx, dy, st2, m2, y, rfl, rx.mono l2 p2, ry, ok2, den_of h2⟩⟩
      · have h1 : Den X.K T X.mg W (RD X.K) s H1 m1 (if isLst st1 dx = true then (fb e st1).bind fun y st2 => .of (o dx y st2) else .no) Q := h1
        rw [if_neg hl] at h1
        exact False.elim h1⟩
theorem j_m0 {o : O1} (hs : Slot "list" name id) (ht : typeOf (.builtin id) = pure (.type "method_descriptor")) (hr : MtR X id (rM0 X.K T o)) (ha : J X T W a fa)
    (hbase : attributeBase a name X.env (eval a X.env) = eval a X.env := by rfl) (hline : (apos.endLine == cpos.line) = true := by rfl) : J X T W (.Call (.Attribute a name apos) [] [] cpos) (eM0 o fa) :=
  pe_weak (pe_bm0 PySem.F.plainAttrs_list hs ht hr ha hbase hline) fun s H Q ⟨e, st, m, hen, ok, h⟩ =>
    ⟨e, st, m, hen, ok, h.bind fun dx x st1 H1 m1 _ l1 p1 ok1 rx h1 => by
      by_cases hl : isLst st1 dx = true
      · have h1 : Den X.K T X.mg W (RD X.K) s H1 m1 (if isLst st1 dx = true then .of (o dx st1) else .no) Q := h1
        rw [if_pos hl] at h1
        exact ⟨tyv_lst ok1 rx hl, dx, st1, m1, rfl, rx, ok1, den_of h1⟩
      · have h1 : Den X.K T X.mg W (RD X.K) s H1 m1 (if isLst st1 dx = true then .of (o dx st1) else .no) Q := h1
        rw [if_neg hl] at h1
        exact False.elim h1⟩
theorem mt_of {o : O2} (h : ∀ i dy st m H a y ws xs q Q, st[i]? = some (Cell.lst xs) → m[i]? = some a → H a = some (.lst ws) → Reps X.K H m xs ws → Rep X.K H m dy y → Ok X.K T H m st → o (.ref i) dy st = some q → DenO X.K T H m (some q) Q → ∃ f2 : V → List V → Hp → VK → Prop, MtR X id f2 ∧ f2 (.ref a) [y] H Q)
    (hn : ∀ dx dy st q, o dx dy st = some q → ∃ i xs, dx = .ref i ∧ lstOf st dx = some xs) : MtR X id (rM1 X.K T o) := by
  intro pins s σ H x xs v us Q I rx rs hh
  obtain ⟨dx, dy, st, m, y, rfl, r1, r2, ok, q3⟩ := hh
  cases ho : o dx dy st with
  | none => rw [ho] at q3; exact False.elim q3
  | some q =>
    rw [ho] at q3
    obtain ⟨i, zs, rfl, hz⟩ := hn _ _ _ _ ho
    have hg := lst_get hz
    obtain ⟨a, hm, rfl⟩ := r1
    obtain ⟨a', ws, h1, h2, h3⟩ := ok.lst hg
    rw [hm] at h1; cases h1
    obtain ⟨f2, k1, k2⟩ := h i dy st m H a y ws zs q Q hg hm h2 h3 r2 ok ho q3
    exact k1 pins s σ H _ _ v us Q I rx rs k2
theorem deno_set {K : PySem.W.Frag} {H : Hp} {m : List Addr} {d : D} {st : Sto} {Q : VK} {v : V} {i : Nat} {a : Addr} {xs ds : List D} {ws vs : List V} (h : DenO K T H m (some (d, st.set i (Cell.lst ds))) Q) (ok : Ok K T H m st) (hi : st[i]? = some (.lst xs)) (hm : m[i]? = some a) (ha : H a = some (.lst ws))
    (r : Reps K H m ds vs) (rv : Rep K H m d v) : Q v (upd H a (.lst vs)) := h v _ m (Le.set ha) (.refl m) (ok.setCell hi hm ha r) (rv.mono (Le.set ha) (.refl m))
theorem lstOf_ref {st : Sto} {i : Nat} {xs : List D} (h : st[i]? = some (Cell.lst xs)) : lstOf st (.ref i) = some xs := by
  simp only [lstOf, h]
theorem mte_app : MtR X "list.append" (rM1 X.K T oApp) := mt_of (fun i dy st m H a y ws xs q Q hi hm ha hr ry ok ho hq => by
    simp only [oApp, lstOf_ref hi] at ho
    split at ho
    · rename_i hl
      cases ho
      exact ⟨_, mt_append, a, ws, y, rfl, rfl, ha, by rw [← Reps.length hr]; exact lim_lt (Nat.le_of_lt hl), deno_set hq ok hi hm ha (hr.append (Reps.one ry)) rfl⟩
    · cases ho) fun dx dy st q ho => by
  cases dx with
  | ref i =>
    cases h : lstOf st (.ref i) with
    | none => simp only [oApp, h] at ho; cases ho
    | some xs => exact ⟨i, xs, rfl, rfl⟩
  | non | bl _ | int _ | str _ | tup _ => cases ho
theorem mte_ext : MtR X "list.extend" (rM1 X.K T oExt) := mt_of (fun i dy st m H a y ws xs q Q hi hm ha hr ry ok ho hq => by
    cases dy with
    | ref j =>
      simp only [oExt, lstOf_ref hi] at ho
      split at ho
      · rename_i xs' ys h1 h2
        cases h1
        split at ho
        · rename_i hl
          cases ho
          obtain ⟨b, hb, rfl⟩ := ry
          obtain ⟨b', zs, g1, g2, g3⟩ := lst_of ok h2
          rw [hb] at g1; cases g1
          exact ⟨_, mt_extend, a, b, ws, zs, rfl, rfl, ha, g2, by rw [← Reps.length hr, ← Reps.length g3]; exact lim_le (Nat.le_of_lt hl), deno_set hq ok hi hm ha (hr.append g3) rfl⟩
        · cases ho
      · cases ho
    | non | bl _ | int _ | str _ | tup _ => cases ho) fun dx dy st q ho => by
  cases dx with
  | ref i =>
    cases h : lstOf st (.ref i) with
    | none => cases dy <;> simp only [oExt, h] at ho <;> cases ho
    | some xs => exact ⟨i, xs, rfl, rfl⟩
  | non | bl _ | int _ | str _ | tup _ => cases dy <;> cases ho
theorem mte_popAt : MtR X "list.pop" (rM1 X.K T oPopAt) := mt_of (fun i dy st m H a y ws xs q Q hi hm ha hr ry ok ho hq => by
    cases dy with
    | int n =>
      simp only [oPopAt, lstOf_ref hi] at ho
      split at ho
      · rename_i hl
        cases hk : ixN xs.length n with
        | none => simp only [hk] at ho; cases ho
        | some k =>
          simp only [hk] at ho
          cases hd : xs[k]? with
          | none => simp only [hd] at ho; cases ho
          | some d =>
            simp only [hd] at ho
            cases ho
            cases ry
            obtain ⟨e1, e2, e3, e4⟩ := ixN_seq hk
            obtain ⟨u, g1, g2⟩ := hr.get hd
            have lr := Reps.length hr
            have hl : xs.length ≤ 100000 := hl
            exact ⟨_, mt_popAt, a, ws, n, k, u, rfl, rfl, ha, by omega, by omega, by rw [← lr]; exact e1, g1, deno_set hq ok hi hm ha (hr.erase k) g2⟩
      · cases ho
    | non | bl _ | ref _ | str _ | tup _ => cases ho) fun dx dy st q ho => by
  cases dx with
  | ref i =>
    cases h : lstOf st (.ref i) with
    | none => cases dy <;> simp only [oPopAt, h] at ho <;> cases ho
    | some xs => exact ⟨i, xs, rfl, rfl⟩
  | non | bl _ | int _ | str _ | tup _ => cases dy <;> cases ho
theorem mte_pop : MtR X "list.pop" (rM0 X.K T oPop) := by
  intro pins s σ H x xs v us Q I rx rs hh
  obtain ⟨dx, st, m, rfl, r1, ok, q3⟩ := hh
  cases dx with
  | ref i =>
    cases h : lstOf st (.ref i) with
    | none => simp only [oPop, h] at q3; exact False.elim q3
    | some zs =>
      simp only [oPop, h] at q3
      cases hd : zs[zs.length - 1]? with
      | none => simp only [hd] at q3; exact False.elim q3
      | some d =>
        simp only [hd] at q3
        have hg := lst_get h
        obtain ⟨a, hm, rfl⟩ := r1
        obtain ⟨a', ws, h1, h2, h3⟩ := ok.lst hg
        rw [hm] at h1; cases h1
        obtain ⟨u, g1, g2⟩ := h3.get hd
        exact mt_pop pins s σ H _ _ v us Q I rx rs ⟨a, ws, u, rfl, rfl, h2, by rw [← Reps.length h3]; exact g1, deno_set q3 ok hg hm h2 h3.dropLast g2⟩
  | non | bl _ | int _ | str _ | tup _ => exact False.elim q3
theorem j_append (ha : J X T W a fa) (hb : J X T W b fb)
    (hbase : attributeBase a "append" X.env (eval a X.env) = eval a X.env := by rfl)
    (hfew : ((backTo cpos (starEach (b :: []) X.env)).all (fun x => !x.1) && (backToKw cpos (keywordEach [] X.env)).all (fun x => x.1.isSome) && decide ((b :: ([] : List Expr)).length + ([] : List Keyword).length + (if ([] : List Keyword).isEmpty = true then 0 else 1) < 30)) = true := by rfl)
    (hline : (apos.endLine == cpos.line) = true := by rfl) (he : starEach (b :: []) X.env = (false, eval b X.env) :: starEach [] X.env := by rfl) (hpl : (backTo cpos (starEach [] X.env)).any (·.1) = false := by rfl) :
    J X T W (.Call (.Attribute a "append" apos) [b] [] cpos) (eM1 oApp fa fb) := j_m1 PySem.F.slot_list_append PySem.F.type_list_append mte_app ha hb hbase hfew hline he hpl
theorem j_extend (ha : J X T W a fa) (hb : J X T W b fb)
    (hbase : attributeBase a "extend" X.env (eval a X.env) = eval a X.env := by rfl)
    (hfew : ((backTo cpos (starEach (b :: []) X.env)).all (fun x => !x.1) && (backToKw cpos (keywordEach [] X.env)).all (fun x => x.1.isSome) && decide ((b :: ([] : List Expr)).length + ([] : List Keyword).length + (if ([] : List Keyword).isEmpty = true then 0 else 1) < 30)) = true := by rfl)
    (hline : (apos.endLine == cpos.line) = true := by rfl) (he : starEach (b :: []) X.env = (false, eval b X.env) :: starEach [] X.env := by rfl) (hpl : (backTo cpos (starEach [] X.env)).any (·.1) = false := by rfl) :
    J X T W (.Call (.Attribute a "extend" apos) [b] [] cpos) (eM1 oExt fa fb) := j_m1 PySem.F.slot_list_extend PySem.F.type_list_extend mte_ext ha hb hbase hfew hline he hpl
theorem j_popAt (ha : J X T W a fa) (hb : J X T W b fb)
    (hbase : attributeBase a "pop" X.env (eval a X.env) = eval a X.env := by rfl)
    (hfew : ((backTo cpos (starEach (b :: []) X.env)).all (fun x => !x.1) && (backToKw cpos (keywordEach [] X.env)).all (fun x => x.1.isSome) && decide ((b :: ([] : List Expr)).length + ([] : List Keyword).length + (if ([] : List Keyword).isEmpty = true then 0 else 1) < 30)) = true := by rfl)
    (hline : (apos.endLine == cpos.line) = true := by rfl) (he : starEach (b :: []) X.env = (false, eval b X.env) :: starEach [] X.env := by rfl) (hpl : (backTo cpos (starEach [] X.env)).any (·.1) = false := by rfl) :
    J X T W (.Call (.Attribute a "pop" apos) [b] [] cpos) (eM1 oPopAt fa fb) := j_m1 PySem.F.slot_list_pop PySem.F.type_list_pop mte_popAt ha hb hbase hfew hline he hpl
theorem j_pop (ha : J X T W a fa) (hbase : attributeBase a "pop" X.env (eval a X.env) = eval a X.env := by rfl) (hline : (apos.endLine == cpos.line) = true := by rfl) :
    J X T W (.Call (.Attribute a "pop" apos) [] [] cpos) (eM0 oPop fa) := j_m0 PySem.F.slot_list_pop PySem.F.type_list_pop mte_pop ha hbase hline
end
end
end Mm

namespace Mm
open PySem L2
/-! ### list comprehensions -/
def wipeE (e : Env) : List Nat → Env
  | [] => e
  | v :: vs => (wipeE e vs).set v none
theorem wipe_env {K : PySem.W.Frag} {H : Hp} {m : List Addr} {s : L2.St} {e : Env} (h : EnvOk K H m s e) : ∀ vs : List Nat, EnvOk K H m (L2.wipe s vs) (wipeE e vs)
  | [] => h
  | v :: vs => by
    have ih := wipe_env h vs
    refine ⟨by simp [wipeE, L2.wipe, ih.1], fun i d q => ?_⟩
    unfold wipeE at q
    unfold L2.wipe
    by_cases hv : v = i
    · subst hv
      have hl : v < (wipeE e vs).length := by
        have := (List.getElem?_eq_some_iff.mp q).1
        simpa using this
      rw [List.getElem?_set_self hl] at q
      cases q
    · rw [List.getElem?_set_ne hv] at q ⊢
      exact ih.2 i d q
inductive RC where
  | ok (st : Sto) | no
def lcL (g : Sto → Bool) (t : TX) (c : BX) (f : EX) (n : Nat) (e0 : Env) : List D → Sto → RC
  | [], st => if g st = true then .ok st else .no
  | d :: ds, st => if g st = true then match t d e0 with
    | none => .no
    | some e1 => match c e1 st with
      | .ok true st1 => match f e1 st1 with
        | .ok y st2 => match lstOf st2 (.ref n) with
          | some acc => if acc.length < lim then lcL g t c f n e0 ds (st2.set n (Cell.lst (acc ++ [y]))) else .no
          | none => .no
        | _ => .no
      | .ok false st1 => lcL g t c f n e0 ds st1
      | _ => .no
    else .no
def eLc (own : List Nat) (src : IX) (t : TX) (c : BX) (f : EX) : EX := fun e st => match src e st with
  | .ok s st1 => match lcL s.ok t c f st1.length (wipeE e own) s.items (st1 ++ [Cell.lst []]) with
    | .ok st2 => .ok (.ref st1.length) st2
    | .no => .no
  | .ex x st1 => .ex x st1
  | .no => .no
def bYes : BX := fun _ st => .ok true st
section
variable {X : Cx} {T : List (Addr × Str)} {W : WX}
theorem den_noex {K : PySem.W.Frag} {mg : Str → Option Value} {a b : Type} {RA : Hp → List Addr → a → b → Prop} {s : L2.St} {H : Hp} {m : List Addr} {x : a} {st : Sto} {Q : b → Hp → Prop} (h : ∀ y H' m', Le H H' → Pre m m' → Ok K T H' m' st → RA H' m' x y → Q y H') : Den K T mg (fun _ _ _ _ => False) RA s H m (.ok x st) Q := h
/-- what the comprehension's block is to do, from the promise of its semantics -/
theorem lc_read {bb : Bool} {us own : List Nat} {wi : TI} {src : IX} {t : TX} {c : BX} {f : EX} {tt : TT} (hu : ∀ i ∈ us, i ∈ own) (hwi : ∀ s H Q, tI bb X.K T X.mg W src s H Q → wi s H Q)
    (htt : ∀ s H Q, tT X.K T X.mg (fun _ _ _ _ => False) c s H Q → tt s H Q) {s : L2.St} {H : Hp} {Q : VK} (h : tE X.K T X.mg W (eLc own src t c f) s H Q) :
    tLc wi (gT bb X.K T us t) tt (tE X.K T X.mg (fun _ _ _ _ => False) f) own s H Q := by
  obtain ⟨e, st, m, he, ok, h⟩ := h
  refine hwi _ _ _ ⟨e, st, m, he, ok, ?_⟩
  unfold eLc at h
  revert h
  generalize src e st = r
  intro h
  cases r with
  | no => exact h
  | ex x st1 => exact h
  | ok sr st1 =>
    intro Jw H1 m1 l p ok1 good Dn hD
    revert h
    show Den X.K T X.mg W (RD X.K) s H m (match lcL sr.ok t c f st1.length (wipeE e own) sr.items (st1 ++ [Cell.lst []]) with
      | .ok st2 => .ok (.ref st1.length) st2
      | .no => .no) Q → _
    intro h
    have ok2 : Ok X.K T (upd H1 Dn (.lst [])) (m1 ++ [Dn]) (st1 ++ [Cell.lst []]) := ok1.newCell hD rfl
    have l2 : Le H1 (upd H1 Dn (.lst [])) := Le.new hD
    have he0 := wipe_env (he.mono l p) own
    -- from any turn: the rest of the items
    let G : Sto → List D → Prop := fun st' ds => ∀ st2, lcL sr.ok t c f st1.length (wipeE e own) ds st' = .ok st2 → lcL sr.ok t c f st1.length (wipeE e own) sr.items (st1 ++ [Cell.lst []]) = .ok st2
    refine ⟨fun i n H' => ∃ st' m', n = sr.items.length - i ∧ i ≤ sr.items.length ∧ Le (upd H1 Dn (.lst [])) H' ∧ Pre (m1 ++ [Dn]) m' ∧ Ok X.K T H' m' st' ∧ lcL sr.ok t c f st1.length (wipeE e own) (sr.items.drop i) st' ≠ .no ∧ G st' (sr.items.drop i),
      ⟨sr.items.length, st1 ++ [Cell.lst []], m1 ++ [Dn], by simp, Nat.zero_le _, .refl _, .refl _, ok2, fun z => ?_, fun st2 z => by simpa using z⟩, ?_⟩
    · rw [List.drop_zero] at z
      rw [z] at h
      exact h
    · rintro i n H' ⟨st', m', rfl, hle, l3, p3, ok3, hne, hG⟩
      by_cases hlt : i < sr.items.length
      · rw [List.drop_eq_getElem_cons hlt] at hne
        have hG : ∀ st2, lcL sr.ok t c f st1.length (wipeE e own) (sr.items[i] :: sr.items.drop (i + 1)) st' = .ok st2 → lcL sr.ok t c f st1.length (wipeE e own) sr.items (st1 ++ [Cell.lst []]) = .ok st2 := by
          rw [← List.drop_eq_getElem_cons hlt]; exact hG
        rw [lcL] at hne hG
        by_cases hg : sr.ok st' = true
        · rw [if_pos hg] at hne hG
          have p1m : Pre m1 m' := (Pre.add m1 Dn).trans p3
          obtain ⟨gg, gs, gy⟩ := good H' m' st' (l2.trans l3) p1m ok3 hg
          refine .inr ⟨gg i hlt, fun H2 => ∃ st2 m2, Le (upd H1 Dn (.lst [])) H2 ∧ Pre (m1 ++ [Dn]) m2 ∧ Ok X.K T H2 m2 st2 ∧ lcL sr.ok t c f st1.length (wipeE e own) (sr.items.drop (i + 1)) st2 ≠ .no ∧ G st2 (sr.items.drop (i + 1)),
            fun H2 ⟨st2, m2, a1, a2, a3, a4, a5⟩ => ⟨sr.items.length - (i + 1), by omega, st2, m2, rfl, hlt, a1, a2, a3, a4, a5⟩, fun x H2 hy => ?_⟩
          obtain ⟨l4, ok4, d, hd, rx⟩ := gy i x H2 hlt hy
          rw [List.getElem?_eq_getElem hlt] at hd
          cases hd
          cases ht : t sr.items[i] (wipeE e own) with
          | none => rw [ht] at hne; exact absurd rfl hne
          | some e1 =>
            rw [ht] at hne hG
            dsimp only at hne hG
            have l34 := l3.trans l4
            refine ⟨_, wipeE e own, st', m', rx, (he0.mono (l2.trans l34) p1m), ok4, e1, ht, fun s' he' bt => ⟨?_, ?_⟩⟩
            · rw [bt.wipe hu]
              exact But.wipe (ts := own) ⟨by rw [L2.wipe_length], fun j hj => L2.wipe_out hj⟩ fun i hi => hi
            · refine htt _ _ _ ⟨e1, st', m', he', ok4, ?_⟩
              cases hc : c e1 st' with
              | no => rw [hc] at hne; exact absurd rfl hne
              | ex _ _ => rw [hc] at hne; exact absurd rfl hne
              | ok k st2 =>
                rw [hc] at hne hG
                refine den_noex fun y H3 m3 l5 p5 ok5 r5 => ?_
                cases r5
                cases k with
                | false =>
                  rw [if_neg Bool.false_ne_true]
                  exact ⟨st2, m3, l34.trans l5, p3.trans p5, ok5, hne, hG⟩
                | true =>
                  rw [if_pos rfl]
                  dsimp only at hne hG
                  refine ⟨e1, st2, m3, he'.mono l5 p5, ok5, ?_⟩
                  cases hf : f e1 st2 with
                  | no => rw [hf] at hne; exact absurd rfl hne
                  | ex _ _ => rw [hf] at hne; exact absurd rfl hne
                  | ok y st3 =>
                    rw [hf] at hne hG
                    dsimp only at hne hG
                    refine den_noex fun yv H4 m4 l6 p6 ok6 r6 => ?_
                    cases hl : lstOf st3 (.ref st1.length) with
                    | none => rw [hl] at hne; exact absurd rfl hne
                    | some acc =>
                      rw [hl] at hne hG
                      dsimp only at hne hG
                      have pD : Pre (m1 ++ [Dn]) m4 := (p3.trans p5).trans p6
                      have hmD : m4[st1.length]? = some Dn := pD.get (by rw [← ok1.len]; simp)
                      have hst := lst_get hl
                      obtain ⟨a', ws, q1, q2, q3⟩ := ok6.lst hst
                      rw [hmD] at q1; cases q1
                      by_cases hz : acc.length < lim
                      · rw [if_pos hz] at hne hG
                        exact ⟨ws, q2, by rw [← Reps.length q3]; exact lim_lt (Nat.le_of_lt hz), st3.set st1.length (Cell.lst (acc ++ [y])), m4, ((l34.trans l5).trans l6).trans (Le.set q2), pD, ok6.setCell hst hmD q2 (q3.append (Reps.one r6)), hne, hG⟩
                      · rw [if_neg hz] at hne
                        exact absurd rfl hne
        · rw [if_neg hg] at hne
          exact absurd rfl hne
      · have e0 : i = sr.items.length := by omega
        subst e0
        rw [List.drop_length] at hne
        have hG : ∀ st2, lcL sr.ok t c f st1.length (wipeE e own) [] st' = .ok st2 → lcL sr.ok t c f st1.length (wipeE e own) sr.items (st1 ++ [Cell.lst []]) = .ok st2 := by
          have := hG
          rw [List.drop_length] at this
          exact this
        rw [lcL] at hne hG
        by_cases hg : sr.ok st' = true
        · rw [if_pos hg] at hne hG
          have p1m : Pre m1 m' := (Pre.add m1 Dn).trans p3
          obtain ⟨gg, gs, gy⟩ := good H' m' st' (l2.trans l3) p1m ok3 hg
          refine .inl ⟨gs, ?_⟩
          rw [hG st' rfl] at h
          exact h _ H' m' (l.trans (l2.trans l3)) (p.trans p1m) ok3 ⟨Dn, p3.get (by rw [← ok1.len]; simp), rfl⟩
        · rw [if_neg hg] at hne
          exact absurd rfl hne
variable {elt tg iter : Expr} {ifs : List Expr} {scope : Scope} {own : List (Str × Nat)} {pos : Pos} {us : List Nat} {src : IX} {t : TX} {c : BX} {f : EX} {tt : TT}
/-- [elt for tg in iter] -/
theorem j_lc0 {bb : Bool} (hc : X.calm = true) (hN : X.N.Nodup) (hi : JI bb X T W tg iter src) (ok : BlkOk X.N X.env.scope scope own) (hu : ∀ i ∈ us, i ∈ own.map (·.2))
    (hg : ∀ (s : Shared) (H : Hp) (C : Addr) (cl : List (Str × Addr)) (fp : List Addr), JG bb (X.blk s H scope (compEnvC scope cl C X.env) fp) T us tg t)
    (he : ∀ (s : Shared) (H : Hp) (C : Addr) (cl : List (Str × Addr)) (fp : List Addr), J (X.blk s H scope (compEnvC scope cl C X.env) fp) T (fun _ _ _ _ => False) elt f)
    (hs : ∀ x, foldedSetIterable iter X.env x = pure x := by intro _; rfl) : J X T W (.ListComp elt [⟨tg, iter, [], 0⟩] scope pos) (eLc (own.map (·.2)) src t bYes f) :=
  pe_weak (pe_lc hc hN hi ok hg (fun s H C cl fp => pts_nil) he hs) fun s H Q => lc_read hu (fun _ _ _ h => h) fun s H Q ⟨e, st, m, he, ok, h⟩ => h true H m (.refl H) (.refl m) ok rfl
/-- [elt for tg in iter if cond] -/
theorem j_lc1 {bb : Bool} {cd : Expr} (hc : X.calm = true) (hN : X.N.Nodup) (hi : JI bb X T W tg iter src) (ok : BlkOk X.N X.env.scope scope own) (hu : ∀ i ∈ us, i ∈ own.map (·.2))
    (hg : ∀ (s : Shared) (H : Hp) (C : Addr) (cl : List (Str × Addr)) (fp : List Addr), JG bb (X.blk s H scope (compEnvC scope cl C X.env) fp) T us tg t)
    (ht : ∀ (s : Shared) (H : Hp) (C : Addr) (cl : List (Str × Addr)) (fp : List Addr), JT (X.blk s H scope (compEnvC scope cl C X.env) fp) T (fun _ _ _ _ => False) cd c)
    (he : ∀ (s : Shared) (H : Hp) (C : Addr) (cl : List (Str × Addr)) (fp : List Addr), J (X.blk s H scope (compEnvC scope cl C X.env) fp) T (fun _ _ _ _ => False) elt f)
    (hs : ∀ x, foldedSetIterable iter X.env x = pure x := by intro _; rfl) : J X T W (.ListComp elt [⟨tg, iter, [cd], 0⟩] scope pos) (eLc (own.map (·.2)) src t c f) :=
  pe_weak (pe_lc hc hN hi ok hg (fun s H C cl fp => pts_one (ht s H C cl fp)) he hs) fun s H Q => lc_read hu (fun _ _ _ h => h) fun _ _ _ h => h
/-- y = [elt for tg in iter ..], a statement of its own -/
theorem setlc_read {bb : Bool} {us own : List Nat} {wi : TI} {src : IX} {t : TX} {c : BX} {f : EX} {tt : TT} {i : Nat} (hu : ∀ i ∈ us, i ∈ own) (hwi : ∀ s H Q, tI bb X.K T X.mg W src s H Q → wi s H Q)
    (htt : ∀ s H Q, tT X.K T X.mg (fun _ _ _ _ => False) c s H Q → tt s H Q) {F : Ends} {s : L2.St} {H : Hp} (h : tS X.K T X.mg W (sSet i (eLc own src t c f)) F s H) :
    tAsg (tLc wi (gT bb X.K T us t) tt (tE X.K T X.mg (fun _ _ _ _ => False) f) own) (gName i) F s H := by
  obtain ⟨e, st, m, he, ok, h⟩ := h
  refine lc_read hu hwi htt ⟨e, st, m, he, ok, st_of he h fun x y st1 H1 m1 _ l p ok1 rx h1 => ?_⟩
  exact h1 _ H1 m1 (.refl H1) (.refl m1) ok1 ((he.mono l p).set i rx)
theorem js_setLc0 {i : Nat} {y : Str} {py spos : Pos} (hc : X.calm = true) (hN : X.N.Nodup) (hy : X.N[i]? = some y) (hyl : X.env.scope.names.lookup y = some .local)
    (hsw : swapsWith (.ListComp elt [⟨tg, iter, [], 0⟩] scope pos) (some (.Name y py)) spos.line X.env = pure true) (hi : JI bb X T W tg iter src) (ok : BlkOk X.N X.env.scope scope own) (hu : ∀ i ∈ us, i ∈ own.map (·.2))
    (hg : ∀ (s : Shared) (H : Hp) (C : Addr) (cl : List (Str × Addr)) (fp : List Addr), JG bb (X.blk s H scope (compEnvC scope cl C X.env) fp) T us tg t)
    (he : ∀ (s : Shared) (H : Hp) (C : Addr) (cl : List (Str × Addr)) (fp : List Addr), J (X.blk s H scope (compEnvC scope cl C X.env) fp) T (fun _ _ _ _ => False) elt f)
    (hs : ∀ x, foldedSetIterable iter X.env x = pure x := by intro _; rfl) : JS X T W (.Assign [.Name y py] (.ListComp elt [⟨tg, iter, [], 0⟩] scope pos) spos) (sSet i (eLc (own.map (·.2)) src t bYes f)) :=
  ps_weak (ps_setLc hc hN hy hyl hsw hi ok hg (fun s H C cl fp => pts_nil) he hs) fun F s H => setlc_read hu (fun _ _ _ h => h) fun s H Q ⟨e, st, m, he, ok, h⟩ => h true H m (.refl H) (.refl m) ok rfl
theorem js_setLc1 {i : Nat} {y : Str} {py spos : Pos} {cd : Expr} (hc : X.calm = true) (hN : X.N.Nodup) (hy : X.N[i]? = some y) (hyl : X.env.scope.names.lookup y = some .local)
    (hsw : swapsWith (.ListComp elt [⟨tg, iter, [cd], 0⟩] scope pos) (some (.Name y py)) spos.line X.env = pure true) (hi : JI bb X T W tg iter src) (ok : BlkOk X.N X.env.scope scope own) (hu : ∀ i ∈ us, i ∈ own.map (·.2))
    (hg : ∀ (s : Shared) (H : Hp) (C : Addr) (cl : List (Str × Addr)) (fp : List Addr), JG bb (X.blk s H scope (compEnvC scope cl C X.env) fp) T us tg t)
    (ht : ∀ (s : Shared) (H : Hp) (C : Addr) (cl : List (Str × Addr)) (fp : List Addr), JT (X.blk s H scope (compEnvC scope cl C X.env) fp) T (fun _ _ _ _ => False) cd c)
    (he : ∀ (s : Shared) (H : Hp) (C : Addr) (cl : List (Str × Addr)) (fp : List Addr), J (X.blk s H scope (compEnvC scope cl C X.env) fp) T (fun _ _ _ _ => False) elt f)
    (hs : ∀ x, foldedSetIterable iter X.env x = pure x := by intro _; rfl) : JS X T W (.Assign [.Name y py] (.ListComp elt [⟨tg, iter, [cd], 0⟩] scope pos) spos) (sSet i (eLc (own.map (·.2)) src t c f)) :=
  ps_weak (ps_setLc hc hN hy hyl hsw hi ok hg (fun s H C cl fp => pts_one (ht s H C cl fp)) he hs) fun F s H => setlc_read hu (fun _ _ _ h => h) fun _ _ _ h => h
end
/-! ### the law's end -/
section
open PySem.Spec PyProof.Rows
variable {P : Program} {w : World} {K : PySem.W.Frag} {mg mb : Str → Option Value} {k : Nat} {fa a : Addr} {fd : FuncData} {x : Str} {g : List D → Sto → R D} {s1 : Shared} {vs : List Value} {ns : List Int}
/-- the promise of the law's def, at the heap behind the top -/
theorem law_callG (KX : K.In s1.heap) (hns : s1.heap.Ns mainGlobals mg) (hb : s1.heap.Ns builtinsNs mb) (hbb : ∀ x : Str, x ≠ "__name__" → mb x = bootBuiltins x) (hlim : s1.heap.NoLimit) (hg : s1.gens = #[])
    (ha : s1.heap.get? a = some { cls := .type "list", data := .seq vs.toArray }) (hi : IntsAre vs ns) (hl : ns.length ≤ sizeLine) (hr : Room k callerA)
    (F : ∀ base : Heap, K.In base → base.Ns mainGlobals mg → FnG P w K mg base (L2.CX P w) k fa fd [x] (SpG K [] mg 1 g)) (hbind : ∀ (s : Shared) (u : Value), BindsTo s fd ⟨[u], []⟩ [(x, u)])
    (hlaw : ∃ st', g [.ref 0] [.ro (ns.map D.int)] = .ok (.bl true) st') :
    codeAny (model P w) callerA (.call (.ref fa) ⟨[.ref a], []⟩) (fun r s' => r = .ok (.ret (.bool true)) ∧ OldK s1.heap s'.heap ∧ s'.os = s1.os ∧ AllBare s'.gens) s1 := by
  -- one heap H in which at most the script is tracked (known, never written)
  obtain ⟨H, hO, hS, hok, hA, hK⟩ : ∃ H : Hp, Only H ∧ (∀ H', Le H H' → SqL K H' a (ns.map V.int)) ∧ HOk P w H s1.heap ∧ (∀ b, H b ≠ none → b = a) ∧ (H a ≠ none → K.lookup a = none) := by
    have rv := vals_ints hi
    cases hk : K.lookup a with
    | some o =>
      have e := KX a o hk
      rw [ha] at e
      cases e
      refine ⟨fun _ => none, fun _ => .inl rfl, fun H' _ => .inr ⟨_, vs.toArray, _, hk, rfl, rfl, rfl, ?_, ?_⟩, fun b u z => ?_, fun b z => absurd rfl z, fun z => absurd rfl z⟩
      · rw [List.size_toArray, hi.length]; exact hl
      · simpa using rv
      · have z' : (none : Option HO) = some u := z
        cases z'
    | none =>
      let u : HO := .frz { cls := .type "list", data := .seq vs.toArray } (.lst (ns.map V.int))
      have at_a : (fun b => if b = a then some u else none) a = some u := if_pos rfl
      refine ⟨fun b => if b = a then some u else none, fun b => ?_, fun H' le => .inl (.inr ⟨_, le.frz a _ _ at_a⟩), fun b o z => ?_, fun b z => ?_, fun _ => rfl⟩
      · by_cases hb : b = a
        · exact .inr ⟨_, _, if_pos hb⟩
        · exact .inl (if_neg hb)
      · by_cases hb : b = a
        · have z' := (if_pos hb).symm.trans z
          cases z'
          subst hb
          exact ⟨ha, by rw [List.length_map]; exact hl, vs, _, rv, ha⟩
        · have z' := (if_neg hb).symm.trans z
          cases z'
      · by_cases hb : b = a
        · exact hb
        · exact absurd (if_neg hb) z
  have same : ∀ {b : Addr} {o : Obj}, s1.heap.get? b = some o → H b = none → (hidT s1.heap H).get? b = some o := fun e n => hidT_get e n
  have nodict : ∀ {b : Addr} {o : Obj} {es : Array DictEntry} {ep : Nat}, s1.heap.get? b = some o → o.data = .dict es ep → H b = none := fun {b o es ep} e d => by
    cases q : H b with
    | none => rfl
    | some u =>
      have e' : b = a := hA b (by rw [q]; simp)
      subst e'
      rw [ha] at e; cases e
      have d' : Data.seq vs.toArray _ = Data.dict es ep := d
      cases d'
  have keepNs : ∀ {b : Addr} {m : Str → Option Value}, s1.heap.Ns b m → (hidT s1.heap H).Ns b m := fun {b m} ⟨o, es, ep, e, d, r⟩ => ⟨o, es, ep, same e (nodict e d), d, r⟩
  have hKb : K.In (hidT s1.heap H) := fun b o e => same (KX b o e) (by
    cases q : H b with
    | none => rfl
    | some u =>
      have e' : b = a := hA b (by rw [q]; simp)
      subst e'
      rw [hK (by rw [q]; simp)] at e; cases e)
  have hM : Mod K mg (hidT s1.heap H) := ⟨hKb, keepNs hns, ⟨mb, keepNs hb, hbb⟩, let ⟨mc, h1, h2⟩ := hlim; ⟨mc, keepNs h1, h2⟩⟩
  have e0 : Env0 P w K mg (hidT s1.heap H) callerA [] s1 H := ⟨rfl, hM, fun b o e => of_hidT e, Nat.le_of_eq (hidT_size _ _), trivial, fun b hb => absurd (show b ∈ ([] : List Addr) from hb) (by simp), hok, .of_eq hg⟩
  have hsp : SpG K [] mg 1 g [.ref a] H (fun v _ => v = .bl true) fun _ _ _ => False := by
    refine ⟨rfl, [.ref 0], [.ro (ns.map D.int)], [a], ⟨_, [], rfl, ⟨a, rfl, rfl⟩, rfl⟩, ⟨rfl, fun i j b xs ys h1 h2 h3 h4 => ?_, fun i c hc => ?_, fun p hp => absurd hp (by simp)⟩, ?_⟩
    · match i, h3 with
      | 0, h3 => cases h3
      | i + 1, h3 => simp at h3
    · match i, hc with
      | 0, hc => cases hc; exact ⟨a, rfl, ns.map V.int, hS, Reps.of_ints ns⟩
      | i + 1, hc => simp at hc
    · obtain ⟨st', e⟩ := hlaw
      show Den K [] mg _ (RD K) [] H [a] (g [.ref 0] [.ro (ns.map D.int)]) _
      rw [e]
      exact fun y H' m' _ _ _ r => r
  refine codeAny_mono ((F _ hKb (keepNs hns)).run callerA [] s1 H ⟨[.ref a], []⟩ [.ref a] [.ref a] _ _ rfl hr e0 (hbind s1 (.ref a)) (.cons rfl .nil) hsp) fun r s' h => ?_
  cases r with
  | error e =>
    obtain ⟨_, _, _, _, _, _, _, _, _, _, _, _, z⟩ := (show L2.CX P w [] H s1 (fun _ _ _ => False) e s' from h)
    exact z.elim
  | ok fl =>
    cases fl with
    | next => exact False.elim h
    | brk => exact False.elim h
    | cont => exact False.elim h
    | ret u =>
      obtain ⟨v, H', os, bare, un, hok', r', q⟩ := h
      have q' : v = .bl true := q
      subst q'
      obtain rfl : u = Value.bool true := r'
      refine ⟨rfl, OldK.of_keep fun b o e => ?_, os, bare⟩
      cases q : H b with
      | none => exact un.keep b o e q (fun z => absurd (show b ∈ ([] : List Addr) from z) (by simp)) (by simp)
      | some u =>
        rcases hO b with z | ⟨ob, xs, z⟩
        · rw [q] at z; cases z
        · obtain ⟨e1, _⟩ := hok b _ z
          obtain ⟨e2, _⟩ := hok' b _ (un.frzs b ob _ z)
          rw [e] at e1; cases e1
          exact e2
/-- what k_head leaves of a law -/
theorem walk_ofG {l : PySem.W.OpenLaw} {n k : Nat} {q : Program} {loose : List Str} {XP : (Str → Option Value) → Heap → Prop} {YP : World → Heap → Prop} {d : DefRec} {K : Params → PySem.W.Frag} {g : List D → Sto → R D} {x : Str}
    (hn : l.most = some n) (hn2 : n ≤ sizeLine) (hdf : d.params.defaults = []) (hr : Room k callerA) (hY : ∀ (w : World) (h : Heap), YP w h → (K w.params).In h)
    (F : ∀ (w : World) (mg : Str → Option Value) (fa : Addr) (h : Heap), (K w.params).In h → h.Ns mainGlobals mg → mg d.name = some (.ref fa) →
      ∃ fd : FuncData, (∀ (s : Shared) (u : Value), BindsTo s fd ⟨[u], []⟩ [(x, u)]) ∧
        ∀ base : Heap, (K w.params).In base → base.Ns mainGlobals mg → FnG l.prog w (K w.params) mg base (L2.CX l.prog w) k fa fd [x] (SpG (K w.params) [] mg 1 g))
    (hlaw : ∀ ns : List Int, ns.length ≤ n → ∃ st', g [.ref 0] [.ro (ns.map D.int)] = .ok (.bl true) st') :
    PySem.W.WalkO q loose XP YP l.row.toRowW d [] (fun f vs => PySem.call f vs) := by
  refine Att.attach_call hn hdf fun w s0 s1 mg mb fa o pm cd doc a vs ns G Y ho hd hcd hmg hobj hints hlen hg => ?_
  have KX := hY w _ Y
  obtain ⟨fd, hb, hF⟩ := F w mg fa _ KX G.T.g hmg
  exact law_callG KX G.T.g G.T.b G.T.builtins G.T.nolimit hg hobj hints (Nat.le_trans hlen hn2) hr hF hb (hlaw ns hlen)
end
end Mm

namespace Mm
open PySem L2
section
open PySem PyProof.Rows AutoSeq1
/-- enumerate(t), t a tuple -/
theorem meets_enum_tup (l : Addr) (items : Array Value) (n : Nat) (dct : Option Addr) (sl : Array (Option Value)) :
    Meets (Builtin.«enumerate.__new__» ⟨[.type "enumerate", .ref l], []⟩) (fun _ R s => s.heap.get? l = some { cls := .type "tuple", dict := dct, data := .seq items n, slots := sl } ∧
      R (.ok (.ret (.ref (s.heap.push { cls := .type "tuple_iterator", data := .fields #[.ref l, .int 0 0] }).objs.size)))
        { s with heap := (s.heap.push { cls := .type "tuple_iterator", data := .fields #[.ref l, .int 0 0] }).push { cls := .type "enumerate", data := .fields #[.none, .bool false, .ref s.heap.objs.size, rawInt 0, .none, .none] } }) :=
  .of_wp fun prog w A R s h => by
    obtain ⟨hp, g, d, tk, os⟩ := s
    obtain ⟨hl, h⟩ := h
    have hsub := sub_enumerate
    have hT : Heap.IsTuple (Shared.heap ⟨hp, g, d, tk, os⟩) l items := ⟨_, hl, rfl, n, rfl⟩
    wp_walk using wpAny_loadPart' hl
    refine wpAny_stack_any fun st => wpAny_pure ?_
    split
    · rename_i c _ _ _ _ _
      cases (c == Value.type "enumerate")
      · wp_walk using wpAny_loadPart' hl, wpAny_pyIter_tuple hT
        exact ⟨_, rfl, h⟩
      · wp_walk using wpAny_loadPart' hl, wpAny_pyIter_tuple hT
        exact ⟨_, rfl, h⟩
    · wp_walk using wpAny_loadPart' hl, wpAny_pyIter_tuple hT
      exact ⟨_, rfl, h⟩
variable {prog : Program} {w : World} {A : Around} {E : Value → Shared → Prop} {s : Shared}
theorem call_enum_tup {l : Addr} {items : Array Value} {Q : Value → Shared → Prop} (hL : s.heap.IsTuple l items)
    (h : ∀ h', IsEnum h' (s.heap.objs.size + 1) s.heap.objs.size 0 .none → h'.IsTupleIter s.heap.objs.size l 0 → h'.objs.size = s.heap.objs.size + 2 →
      (∀ b o, s.heap.get? b = some o → h'.get? b = some o) → Q (.ref (s.heap.objs.size + 1)) { s with heap := h' }) :
    wpAny (model prog w) A (call (.type "enumerate") [.ref l]) Q E s := by
  obtain ⟨⟨c, dct, dt, sl⟩, hl, hc, n, hd⟩ := hL
  simp only at hc hd
  subst hc hd
  refine callType_new F.called_enumerate (by decide) (F.typeCall_enumerate_1 _) (F.newCall_enumerate_1 _) (fun obj => F.args_object_init_2 obj _) F.entry_enumerate_new
    (meets_enum_tup l items n dct sl) ⟨hl, ?_⟩
  have hz : (s.heap.push { cls := .type "tuple_iterator", data := .fields #[.ref l, .int 0 0] }).objs.size = s.heap.objs.size + 1 := Heap.size_push ..
  show _ ∧ _
  rw [hz]
  have he : IsEnum ((s.heap.push { cls := .type "tuple_iterator", data := .fields #[.ref l, .int 0 0] }).push
      { cls := .type "enumerate", data := .fields #[.none, .bool false, .ref s.heap.objs.size, rawInt 0, .none, .none] }) (s.heap.objs.size + 1) s.heap.objs.size 0 .none := by
    have := Heap.get?_push_size (s.heap.push { cls := .type "tuple_iterator", data := .fields #[.ref l, .int 0 0] })
      (o := { cls := .type "enumerate", data := .fields #[.none, .bool false, .ref s.heap.objs.size, rawInt 0, .none, .none] }) rfl
    rw [hz] at this; exact this
  exact ⟨⟨_, he, rfl⟩, h _ he ⟨_, Heap.get?_push_of_some _ (Heap.get?_push_size _ rfl), rfl, rfl⟩ (by rw [Heap.size_push, hz]) fun b o x => Heap.get?_push_of_some _ (Heap.get?_push_of_some _ x)⟩
end
/-- the tuple at a, each item in a new pair behind its place -/
def Itu (K : PySem.W.Frag) (a : Addr) : It :=
  ⟨fun i H => ∃ (xs : List V) (x : V), SqT K H a xs ∧ xs[i]? = some x, fun i H v H' => ∃ p x, v = .ref p ∧ H p = none ∧ H' = upd H p (.tup [.int (i : Nat), x]) ∧ ∀ xs, SqT K H a xs → xs[i]? = some x, fun i H => ∃ xs : List V, SqT K H a xs ∧ xs.length = i⟩
section
open PyProof.Rows
theorem turn_enum_tup {P : Program} {w : World} {K : PySem.W.Frag} {elts : List Expr} {kk : Nat} {tpos : Pos} (a e it : Addr) :
    Turn P w K (.Tuple elts kk tpos) (Itu K a) [e, it] e (fun i h => (∃ old, IsEnum h e it ((i : Nat) : Int) old) ∧ h.IsTupleIter it a i ∧ e ≠ it ∧ a ≠ it ∧ a ≠ e) where
  mem := by simp
  obj := fun i h st b hb => by
    obtain ⟨⟨old, he⟩, ⟨o, ho, hc, hd⟩, _⟩ := st
    have e' : b = e ∨ b = it := by simpa using hb
    rcases e' with z | z
    · rw [z]; exact ⟨_, he, fun v q => nomatch q⟩
    · rw [z]; exact ⟨o, ho, fun v q => by rw [hd] at q; cases q⟩
  keep := fun i h h' st k => let ⟨⟨old, he⟩, hi, hne⟩ := st; ⟨⟨old, k e (by simp) _ he⟩, hi.at fun o q => k it (by simp) o q, hne⟩
  item := by
    intro X hP hw hK hc i pins s σ H E I hf st hg
    subst hP hw hK
    obtain ⟨⟨old, he⟩, hit, hne, hai, hae⟩ := st
    obtain ⟨xs, x, hq, hx⟩ := hg
    obtain ⟨its, rv, p, hz⟩ := I.tuple hq
    obtain ⟨u, hu, ru⟩ := rv.get hx
    have hlt : i < its.toArray.size := by
      have := (List.getElem?_eq_some_iff.mp hu).1
      simpa using this
    have D := Draws.tuple (prog := X.prog) (w := X.w) (A := X.A.in1) (I.ok.hd hc) it a hai its.toArray
    have hel : e < s.heap.objs.size := Heap.lt_size he
    have hil : it < s.heap.objs.size := by obtain ⟨_, q, _⟩ := hit; exact Heap.lt_size q
    refine wpAny_pyNext_enum_itemD D he ⟨hit, p⟩ hlt hne (by simp [hne, Ne.symm hae]) fun y h' tk hy ho hs' hT hsz hk => ?_
    have hyu : y = u := by
      have hy : its.toArray[i]? = some y := hy
      have hu' : its.toArray[i]? = some u := by simpa using hu
      rw [hu'] at hy; cases hy; rfl
    subst hyu
    refine ⟨_, rfl, wpAny_letOwnedTupleGo_enum (s := { s with heap := h', toks := tk + 1 }) ho fun h'' he' sb => ?_⟩
    have hT2 : h''.get? s.heap.objs.size = some { cls := .type "tuple", data := .seq #[.int i tk, y] } := (sb.2 _ (Nat.ne_of_gt hel)).trans hT
    have new : ObjOk X.prog X.w (upd H s.heap.objs.size (.tup [.int (i : Nat), x])) h'' s.heap.objs.size (.tup [.int (i : Nat), x]) :=
      ⟨by show 2 ≤ sizeLine; decide, [.int i tk, y], .cons ⟨_, rfl⟩ (.cons ru .nil), ⟨_, hT2, rfl, _, rfl⟩⟩
    have I1 : Inv X pins σ (upd H s.heap.objs.size (.tup [.int (i : Nat), x])) { s with heap := h'', toks := tk + 1 } :=
      I.turnedNew (ch := [e, it]) (fun b ob hb q => (sb.2 b (fun z => hb (by simp [z]))).trans (hk b ob (fun z => hb (by simp [z])) (fun z => hb (by simp [z])) q)) hf (Nat.le_refl _) new
    refine ⟨.ref s.heap.objs.size, _, I1, rfl, ⟨_, x, rfl, I.hok.fresh (Nat.le_refl _), rfl, fun ys hy => by rw [I.tuple_inj hy hq]; exact hx⟩, ⟨⟨y, ?_⟩, hs'.1.at fun o q => (sb.2 it (Ne.symm hne)).trans q, hne, hai, hae⟩, fun b hb => ?_⟩
    · have e1 : ((i + 1 : Nat) : Int) = (i : Int) + 1 := by omega
      rw [e1]; exact he'
    · have hb' : b < s.heap.objs.size := by
        have e' : b = e ∨ b = it := by simpa using hb
        rcases e' with z | z
        · rw [z]; exact hel
        · rw [z]; exact hil
      rw [upd_ne (Nat.ne_of_lt hb')]
      exact (hf b hb).1
  done := by
    intro X hP hw hK hc i pins s σ H E I hf st hg
    subst hP hw hK
    obtain ⟨⟨old, he⟩, hit, hne, hai, hae⟩ := st
    obtain ⟨xs, hq, hx⟩ := hg
    obtain ⟨its, rv, p, hz⟩ := I.tuple hq
    obtain ⟨f0, f1, f2, f3, f4, f5⟩ := hf it (by simp)
    have hl := rv.length
    have D := Draws.tuple (prog := X.prog) (w := X.w) (A := X.A.in1) (I.ok.hd hc) it a hai its.toArray
    have hsz : its.toArray.size = i := by rw [List.size_toArray, ← hl, hx]
    rw [hsz] at D
    exact wpAny_pyNext_enum_endD D he ⟨hit, p⟩ fun h' eb => ⟨rfl, I.turned (t' := s.toks) (fun b o hb q => eb b o hb q) f0 f1 f3 f4 f5⟩
  self := fun A i s Q E st h => let ⟨⟨_, he⟩, _⟩ := st; wpAny_pyIter_enum he h
end
def enumD (i : Nat) : List D → List D
  | [] => []
  | d :: ds => .tup [.int (i : Nat), d] :: enumD (i + 1) ds
theorem enumD_len : ∀ (ds : List D) (i : Nat), (enumD i ds).length = ds.length
  | [], _ => rfl
  | d :: ds, i => by simp [enumD, enumD_len ds]
theorem enumD_get : ∀ (ds : List D) (i j : Nat) (d : D), ds[j]? = some d → (enumD i ds)[j]? = some (.tup [.int ((i + j : Nat) : Int), d])
  | [], _, _, _, h => by simp at h
  | x :: ds, i, 0, d, h => by simp at h; subst h; simp [enumD]
  | x :: ds, i, j + 1, d, h => by
    rw [enumD, List.getElem?_cons_succ, enumD_get ds (i + 1) j d (by simpa using h)]
    congr 4
    omega
def iEn (a : EX) : IX := fun e st => (a e st).bind fun x st1 => match x with
  | .tup ds => .ok ⟨enumD 0 ds, fun _ => true⟩ st1
  | .ref i => match cellItems st1[i]? with
    | some ds => .ok ⟨enumD 0 ds, fun s => decide (s[i]? = st1[i]?)⟩ st1
    | none => .no
  | _ => .no
section
open PyProof.Rows
variable {X : Cx} {T : List (Addr × Str)} {W : WX} {a : Expr} {fa : EX} {pos p2 tpos : Pos} {elts : List Expr} {kk : Nat}
theorem pair_rep {K : PySem.W.Frag} {H : Hp} {m : List Addr} {st : Sto} {i : Nat} {d : D} {x : V} {p : Addr} (ok : Ok K T H m st) (hp : H p = none) (r : Rep K H m d x) :
    Le H (upd H p (.tup [.int (i : Nat), x])) ∧ Ok K T (upd H p (.tup [.int (i : Nat), x])) m st ∧ RepB true K (upd H p (.tup [.int (i : Nat), x])) m (.tup [.int (i : Nat), d]) (.ref p) :=
  ⟨Le.new hp, ok.new hp, p, _, rfl, .of upd_same, .int (i : Nat), [x], rfl, rfl, x, [], rfl, r.mono (Le.new hp) (.refl m), rfl⟩
theorem good_enL {K : PySem.W.Frag} {H : Hp} {m : List Addr} {st1 : Sto} {i : Nat} {ds : List D} {a : Addr} (h : cellItems st1[i]? = some ds) (hm : m[i]? = some a) : Good true K T (Ite K a) ⟨enumD 0 ds, fun s => decide (s[i]? = st1[i]?)⟩ H m := fun H' m' st l p ok g => by
  have g : st[i]? = st1[i]? := of_decide_eq_true g
  obtain ⟨a', vs, h1, h2, h3⟩ := cellItems_ok ok (by rw [g]; exact h)
  rw [p.get hm] at h1
  cases h1
  have w := walk_enum (K := K) (a := a) (xs := vs)
  have e := Reps.length h3
  simp only [enumD_len]
  refine ⟨fun j hj => w.goes j H' (by rw [← e]; exact hj) h2, by rw [e]; exact w.stops H' h2, fun j x H2 hj hy => ?_⟩
  obtain ⟨q, u, v, rfl, hq, rfl, e1, e2⟩ := w.yields j H' x H2 (by rw [← e]; exact hj) h2 hy
  cases e1
  obtain ⟨d, hd, rd⟩ := h3.back e2
  obtain ⟨k1, k2, k3⟩ := pair_rep (i := j) ok hq rd
  exact ⟨k1, k2, _, by rw [enumD_get ds 0 j d hd, Nat.zero_add], k3⟩
theorem good_enT {K : PySem.W.Frag} {H : Hp} {m : List Addr} {ds : List D} {vs : List V} {a : Addr} (h2 : SqT K H a vs) (h3 : Reps K H m ds vs) : Good true K T (Itu K a) ⟨enumD 0 ds, fun _ => true⟩ H m := fun H' m' st l p ok g => by
  have h2' := l.sqT h2
  have h3 := Reps.mono l p h3
  have e := Reps.length h3
  simp only [enumD_len]
  refine ⟨fun j hj => ⟨vs, vs[j]'(by rw [← e]; exact hj), h2', List.getElem?_eq_getElem _⟩, ⟨vs, h2', e.symm⟩, fun j x H2 hj hy => ?_⟩
  obtain ⟨q, v, rfl, hq, rfl, hv⟩ := hy
  obtain ⟨d, hd, rd⟩ := h3.back (hv vs h2')
  obtain ⟨k1, k2, k3⟩ := pair_rep (i := j) ok hq rd
  exact ⟨k1, k2, _, by rw [enumD_get ds 0 j d hd, Nat.zero_add], k3⟩
theorem Den.imp {K : PySem.W.Frag} {mg : Str → Option Value} {a b : Type} {RA : Hp → List Addr → a → b → Prop} {s : L2.St} {H : Hp} {m : List Addr} {r : R a} {Q Q' : b → Hp → Prop} (h : Den K T mg W RA s H m r Q) (k : ∀ x H', Q x H' → Q' x H') : Den K T mg W RA s H m r Q' := by
  cases r with
  | no => exact h
  | ex x st => exact h
  | ok x st => exact fun y H' m' l p ok r => k y H' (h y H' m' l p ok r)
theorem ji_enum (hg : Gl X "enumerate") (hmm : X.mg "enumerate" = none) (ha : J X T W a fa) (hs : starEach [a] X.env = [(false, eval a X.env)] := by rfl) (he : starEach (a :: []) X.env = (false, eval a X.env) :: starEach [] X.env := by rfl) :
    JI true X T W (.Tuple elts kk tpos) (.Call (.Name "enumerate" p2) [a] [] pos) (iEn fa) := by
  refine ⟨fun pins s σ H R I hw => ?_⟩
  obtain ⟨e, st, m, hen, ok, h⟩ := hw
  have key : Den X.K T X.mg W (RD X.K) σ H m (fa e st) (fun x H1 => (∃ p, x = .ref p ∧ (∃ xs, SqL X.K H1 p xs) ∧ R (Ite X.K p) H1) ∨ (∃ p, x = .ref p ∧ (∃ xs, SqT X.K H1 p xs ∧ R (Itu X.K p) H1))) := deni_of h fun dx x st1 H1 m1 hf l p ok1 rx h1 => by
    cases dx with
    | tup ds =>
      obtain ⟨p, vs, rfl, hs, hr⟩ := rx
      exact .inr ⟨p, rfl, vs, hs.sq, h1 _ H1 m1 (.refl H1) (.refl m1) ok1 (good_enT hs.sq hr)⟩
    | ref i =>
      obtain ⟨p, hm, rfl⟩ := rx
      cases hc : cellItems st1[i]? with
      | none =>
        simp only [hc] at h1
        exact False.elim h1
      | some ds =>
        simp only [hc] at h1
        obtain ⟨a', vs, q1, q2, q3⟩ := cellItems_ok ok1 hc
        rw [hm] at q1
        cases q1
        exact .inl ⟨p, rfl, ⟨vs, q2⟩, h1 _ H1 m1 (.refl H1) (.refl m1) ok1 (good_enL hc hm)⟩
    | non | bl _ | str _ | int _ => exact False.elim h1
  have one : PA X [a] (tCons (tE X.K T X.mg W fa) tNil) := pa_cons ha pa_nil he
  refine Call_ (ld_blt I hg hmm boot_enumerate (PyProof.Rows.callWith_type1 (thn (one.run pos pins s σ H (fun vs H1 => ∃ x, vs = [x] ∧ ((∃ p, x = .ref p ∧ (∃ xs, SqL X.K H1 p xs) ∧ R (Ite X.K p) H1) ∨ (∃ p, x = .ref p ∧ (∃ xs, SqT X.K H1 p xs ∧ R (Itu X.K p) H1)))) I ⟨e, st, m, hen, ok, Den.imp key fun x H1 q => ⟨x, rfl, q⟩⟩) fun us s1 ⟨vs, H1, I1, r1, x, ex, q1⟩ => ?_) hs rfl))
  subst ex
  obtain ⟨u, rfl, ru⟩ := vals1 r1
  rcases q1 with ⟨p, rfl, ⟨xs, hq⟩, q⟩ | ⟨p, rfl, xs, hq, q⟩
  · cases ru
    obtain ⟨its, rv, pl, hz⟩ := I1.list hq
    refine call_enumerate_list pl.isList fun h' he hit hsz hk => wpAny_pyIter_enum he ?_
    have I2 : Inv X pins σ H1 { s1 with heap := h' } := I1.kept (t' := s1.toks) hk
    refine ⟨s1.heap.objs.size + 1, [s1.heap.objs.size + 1, s1.heap.objs.size], _, _, H1, rfl, I2, turn_enum p (s1.heap.objs.size + 1) s1.heap.objs.size, ⟨⟨.none, he⟩, hit, Nat.succ_ne_self _⟩, fun b hb => ?_, q⟩
    have e' : b = s1.heap.objs.size + 1 ∨ b = s1.heap.objs.size := by simpa using hb
    have hle : s1.heap.objs.size ≤ b := by
      rcases e' with z | z
      · rw [z]; exact Nat.le_add_right _ _
      · rw [z]; exact Nat.le_refl _
    exact I1.fpOk hle (I1.hok.fresh hle)
  · cases ru
    obtain ⟨its, rv, pl, hz⟩ := I1.tuple hq
    have hlt : p < s1.heap.objs.size := pl.lt
    refine call_enum_tup (show s1.heap.IsTuple p its.toArray from pl) fun h' he hit hsz hk => wpAny_pyIter_enum he ?_
    have I2 : Inv X pins σ H1 { s1 with heap := h' } := I1.kept (t' := s1.toks) hk
    refine ⟨s1.heap.objs.size + 1, [s1.heap.objs.size + 1, s1.heap.objs.size], _, _, H1, rfl, I2, turn_enum_tup p (s1.heap.objs.size + 1) s1.heap.objs.size, ⟨⟨.none, he⟩, hit, Nat.succ_ne_self _, Nat.ne_of_lt hlt, Nat.ne_of_lt (Nat.lt_succ_of_lt hlt)⟩, fun b hb => ?_, q⟩
    have e' : b = s1.heap.objs.size + 1 ∨ b = s1.heap.objs.size := by simpa using hb
    have hle : s1.heap.objs.size ≤ b := by
      rcases e' with z | z
      · rw [z]; exact Nat.le_add_right _ _
      · rw [z]; exact Nat.le_refl _
    exact I1.fpOk hle (I1.hok.fresh hle)
end
/-! small things -/
def oNeg : O1 := fun x st => match x with
  | .int i => some (.int (-i), st)
  | _ => none
theorem une_neg {X : Cx} {T : List (Addr × Str)} : UnR X (unaryOp .USub) (r1 X.K T oNeg) := by
  intro pins s σ H x v Q I rx h
  obtain ⟨d, st, m, q1, ok, q3⟩ := h
  cases d with
  | int i => cases q1; exact un_neg pins s σ H _ v Q I rx ⟨i, rfl, deno_val q3 ok rfl⟩
  | non | bl _ | str _ | tup _ | ref _ => exact False.elim q3
theorem takes_no {X : Cx} : Takes X (fun _ _ _ _ => False) := fun _ _ x => by
  obtain ⟨_, _, _, _, _, _, _, _, _, _, _, _, _, _, _, _, z⟩ := x
  exact z.elim
end Mm

/-! e.__class__.__name__ of an error of the module: the class keeps its name's text, nothing is written -/
namespace Mm
open PySem L2 PySem.W PySem.Calls PyProof.Rows
/-- what is asked of the class of an exception to find its class -/
structure XisC (K : PySem.W.Frag) (C : Addr) : Prop where
  ci : (PySem.W.clsIn K C).isSome = true
  ga : PySem.W.findIn K (.ref C) "__getattribute__" = some (some (.builtin "BaseException.__getattribute__"))
  gg : PySem.W.findIn K (.ref C) "__getattr__" = some none
  exC : PySem.W.subIn K (.ref C) (.type "BaseException") = some true
  cd : PySem.W.findIn K (.ref C) "__class__" = some (some (.builtin "object.__class__"))
  sp : PySem.W.specialIn K (.builtin "object.__class__") "__get__" = some (some (.builtin "getset_descriptor.__get__"))
  tk : PySem.W.takesIn K (.builtin "object.__class__") = some true
  mr : PySem.W.mroIn K C (.type "object") = some true
/-- the text that a class keeps as its name -/
def keptName (K : PySem.W.Frag) (C : Addr) : Option Str := match K.lookup C with
  | some o => match (o.slots[2]? : Option (Option Value)) with
    | some (some (Value.str z _)) => some z
    | _ => none
  | none => none
structure NamC (K : PySem.W.Frag) (C : Addr) : Prop where
  nm : (keptName K C).isSome = true
  ty : PySem.W.typeIn K (.ref C) = some (.type "type")
  op : PySem.W.nsIn K cStatics "thirdparty.any" = some none
  fc : PySem.W.findCls K (.ref C) (.type "type") "__name__" = some (.get (.builtin "getset_descriptor.__get__") (.builtin "type.__name__") (.ref C) (.type "type"))
section
variable {prog : Program} {w : World} {A : Around} {E : Value → Shared → Prop} {s : Shared} {K : PySem.W.Frag} {R : Result → Shared → Prop} {C : Addr} {o : Obj} {v : Value}
theorem cname_get {tp : Value} (X : K.In s.heap) (ht : PySem.W.typeIn K (.ref C) = some (.type "type")) (ho : K.lookup C = some o) (hv : o.slots[2]? = some (some v)) (h : R (.ok (.ret v)) s) :
    codeAny (model prog w) A (.call (.builtin "getset_descriptor.__get__") ⟨[.builtin "type.__name__", .ref C, tp], []⟩) R s := by
  obtain ⟨hh, g, dr, t, os⟩ := s
  have L0 : Looks (model prog w) hh (typeOf (.ref C)) (.type "type") := looks_typeIn X ht
  have L1 : Looks (model prog w) hh (isSubtype (.type "type") (.type "type")) true := Looks.of_pure (by rw [isSubtype_type]; kernel_rfl)
  refine codeAny_call_builtin KF.slot_gs.plain KF.entry_gs (KF.slot_gs.check _ _ _ _ _ _ _ _ ktyn_type (KF.args_gs _ _ _) ?_)
  unfold Builtin.«getset_descriptor.__get__» Builtin.Getset_descriptor.descrGet
  rw [dga_obj]
  refine wpAny_bind (wpAny_pure ?_)
  unfold Builtin.Getset_descriptor.descrGetter Builtin.Getset_descriptor.descrCheckInstance Builtin.Getset_descriptor.descrNameAndClass isInstance
  simp only [ktyn_owner]
  repeat lk
  refine ⟨Code.quiet_builtin _ (by decide +kernel), codeAny_builtin ktyn_entry ?_⟩
  unfold Builtin.«type.__name__» Builtin.keptObject PySem.slotAt
  dsimp only
  refine wpAny_bind (wpAny_bind (wpAny_loadPart_at (X _ _ ho) (wpAny_pure ?_)))
  rw [hv]
  exact wpAny_pure h
theorem cname_attr {expr : Bool} {Q : Value → Shared → Prop} (X : K.In s.heap) (hn : NamC K C) (h : ∀ z tk u, Q (.str z tk) { s with toks := u }) : wpAny (model prog w) A (getAttr (.ref C) "__name__" expr) Q E s := by
  obtain ⟨hk, ht, hop, hfc⟩ := hn
  unfold keptName at hk
  cases ho : K.lookup C with
  | none => rw [ho] at hk; cases hk
  | some o =>
    rw [ho] at hk
    simp only at hk
    split at hk
    · rename_i z tk hv
      refine cls_open X (looks_opaque X hop) (looks_typeIn X ht) (show findIn K (.type "type") "__getattribute__" = _ from type_tga) (looks_hook X (r := none) (by rfl)) (by show subIn K _ _ = _; rfl) hfc ?_
      show wpAny _ _ (do ret (← holding [Value.builtin "type.__name__"] (call (.builtin "getset_descriptor.__get__") [.builtin "type.__name__", .ref C, .type "type"]))) _ _ _
      refine wpAny_bind (wpAny_holding (wpAny_call (cname_get (s := { s with toks := s.toks + 1 }) X ht ho hv ?_)))
      exact wpAny_pure (handed_on rfl (h _ _ _))
    · cases hk
theorem find_bind {od : Option Obj} {name : Str} {b g : Value} (hc : (clsIn K C).isSome = true) (hb : findIn K (.ref C) name = some (some b)) (hg : specialIn K b "__get__" = some (some g)) (ht : takesIn K b = some true) : findObj K C od name = some (.bind g b) := by
  unfold findObj
  obtain ⟨cd, q⟩ := Option.isSome_iff_exists.mp hc
  simp [q, hb, hg, ht]
theorem eclass_attr {x : Addr} {ox : Obj} {od : Option Obj} {expr : Bool} {Q : Value → Shared → Prop} (X : K.In s.heap) (I : InstAt s.heap x ox C od) (hX : XisC K C) (h : ∀ u, Q (.ref C) { s with toks := u }) : wpAny (model prog w) A (getAttr (.ref x) "__class__" expr) Q E s := by
  obtain ⟨hp, g, d, t, os⟩ := s
  have J0 := I.type (M := model prog w)
  have J1 := looks_findIn (M := model prog w) X hX.ga
  have J2 := looks_findIn (M := model prog w) X hX.gg
  have J3 := looks_find (M := model prog w) X I (find_bind (od := od) hX.ci hX.cd hX.sp hX.tk)
  have z0 : (expr && onTheHeap (Value.builtin "BaseException.__getattribute__")) = false := by cases expr <;> rfl
  have z1 : (onTheHeap (Value.ref C) && Value.builtin "BaseException.__getattribute__" == Value.builtin "object.__getattribute__") = false := by rw [show (Value.builtin "BaseException.__getattribute__" == Value.builtin "object.__getattribute__") = false from by decide +kernel]; rfl
  unfold getAttr getAttrBy; refine wpAny_bind (wpAny_mkText (wpAny_holding (wpAny_bind (J0.at (wpAny_bind (J1.at ?_))))))
  show wpAny _ _ (if (onTheHeap (Value.ref C) && Value.builtin "BaseException.__getattribute__" == Value.builtin "object.__getattribute__") = true then _ else _) _ _ _; rw [z1, if_neg Bool.false_ne_true]
  unfold getAttrByItsOwn hookBefore; refine wpAny_bind ?_; rw [if_pos (show onTheHeap (Value.ref C) = true from rfl)]; refine J2.at (wpAny_bind (wpAny_attempt (wpAny_holding ?_)))
  unfold callGetattribute; rw [z0, if_neg Bool.false_ne_true]; unfold boundAndCalled; rw [PySem.F.excAttr_ValueError.ga.bind (.ref x)]; refine wpAny_bind (wpAny_pure ?_)
  show wpAny _ _ (call (.builtin "BaseException.__getattribute__") [.ref x, .str "__class__" t]) _ _ _; refine wpAny_call (codeAny_call_builtin PySem.F.excAttr_ValueError.ga.plain PySem.F.entry_bexc_ga ?_)
  refine @check_slot (model prog w) _ _ ⟨hp, g, d, t + 1, os⟩ "BaseException.__getattribute__" "BaseException" "__getattribute__" (.ref x) [.str "__class__" t] [] _ (by decide +kernel) (by decide +kernel) (J0.andThen (looks_subIn X hX.exC)) (PySem.F.args_bexc_ga (.ref x) (.str "__class__" t)) ?_
  unfold Builtin.«object.__getattribute__»; refine wpAny_bind (wpAny_of_eq (a := ((Value.ref x : Value), [Value.str "__class__" t])) (by first | rfl | (simp only [slotArgs]; rfl)) (wpAny_bind (wpAny_pure (wpAny_bind (J0.at (wpAny_bind (J3.at ?_)))))))
  show wpAny _ _ (holding [Value.builtin "object.__class__"] (call (.builtin "getset_descriptor.__get__") [.builtin "object.__class__", .ref x, .ref C]) >>= ret) _ _ _
  refine wpAny_bind (wpAny_holding (wpAny_call (class_get (s := ⟨hp, g, d, t + 1, os⟩) (ox := ox) (od := od) X I hX.mr (wpAny_pure ?_))))
  show wpAny _ _ (handedOut (.ref C)) _ _ _; rw [handedOut_of (v := .ref C) rfl]
  exact wpAny_pure (h _)
end
/-- e.__class__.__name__ -/
theorem pe_ename {X : Cx} {e : Expr} {te : TE} {p1 p2 : Pos} (he : PE X e te) (hb : attributeBase e "__class__" X.env (eval e X.env) = eval e X.env := by rfl)
    (hb2 : attributeBase (.Attribute e "__class__" p1) "__name__" X.env (eval (.Attribute e "__class__" p1) X.env) = eval (.Attribute e "__class__" p1) X.env := by rfl) :
    PE X (.Attribute (.Attribute e "__class__" p1) "__name__" p2) (fun σ H Q => te σ H fun x H1 => ∃ (a C : Addr) (d : Option Addr), x = .ref a ∧ H1 a = some (exo a C d) ∧ (∀ dx, d = some dx → ∃ fs, H1 dx = some (exd dx fs)) ∧ XisC X.K C ∧ NamC X.K C ∧ ∀ z, Q (.str z) H1) := by
  refine ⟨fun pins s σ H Q I h => attr_of hb2 (attr_of hb (thn (he.run pins s σ H _ I h) fun v s1 ⟨x, H1, I1, rx, a, C, d, ex, ha, hd, hX, hn, q⟩ => ?_))⟩
  subst ex
  obtain rfl : v = Value.ref a := rx
  obtain ⟨t1, ho⟩ := exo_at I1.hok ha
  have key : ∀ od : Option Obj, InstAt s1.heap a { cls := .ref C, dict := d, data := .fields #[.ref t1, .none, .none, .none, .bool false, .none] } C od → wpAny (model X.prog X.w) X.A (getAttr (.ref a) "__class__" true) (fun u s2 => wpAny (model X.prog X.w) X.A (getAttr u "__name__" true) (EP X pins σ Q) X.xe s2) X.xe s1 := fun od J =>
    eclass_attr I1.kIn J hX fun u => cname_attr (s := { s1 with toks := u }) I1.kIn hn fun z tk u' => ⟨.str z, H1, I1.kept (t' := u') (fun _ _ e => e), ⟨tk, rfl⟩, q z⟩
  cases d with
  | none => exact key none ⟨ho, rfl, rfl, trivial⟩
  | some dx =>
    obtain ⟨fs, hf⟩ := hd dx rfl
    obtain ⟨mA, hns, rel⟩ := exd_at I1.hok hf
    obtain ⟨oD, _, _, hoD, _, _⟩ := hns.count (within_of rel)
    exact key (some oD) ⟨ho, rfl, rfl, hoD⟩
end Mm

namespace Mm
open PySem
/-! ### running: what simp needs -/
section
variable {a b : Type}
theorem R.bind_ok (x : a) (st : Sto) (k : a → Sto → R b) : (R.ok x st).bind k = k x st := rfl
theorem R.st_ok (e : Env) (d : D) (st : Sto) (k : D → Sto → RS) : (R.ok d st).st e k = k d st := rfl
end
theorem kit_int_int : L2.kitB "int" "int" = some true := by decide +kernel
theorem kit_int_bool : L2.kitB "int" "bool" = some false := by decide +kernel
theorem kit_bool_int : L2.kitB "bool" "int" = some true := by decide +kernel
theorem kit_bool_bool : L2.kitB "bool" "bool" = some true := by decide +kernel
theorem kit_tup_tup : L2.kitB "tuple" "tuple" = some true := by decide +kernel
theorem kit_list_tup : L2.kitB "list" "tuple" = some false := by decide +kernel
theorem kit_tup_int : L2.kitB "tuple" "int" = some false := by decide +kernel
theorem kit_str_int : L2.kitB "str" "int" = some false := by decide +kernel
theorem kit_non_int : L2.kitB "NoneType" "int" = some false := by decide +kernel
theorem kit_list_int : L2.kitB "list" "int" = some false := by decide +kernel
theorem kit_int_tup : L2.kitB "int" "tuple" = some false := by decide +kernel
theorem kit_bool_tup : L2.kitB "bool" "tuple" = some false := by decide +kernel
theorem kit_str_tup : L2.kitB "str" "tuple" = some false := by decide +kernel
theorem kit_non_tup : L2.kitB "NoneType" "tuple" = some false := by decide +kernel
/-- a def that leaves the store as it is -/
theorem fin_same {st : Sto} {d : D} (h : lowD st.length d = true) : fin st d st = .ok d st := by
  unfold fin
  rw [if_pos (.inl (by simp)), if_pos h]
  simp
theorem mul_i {i j : Int} (h : (b64 i || b64 j) = true) (st : Sto) : oMul (.int i) (.int j) st = some (.int (i * j), st) := by
  unfold oMul
  simp only [h, if_true]
theorem fin_i (st : Sto) (i : Int) : fin st (.int i) st = .ok (.int i) st := fin_same rfl
theorem fin_b (st : Sto) (i : Bool) : fin st (.bl i) st = .ok (.bl i) st := fin_same rfl
theorem fin_n (st : Sto) : fin st .non st = .ok .non st := fin_same rfl
theorem fin_s (st : Sto) (i : Str) : fin st (.str i) st = .ok (.str i) st := fin_same rfl
mutual
def flatD : D → Bool
  | .ref _ => false
  | .tup xs => flatDs xs
  | _ => true
def flatDs : List D → Bool
  | [] => true
  | x :: xs => flatD x && flatDs xs
end
mutual
theorem low_flat (n : Nat) : ∀ d : D, flatD d = true → lowD n d = true
  | .non, _ => rfl
  | .bl _, _ => rfl
  | .int _, _ => rfl
  | .str _, _ => rfl
  | .ref _, h => by cases h
  | .tup xs, h => lows_flat n xs h
theorem lows_flat (n : Nat) : ∀ ds : List D, flatDs ds = true → lowDs n ds = true
  | [], _ => rfl
  | x :: xs, h => by
    simp only [flatDs, Bool.and_eq_true] at h
    simp only [lowDs, low_flat n x h.1, lows_flat n xs h.2, Bool.and_self]
end
theorem fin_f {st : Sto} {d : D} (h : flatD d = true) : fin st d st = .ok d st := fin_same (low_flat _ d h)
theorem fin_t2 (st : Sto) (i j : Int) : fin st (.tup [.int i, .int j]) st = .ok (.tup [.int i, .int j]) st := fin_f rfl
theorem flat_ints : ∀ ns : List Int, flatDs (ns.map D.int) = true
  | [] => rfl
  | _ :: r => by simp only [List.map, flatDs, flatD, flat_ints r, Bool.and_self]
/-- the store has changed below and grown: what is above falls away -/
theorem fin_low {st st' : Sto} {d : D} (h : lowS st.length (st'.take st.length) = true) (hd : lowD st.length d = true) : fin st d st' = .ok d (st'.take st.length) := by
  unfold fin
  rw [if_pos (.inr h), if_pos hd]
theorem pys_ints : ∀ ns : List Int, pys (ns.map D.int) = some (ns.map PyData.int)
  | [] => rfl
  | n :: r => by simp only [List.map, pys, py, pys_ints r, Option.bind, Option.map]
theorem lay_ints : ∀ ns : List Int, PyData.canLayAll0 (ns.map PyData.int) = true
  | [] => rfl
  | n :: r => by simp only [List.map, PyData.canLayAll0, PyData.canLay0, lay_ints r, Bool.and_self]
theorem dep_ints : ∀ ns : List Int, PyData.depthAll (ns.map PyData.int) = 0
  | [] => rfl
  | n :: r => by simp only [List.map, PyData.depthAll, PyData.depth, dep_ints r, Nat.max_self]
theorem shaped_lints (ns : List Int) : SeqAt.shaped (.list (ns.map PyData.int)) = true := by
  simp [SeqAt.shaped, PyData.canLay0, lay_ints, PyData.depth, dep_ints]
theorem shaped_tints (ns : List Int) : SeqAt.shaped (.tuple (ns.map PyData.int)) = true := by
  simp [SeqAt.shaped, PyData.canLay0, lay_ints, PyData.depth, dep_ints]
theorem eqv_ints : ∀ a b : List Int, PyData.eqvAll (a.map PyData.int) (b.map PyData.int) = decide (a = b)
  | [], [] => rfl
  | [], _ :: _ => rfl
  | _ :: _, [] => rfl
  | x :: xs, y :: ys => by
    simp only [List.map, PyData.eqvAll, PyData.eqv, eqv_ints xs ys, List.cons.injEq]
    by_cases h : x = y <;> simp [h]
/-- lists of numbers, by == -/
theorem eq_ints {st : Sto} {i j : Nat} {a b : List Int} (h1 : cellItems st[i]? = some (a.map D.int)) (h2 : cellItems st[j]? = some (b.map D.int)) : eqF st (.ref i) (.ref j) = some (decide (a = b)) := by
  simp only [eqF, eqD, pyS, h1, h2, pys_ints, Option.map, shaped_lints, PyData.eqv, eqv_ints, Bool.and_self, if_true]
theorem eq_tints {st : Sto} {a b : List Int} : eqF st (.tup (a.map D.int)) (.tup (b.map D.int)) = some (decide (a = b)) := by
  simp only [eqF, eqD, pyS, py, pys_ints, Option.map, shaped_tints, PyData.eqv, eqv_ints, Bool.and_self, if_true]
theorem atN {α : Type} (xs : List α) (i : Nat) (h : i < xs.length) : L2.atI xs (i : Int) = some xs[i] := by
  simp [L2.atI, L2.ixN, h]
theorem at0 {α : Type} (x : α) (r : List α) : L2.atI (x :: r) 0 = some x := atN (x :: r) 0 (by simp)
theorem at1 {α : Type} (x y : α) (r : List α) : L2.atI (x :: y :: r) 1 = some y := atN (x :: y :: r) 1 (by simp)
theorem at2 {α : Type} (x y z : α) (r : List α) : L2.atI (x :: y :: z :: r) 2 = some z := atN (x :: y :: z :: r) 2 (by simp)
theorem at3 {α : Type} (x y z u : α) (r : List α) : L2.atI (x :: y :: z :: u :: r) 3 = some u := atN (x :: y :: z :: u :: r) 3 (by simp)
theorem at4 {α : Type} (x y z u v : α) (r : List α) : L2.atI (x :: y :: z :: u :: v :: r) 4 = some v := atN (x :: y :: z :: u :: v :: r) 4 (by simp)
theorem ixN_nat {n i : Nat} (h : i < n) : L2.ixN n (i : Int) = some i := by simp [L2.ixN, h]
theorem ix0 {n : Nat} (h : 0 < n) : L2.ixN n 0 = some 0 := ixN_nat h
theorem ix1 {n : Nat} (h : 1 < n) : L2.ixN n 1 = some 1 := ixN_nat h
theorem ix2 {n : Nat} (h : 2 < n) : L2.ixN n 2 = some 2 := ixN_nat h
theorem cut1 (x : D) (r : List D) : cutD (x :: r) (some 1) none = r := by
  simp [cutD, HT.sIx]
/-! ### the numbers drawn out of a script -/
/-- the cells of a pool, then others -/
def pst (xs sl : List D) (ks : List Int) (a b : Int) (rest : Sto) : Sto := Cell.ro xs :: Cell.lst sl :: Cell.lst (ks.map D.int) :: Cell.lst [.int a, .int b, .ref 2] :: rest
def Pst (rest st : Sto) : Prop := ∃ xs sl ks a b, flatDs xs = true ∧ flatDs sl = true ∧ List.length ks ≤ 100 ∧ 0 ≤ a ∧ 0 ≤ b ∧ b < 4294967296 ∧ st = pst xs sl ks a b rest
theorem low_ints (n : Nat) (ks : List Int) : lowDs n (ks.map D.int) = true := lows_flat n _ (flat_ints ks)
theorem low_pst {xs sl : List D} {ks : List Int} {a b : Int} {rest : Sto} (h1 : flatDs xs = true) (h2 : flatDs sl = true) (h : lowS (4 + rest.length) rest = true) : lowS (4 + rest.length) (pst xs sl ks a b rest) = true := by
  simp only [lowS, pst, List.all_cons, lowC, lows_flat _ _ h1, lows_flat _ _ h2, low_ints, lowDs, lowD, Bool.true_and, Bool.and_true]
  simp only [lowS] at h
  simp [h]
  omega
theorem fin_pool (xs sl ks : List D) (a b : Int) : fin [Cell.ro xs] (.ref 3) [Cell.ro xs, Cell.lst sl, Cell.lst ks, Cell.lst [.int a, .int b, .ref 2]] = .ok (.ref 3) [Cell.ro xs, Cell.lst sl, Cell.lst ks, Cell.lst [.int a, .int b, .ref 2]] := by
  simp [fin, lowD, lowDs]
theorem pst_pool (n : Int) (r : List Int) (a b : Int) (hl : r.length ≤ 100) (ha : 0 ≤ a) (hb : 0 ≤ b) (hb2 : b < 4294967296) : Pst [] [Cell.ro (D.int n :: List.map D.int r), Cell.lst (List.map D.int r), Cell.lst (List.map D.int r), Cell.lst [.int a, .int b, .ref 2]] :=
  ⟨_, _, r, a, b, flat_ints (n :: r), flat_ints r, hl, ha, hb, hb2, rfl⟩
theorem fin_draw {xs sl : List D} {ks ks' : List Int} {a b a' b' : Int} {rest : Sto} {r : Int} (h1 : flatDs xs = true) (h2 : flatDs sl = true) (h : lowS (4 + rest.length) rest = true) {st' : Sto} (e : st'.take (4 + rest.length) = pst xs sl ks' a' b' rest) :
    fin (pst xs sl ks a b rest) (.int r) st' = .ok (.int r) (pst xs sl ks' a' b' rest) := by
  have hl : (pst xs sl ks a b rest).length = 4 + rest.length := by simp [pst]; omega
  have := fin_low (st := pst xs sl ks a b rest) (st' := st') (d := .int r) (by rw [hl, e]; exact low_pst h1 h2 h) rfl
  rw [hl, e] at this
  exact this
theorem fmod_lo (a b : Int) (h : 0 < b) : 0 ≤ Int.fmod a b := Int.fmod_nonneg_of_pos _ h
theorem fmod_hi (a b : Int) (h : 0 < b) : Int.fmod a b < b := Int.fmod_lt_of_pos _ h
theorem b64_47 (x : Int) : b64 (x.fmod 2147483647) = true := decide_eq_true (by have := fmod_lo x 2147483647 (by decide); have := fmod_hi x 2147483647 (by decide); omega)
theorem eqD_pool (xs sl : List D) (ks : List Int) (c : Cell) (rest : Sto) : eqD (Cell.ro xs :: Cell.lst sl :: Cell.lst (ks.map .int) :: c :: (rest ++ [Cell.lst []])) (.ref 2) (.ref (rest.length + 1 + 1 + 1 + 1)) = some (decide (ks = [])) := by
  have := eq_ints (st := Cell.ro xs :: Cell.lst sl :: Cell.lst (ks.map .int) :: c :: (rest ++ [Cell.lst []])) (i := 2) (j := rest.length + 1 + 1 + 1 + 1) (a := ks) (b := []) (by simp [cellItems]) (by simp [cellItems])
  exact this
theorem eqD_pool0 (xs sl : List D) (c : Cell) (rest : Sto) : eqD (Cell.ro xs :: Cell.lst sl :: Cell.lst [] :: c :: (rest ++ [Cell.lst []])) (.ref 2) (.ref (rest.length + 1 + 1 + 1 + 1)) = some true := eqD_pool xs sl [] c rest
theorem eqD_pool1 (xs sl : List D) (n : Int) (r : List Int) (c : Cell) (rest : Sto) : eqD (Cell.ro xs :: Cell.lst sl :: Cell.lst (.int n :: r.map .int) :: c :: (rest ++ [Cell.lst []])) (.ref 2) (.ref (rest.length + 1 + 1 + 1 + 1)) = some false := eqD_pool xs sl (n :: r) c rest
theorem take_a (c0 c1 c2 c3 x : Cell) (rest : Sto) : List.take (4 + rest.length) (c0 :: c1 :: c2 :: c3 :: (rest ++ [x])) = c0 :: c1 :: c2 :: c3 :: rest := by
  rw [show 4 + rest.length = rest.length + 1 + 1 + 1 + 1 by omega]
  simp
theorem take_b (c0 c1 c2 c3 : Cell) (rest : Sto) : List.take (4 + rest.length) (c0 :: c1 :: c2 :: c3 :: rest) = c0 :: c1 :: c2 :: c3 :: rest := by
  rw [show 4 + rest.length = rest.length + 1 + 1 + 1 + 1 by omega]
  simp
theorem b64_of {i : Int} (h1 : -1000000000 ≤ i) (h2 : i ≤ 1000000000) : b64 i = true := decide_eq_true (by omega)
theorem b64_nat {n : Nat} (h : n ≤ 1000000000) : b64 (n : Int) = true := b64_of (by omega) (by omega)
/-! ### loops -/
def RSok (P : RS → Prop) (I : Env → Sto → Prop) : RS → Prop
  | .nx e st => I e st
  | .ct e st => I e st
  | .brk e st => P (.nx e st)
  | r => P r
theorem forL_wp {g : Sto → Bool} {t : TX} {body : SX} (I : List D → Env → Sto → Prop) (P : RS → Prop)
    (step : ∀ d ds e st, I (d :: ds) e st → g st = true ∧ ∃ e1, t d e = some e1 ∧ RSok P (I ds) (body e1 st))
    (done : ∀ e st, I [] e st → g st = true ∧ P (.nx e st)) : ∀ ds e st, I ds e st → P (forL g t body ds e st)
  | [], e, st, h => by
    obtain ⟨h1, h2⟩ := done e st h
    rw [forL, if_pos h1]; exact h2
  | d :: ds, e, st, h => by
    obtain ⟨h1, e1, h2, h3⟩ := step d ds e st h
    rw [forL, if_pos h1, h2]
    simp only
    revert h3
    generalize body e1 st = r
    intro h3
    cases r with
    | nx e st => exact forL_wp I P step done ds e st h3
    | ct e st => exact forL_wp I P step done ds e st h3
    | brk e st => exact h3
    | ret d st => exact h3
    | exc x e st => exact h3
    | no => exact h3
theorem whL_wp {c : BX} {body : SX} (I : Nat → Env → Sto → Prop) (P : RS → Prop)
    (step : ∀ n e st, I n e st → ∃ st1, (c e st = .ok false st1 ∧ P (.nx e st1)) ∨ (c e st = .ok true st1 ∧ RSok P (fun e2 st2 => ∃ m, m < n ∧ I m e2 st2) (body e st1))) :
    ∀ (fuel n : Nat) e st, n < fuel → I n e st → P (whL c body fuel e st)
  | 0, n, e, st, h, _ => absurd h (Nat.not_lt_zero _)
  | fuel + 1, n, e, st, h, hi => by
    obtain ⟨st1, h1 | h1⟩ := step n e st hi
    · rw [whL, h1.1]; exact h1.2
    · rw [whL, h1.1]
      simp only
      have h3 := h1.2
      revert h3
      generalize body e st1 = r
      intro h3
      cases r with
      | nx e st => obtain ⟨m, h4, h5⟩ := h3; exact whL_wp I P step fuel m e st (by omega) h5
      | ct e st => obtain ⟨m, h4, h5⟩ := h3; exact whL_wp I P step fuel m e st (by omega) h5
      | brk e st => exact h3
      | ret d st => exact h3
      | exc x e st => exact h3
      | no => exact h3
theorem seq_nx {f g : SX} {e e1 : Env} {st st1 : Sto} {r : RS} (h : f e st = .nx e1 st1) (h2 : g e1 st1 = r) : sSeq f g e st = r := by
  unfold sSeq; rw [h]; exact h2
theorem seq_ret {f g : SX} {e : Env} {st st1 : Sto} {d : D} (h : f e st = .ret d st1) : sSeq f g e st = .ret d st1 := by
  unfold sSeq; rw [h]
theorem seq_exc {f g : SX} {e e1 : Env} {st st1 : Sto} {x : Exn} (h : f e st = .exc x e1 st1) : sSeq f g e st = .exc x e1 st1 := by
  unfold sSeq; rw [h]
theorem seq_if {c : BX} {f g : SX} {e : Env} {st : Sto} {r : RS} (h : c e st = .ok false st) (h2 : g e st = r) : sSeq (sIf c f sNx) g e st = r := by
  refine seq_nx (e1 := e) (st1 := st) ?_ h2
  unfold sIf; rw [h]; rfl
theorem fn_ret {n : Nat} {body : SX} {ds : List D} {st st' : Sto} {d : D} {r : R D} (h : body (ds.map some ++ List.replicate (n - ds.length) none) st = .ret d st') (h2 : fin st d st' = r) : fnS n body ds st = r := by
  unfold fnS; rw [h]; exact h2
theorem fn_nx {n : Nat} {body : SX} {ds : List D} {e : Env} {st st' : Sto} {r : R D} (h : body (ds.map some ++ List.replicate (n - ds.length) none) st = .nx e st') (h2 : fin st .non st' = r) : fnS n body ds st = r := by
  unfold fnS; rw [h]; exact h2
theorem or_ff {a b : BX} {e : Env} {st : Sto} (h : a e st = .ok false st) (h2 : b e st = .ok false st) : bOr a b e st = .ok false st := by
  unfold bOr; rw [h]; exact h2
theorem and_f {a b : BX} {e : Env} {st : Sto} (h : a e st = .ok false st) : bAnd a b e st = .ok false st := by
  unfold bAnd; rw [h]; rfl
theorem and_t {a b : BX} {e : Env} {st : Sto} {r : R Bool} (h : a e st = .ok true st) (h2 : b e st = r) : bAnd a b e st = r := by
  unfold bAnd; rw [h]; exact h2
theorem or_t {a b : BX} {e : Env} {st : Sto} (h : a e st = .ok true st) : bOr a b e st = .ok true st := by
  unfold bOr; rw [h]; rfl
theorem or_f {a b : BX} {e : Env} {st : Sto} {r : R Bool} (h : a e st = .ok false st) (h2 : b e st = r) : bOr a b e st = r := by
  unfold bOr; rw [h]; exact h2
theorem seq_nxE {f g : SX} {e : Env} {st : Sto} {r : RS} (h : ∃ e1 st1, f e st = .nx e1 st1 ∧ g e1 st1 = r) : sSeq f g e st = r :=
  let ⟨_, _, h1, h2⟩ := h; seq_nx h1 h2
end Mm

namespace Mm
open PySem L2
/-! ### raise -/
/-- raise x(e) -/
def sRaise (x : Str) (fr : AX) : SX := fun e st => match fr e st with
  | .ok [d] st1 => .exc ⟨x, d⟩ e st1
  | .ok _ _ => .no
  | .ex y st1 => .exc y e st1
  | .no => .no
/-- the class x of the module, at C: an exception whose __init__, at fI, keeps its argument in what -/
structure ExcC (K : PySem.W.Frag) (mg : Str → Option Value) (x : Str) (C fI : Addr) : Prop where
  gC : mg x = some (.ref C)
  T : OexC K C
  iC : PySem.W.findIn K (.ref C) "__init__" = some (some (.ref fI))
  noW : PySem.W.findIn K (.ref C) "what" = some none
  xf : XfC K C
  noK : PySem.W.findIn K (.ref C) "kind" = some none
  xi : XisC K C
  nm : NamC K C
/-- what the __init__ does: the exception's dict has what it is told -/
def spInit (K : PySem.W.Frag) : Sp := fun vs H Q _ => ∃ (a C : Addr) (x : V), vs = [.ref a, x] ∧ OexC K C ∧ XisC K C ∧ NamC K C ∧ H a = some (exo a C none) ∧ PySem.W.findIn K (.ref C) "what" = some none ∧ PySem.W.findIn K (.ref C) "kind" = some none ∧
  ∀ dx fs, H dx = none → dx ≠ a → fs.lookup ("what" : Str) = some x → Q .non (upd (upd H dx (exd dx fs)) a (exo a C (some dx)))
section
variable {X : Cx} {T : List (Addr × Str)} {W : WX} {a : Expr} {fr : AX}
theorem del_end {H1 : Hp} {p C dx : Addr} {fs : List (Str × V)} (h : H1 p = none) (hd : dx ≠ p) :
    upd (del (upd (upd (upd H1 p (exo p C none)) dx (exd dx fs)) p (exo p C (some dx))) p) dx (.xd fs) = upd H1 dx (.xd fs) := by
  funext b
  by_cases h1 : b = dx
  · rw [h1, upd_same, upd_same]
  · rw [upd_ne h1, upd_ne h1]
    by_cases h2 : b = p
    · rw [h2, del_same, h]
    · rw [del_ne h2, upd_ne h2, upd_ne h1, upd_ne h2]
theorem upd_swap {H : Hp} {a dx : Addr} {o o' u : HO} (h : dx ≠ a) : upd (upd (upd H dx o) a u) dx o' = upd (upd H dx o') a u := by
  funext b
  by_cases h1 : b = dx
  · rw [h1, upd_same, upd_ne h, upd_same]
  · rw [upd_ne h1]
    by_cases h2 : b = a
    · rw [h2, upd_same, upd_same]
    · rw [upd_ne h2, upd_ne h2, upd_ne h1, upd_ne h1]
theorem js_raise {x : Str} {C fI : Addr} {fd : FuncData} {k : Nat} {p pos pos2 : Pos} (hc : X.calm = true) (tk : Takes X W) (E : ExcC X.K X.mg x C fI) (tI : PySem.W.typeIn X.K (.ref fI) = some (.type "function"))
    (F1 : FnOk X.prog X.w X.K X.mg X.base (L2.CX X.prog X.w) k fI fd ["self", "what"] (spInit X.K)) (hr : Room (k + 1) X.A) (hb : Binds X.K fd ["self", "what"] []) (hg : Gl X x) (ha : JA X T W [a] fr)
    (hdb : (x == ("__debug__" : Str)) = false := by decide) (he : starEach [a] X.env = (false, eval a X.env) :: starEach [] X.env := by rfl) (hpl : (backTo pos (starEach [] X.env)).any (·.1) = false := by rfl) :
    JS X T W (.Raise (some (.Call (.Name x p) [a] [] pos)) none pos2) (sRaise x fr) := by
  refine ps_weak (ps_raise hc tk (pmk_oex E.T E.iC tI F1 hr hb .nil passL hg E.gC ha.pa hdb he hpl)) fun F s H ⟨e, st, m, he, ok, h⟩ => ?_
  refine ⟨e, st, m, he, ok, ?_⟩
  unfold sRaise at h
  have hn := ha.len e st
  revert h hn
  generalize fr e st = r
  intro h hn
  cases r with
  | no => exact h
  | ex y st1 => exact fun cls dd H1 m1 l pr ok1 xr => h cls dd s H1 m1 l pr ok1 (he.mono l pr) xr
  | ok ds st1 =>
    have hl := hn ds st1 rfl
    match ds, hl with
    | [d], _ =>
      intro y H1 m1 l pr ok1 rl
      obtain ⟨v, r, rfl, rv, rr⟩ := rl
      cases rr
      refine ⟨(by decide : 1 ≤ 1000), fun q hq => ⟨q, C, v, rfl, E.T, E.xi, E.nm, upd_same, E.noW, E.noK, fun dx fs hdx hne hw => ⟨rfl, dx, fs, upd_same, by rw [upd_ne hne, upd_same], ?_, ?_⟩⟩⟩
      · rw [upd_ne hne] at hdx; exact hdx
      · have hdx1 : H1 dx = none := by rw [upd_ne hne] at hdx; exact hdx
        rw [del_end hq hne]
        exact h (.ref C) (some dx) s _ m1 (l.trans (Le.new hdx1)) pr (ok1.new hdx1) ((he.mono l pr).mono (Le.new hdx1) (.refl m1)) ⟨C, dx, v, fs, rfl, E.gC, rfl, upd_same, hw, rv.mono (Le.new hdx1) (.refl m1)⟩
def tNam (K : PySem.W.Frag) (te : TE) : TE := fun σ H Q => te σ H fun x H1 => ∃ (a C : Addr) (d : Option Addr), x = .ref a ∧ H1 a = some (exo a C d) ∧ (∀ dx, d = some dx → ∃ fs, H1 dx = some (exd dx fs)) ∧ XisC K C ∧ NamC K C ∧ ∀ z, Q (.str z) H1
def tInit (K : PySem.W.Frag) : TS := fun D σ H => tVeI K (fun σ H Q => tVar 0 σ H fun v H1 => Q [v] H1) σ H fun _ H1 => tOst K "what" (tVar 0) (tVar 1) { D with nx := fun σ2 H2 => tOst K "kind" (tVar 0) (tNam K (tVar 0)) D σ2 H2 } σ H1
theorem init_reads {K : PySem.W.Frag} {a C : Addr} {x : V} {H : Hp} {Q : VK} (hT : OexC K C) (hX : XisC K C) (hn : NamC K C) (ha : H a = some (exo a C none)) (hno : PySem.W.findIn K (.ref C) "what" = some none) (hnk : PySem.W.findIn K (.ref C) "kind" = some none)
    (h : ∀ dx fs, H dx = none → dx ≠ a → fs.lookup ("what" : Str) = some x → Q .non (upd (upd H dx (exd dx fs)) a (exo a C (some dx)))) :
    tInit K { nx := fun _ H' => Q .non H', rt := Q } (L2.start ["self", "what"] [.ref a, x]) H := by
  refine ⟨.ref a, rfl, a, C, [], rfl, by decide, hT, ha, x, rfl, .ref a, rfl, a, C, rfl, hT, hno, .inl ⟨ha, fun dx h1 h2 => ?_⟩⟩
  have e1 : upd (upd H dx (exd dx [(("what" : Str), x)])) a (exo a C (some dx)) dx = some (exd dx [(("what" : Str), x)]) := by rw [upd_ne h2, upd_same]
  refine ⟨.ref a, rfl, a, C, some dx, rfl, upd_same, fun d e => ?_, hX, hn, fun z => ⟨.ref a, rfl, a, C, rfl, hT, hnk, .inr ⟨dx, [(("what" : Str), x)], upd_same, e1, Nat.le_of_ble_eq_true rfl, ?_⟩⟩⟩
  · cases e; exact ⟨_, e1⟩
  · rw [upd_swap h2]
    exact h dx _ h1 h2 (by rw [lookup_put, if_neg (by decide), lookup_put, if_pos rfl])
end
end Mm

namespace Mm
open PySem L2 PySem.Spec PyProof.Rows
/-! ### try with several clauses, each with a name or without -/
/-- where a suite goes on: the slot of its name, if it has one, is empty behind it -/
def dropAt (D : Ends) : Option Nat → Ends
  | none => D
  | some i => { nx := fun σ H => D.nx (σ.set i none) H, rt := D.rt, bk := fun σ H => D.bk (σ.set i none) H, ct := fun σ H => D.ct (σ.set i none) H }
def putAt (σ : L2.St) (a : Addr) : Option Nat → L2.St
  | none => σ
  | some i => σ.set i (some (.ref a))
structure Cls where
  c : Value
  i : Option Nat
  ts : Addr → Value → Option Addr → TS
def wCls (K : PySem.W.Frag) (Wout : WX) (D : Ends) : List Cls → WX
  | [] => Wout
  | q :: r => fun cls d σ H => ∃ b, PySem.W.exmOne K cls q.c = some b ∧ (b = true → ∀ a, H a = none → q.ts a cls d (dropAt D q.i) (putAt σ a q.i) H) ∧ (b = false → wCls K Wout D r cls d σ H)
/-- the name of a clause and its slot -/
def NamedAt (X : Cx) (n : Option Str) (i : Option Nat) : Prop := match n, i with
  | none, none => True
  | some n, some i => X.N.Nodup ∧ X.N[i]? = some n ∧ X.env.kindOf n = some .local
  | _, _ => False
def Suite (X : Cx) (sms : List Stmt) (ts : Addr → Value → Option Addr → TS) : Prop :=
  ∀ (a : Addr) (oe : Obj) (cls : Value) (d : Option Addr) (pn : List (Addr × Obj)), Zc cls d oe → (∃ vs, oe.data = .fields vs) → PSs (X.suite a ((a, oe) :: pn)) sms (ts a cls d)
inductive ClsOk (X : Cx) : List ExceptHandler → List Cls → Prop
  | nil : ClsOk X [] []
  | cons {x : Str} {n : Option Str} {q : Cls} {b0 : Stmt} {suite : List Stmt} {np pos : Pos} {hds : List ExceptHandler} {l : List Cls} (hc : Names X x q.c) (hn : NamedAt X n q.i) (hsu : Suite X (b0 :: suite) q.ts) (r : ClsOk X hds l) :
      ClsOk X (.ExceptHandler (some (.Name x np)) n (b0 :: suite) pos :: hds) (q :: l)
section
variable {X : Cx} {body : List Stmt} {h0 : ExceptHandler} {hds : List ExceptHandler} {l : List Cls} {pos : Pos} {tb : WX → TS} {Wout : WX}
theorem ps_try_cls (hs : X.stack = X.env :: X.outer) (hf : X.env.frame = some X.env.locals) (tk : Takes X Wout)
    (hb : ∀ (W : WX) (pn : List (Addr × Obj)) (xe : Value → Shared → Prop), Takes (X.tr pn xe) W → PassesOwn (model X.prog X.w) X.A X.env xe → PSs (X.tr pn xe) body (tb W))
    (hh : ClsOk X (h0 :: hds) l) : PS X (.Try body (h0 :: hds) [] [] pos) (fun D σ H => tb (wCls X.K Wout D l) D σ H) := by
  refine ⟨fun pins s σ H D I h => wpAny_Try_except ?_⟩
  have ok := I.ok
  have hfr : X.A.frames = some (X.env :: X.outer) := by rw [ok.frames, hs]
  let xe : Value → Shared → Prop := fun e s1 => wpAny (model X.prog X.w) X.A (noteFrame e X.env) (fun _ s2 => wpAny (model X.prog X.w) X.A (setFlight e none) (fun _ s3 => wpAny (model X.prog X.w) X.A (handleBy e X.env (h0 :: hds)) (SP X pins D) X.xe s3) X.xe s2) X.xe s1
  have caught : Takes (X.tr (X.pn ++ pins) xe) (wCls X.K Wout D l) := by
    intro u s' xx
    obtain ⟨a, B, sI, pins', σ1, H1, cls, d, rfl, J', nb, up, sky, na, os, ag, w⟩ := xx
    have J : Inv X pins σ1 H1 sI := J'.ofTry ok
    show wpAny (model X.prog X.w) X.A (noteFrame (.ref a) X.env) _ _ _
    refine Sky.land Zc.steady hfr hf (by rw [← hs]; exact sky) fun h3 fl3 up3 => ?_
    have J3 : Inv X pins σ1 H1 { s' with heap := h3 } := J.landed nb fl3.1 (up.trans up3) os ag
    obtain ⟨oe3, vs3, he3, hz3, hd3⟩ := fl3.there
    -- the exception is no frame's
    have nfr : a ∉ frs (X.env :: X.outer) := fun hm => by
      obtain ⟨_, o, e, hno⟩ := fl3.2.2.1.mem hm
      rw [he3] at e
      cases e
      exact hno _ hd3
    have nL : a ≠ X.env.locals := fun z => nfr (List.mem_filterMap.mpr ⟨X.env, List.mem_cons_self, by rw [hf, z]⟩)
    have nF : a ∉ X.fs := fun hm => by
      obtain ⟨e, he, q⟩ := List.mem_filterMap.mp hm
      exact nfr (List.mem_filterMap.mpr ⟨e, List.mem_cons_of_mem _ he, q⟩)
    have S3 := J3.suite he3 hd3 na nL nF
    suffices go : ∀ (hds2 : List ExceptHandler) (l2 : List Cls), ClsOk X hds2 l2 → wCls X.K Wout D l2 cls d σ1 H1 → wpAny (model X.prog X.w) X.A (handleBy (.ref a) X.env hds2) (SP X pins D) X.xe { s' with heap := h3 } from go _ _ hh w
    intro hds2 l2 hk
    induction hk with
    | nil =>
      intro w
      refine wpAny_handleBy_nil ?_
      obtain ⟨k1, k2, k3, oe, vs, T, oT, ts', he, hz, hd, h1, hr⟩ := id fl3
      unfold PySem.passOn
      refine wpAny_bind (wpAny_field he hd h1 ?_)
      rw [if_neg (show ¬ ((Value.ref T == Value.none) = true) from by simp)]
      have out : wpAny (model X.prog X.w) X.A (setFlight (.ref a) X.env.frame) (fun _ s4 => wpAny (model X.prog X.w) X.A (throw (.ref a) : Sem Flow) (SP X pins D) X.xe s4) X.xe { s' with heap := h3 } := by
        rw [hf]
        refine HandSPX.setFlight_upZ fl3 fun h4 hh4 up4 => wpAny_throw (tk _ _ ?_)
        exact ⟨a, B, sI, pins, σ1, H1, cls, d, rfl, J, nb, (up.trans up3).trans up4, .inr (.inr (by rw [hs]; exact hh4)), na, os, ag, w⟩
      first
        | exact wpAny_bind (wpAny_pure (wpAny_bind out))
        | exact wpAny_bind out
    | @cons x n q b0 suite np pos2 hds3 l3 hc hn hsu r ih =>
      intro w
      obtain ⟨b, hb1, hyes, hno⟩ := w
      refine wpAny_handleBy_cons (codeAny_handlers_test ?_) (by intro q; cases q)
      have LT : PySem.W.Looks (model X.prog X.w) h3 (typeOf (.ref a)) cls := fun A Q E s k q => wpAny_typeOf_ref (k _ _ he3) (by rw [hz3.1]; exact q)
      have LM := PySem.W.exm_one (M := model X.prog X.w) (J3.kIn) LT hb1
      have test : ∀ {Q : Value → Shared → Prop} {E : Value → Shared → Prop}, Q q.c { s' with heap := h3 } → wpAny (model X.prog X.w) (X.A.mark (some (.ref a))) (eval (.Name x np) X.env) Q E { s' with heap := h3 } := fun {Q E} z => by
        obtain ⟨hg, hdbg, hm | ⟨hm, hv, hnn⟩⟩ := hc
        · exact ld_glob (X := X.suite a ((a, oe3) :: (X.pn ++ pins))) S3 hg hm z hdbg
        · exact ld_blt (X := X.suite a ((a, oe3) :: (X.pn ++ pins))) S3 hg hm hv z hnn hdbg
      refine test (LM.here ?_)
      cases b with
      | false =>
        show wpAny _ X.A (handleBy (.ref a) X.env hds3) _ _ _
        exact ih (hno rfl)
      | true =>
        obtain ⟨c0, ci, ts⟩ := q
        match n, ci, hn with
        | none, none, _ =>
          refine codeAny_handlers_suite ?_
          refine HandSPX.lands_againZ fl3 fun h4 fl4 up4 => ?_
          have J4 : Inv X pins σ1 H1 { s' with heap := h4 } := J.landed nb fl4.1 ((up.trans up3).trans up4) os ag
          obtain ⟨oe4, vs4, he4, hz4, hd4⟩ := fl4.there
          have S4 := J4.suite he4 hd4 na nL nF
          refine wpAny_mono ((hsu a oe4 cls d (X.pn ++ pins) hz4 ⟨_, hd4⟩).run [] _ _ H1 _ S4 (hyes rfl a na)) (fun f s6 hsp => ?_) (fun _ _ z => False.elim z)
          cases f with
          | next => obtain ⟨σ6, H6, S6, q6⟩ := hsp; exact ⟨_, _, S6.unsuite ok, q6⟩
          | brk => obtain ⟨σ6, H6, S6, q6⟩ := hsp; exact ⟨_, _, S6.unsuite ok, q6⟩
          | cont => obtain ⟨σ6, H6, S6, q6⟩ := hsp; exact ⟨_, _, S6.unsuite ok, q6⟩
          | ret u => obtain ⟨v6, σ6, H6, S6, r6, q6⟩ := hsp; exact ⟨_, _, _, S6.unsuite ok, r6, q6⟩
        | some n, some i, hn =>
          obtain ⟨hN, hi, hln⟩ := hn
          refine codeAny_handlers_suite_as ?_
          refine HandSPX.lands_againZ fl3 fun h4 fl4 up4 => ?_
          have J4 : Inv X pins σ1 H1 { s' with heap := h4 } := J.landed nb fl4.1 ((up.trans up3).trans up4) os ag
          obtain ⟨oe4, vs4, he4, hz4, hd4⟩ := fl4.there
          have S4 := J4.suite he4 hd4 na nL nF
          refine store_ok (X := X.suite a ((a, oe4) :: (X.pn ++ pins))) (v := .ref a) S4 hN hi (.inl hln) rfl (fun s5 S5 => ?_) (.inr hln)
          refine wpAny_mono ((hsu a oe4 cls d (X.pn ++ pins) hz4 ⟨_, hd4⟩).run [] s5 _ H1 _ S5 (hyes rfl a na)) (fun f s6 hsp => ?_) (fun _ _ z => False.elim z)
          have behind : ∀ {σ6 : L2.St} {H6 : Hp} {Q : Shared → Prop}, Inv (X.suite a ((a, oe4) :: (X.pn ++ pins))) [] σ6 H6 s6 → (∀ s7, Inv X pins (σ6.set i none) H6 s7 → Q s7) →
              wpAny (model X.prog X.w) X.A (do bindName X.env n .none; unbindBehindTheSuite X.env n pos2) (fun _ s7 => Q s7) X.xe s6 := fun {σ6 H6 Q} S6 hq => gone_ok (S6.unsuite ok) hN hi hln hq
          cases f with
          | next => obtain ⟨σ6, H6, S6, q6⟩ := hsp; exact behind S6 fun s7 J7 => ⟨_, _, J7, q6⟩
          | brk => obtain ⟨σ6, H6, S6, q6⟩ := hsp; exact behind S6 fun s7 J7 => ⟨_, _, J7, q6⟩
          | cont => obtain ⟨σ6, H6, S6, q6⟩ := hsp; exact behind S6 fun s7 J7 => ⟨_, _, J7, q6⟩
          | ret u => obtain ⟨v6, σ6, H6, S6, r6, q6⟩ := hsp; exact behind S6 fun s7 J7 => ⟨_, _, _, J7, r6, q6⟩
  refine wpAny_mono ((hb _ _ xe caught PassesOwn.looking).run [] s σ H D (I.toTry _) h) (fun f s1 hsp => ?_) (fun e s1 he => he)
  cases f with
  | next => obtain ⟨σ', H', J', q⟩ := hsp; exact wpAny_execs_nil ⟨σ', H', J'.ofTry ok, q⟩
  | brk => obtain ⟨σ', H', J', q⟩ := hsp; exact ⟨σ', H', J'.ofTry ok, q⟩
  | cont => obtain ⟨σ', H', J', q⟩ := hsp; exact ⟨σ', H', J'.ofTry ok, q⟩
  | ret u => obtain ⟨v, σ', H', J', r, q⟩ := hsp; exact ⟨v, σ', H', J'.ofTry ok, r, q⟩
end
end Mm

namespace Mm
open PySem L2 PySem.Spec PyProof.Rows
def clrE (e : Env) : Option Nat → Env
  | none => e
  | some i => e.set i none
def hasE (e : Env) : Option Nat → Bool
  | none => true
  | some i => decide (i < e.length)
def dropR (i : Option Nat) : RS → RS
  | .nx e st => .nx (clrE e i) st
  | .brk e st => .brk (clrE e i) st
  | .ct e st => .ct (clrE e i) st
  | .ret d st => .ret d st
  | .exc x e st => .no
  | .no => .no
structure SC where
  c : Str
  i : Option Nat
  f : Exn → SX
/-- the clauses, one after the other: mt y c tells whether the class y is under c -/
def goC (mt : Str → Str → Option Bool) (x : Exn) (e : Env) (st : Sto) : List SC → RS
  | [] => .exc x e st
  | q :: r => match mt x.cls q.c with
    | some true => if hasE e q.i = true then dropR q.i (q.f x (clrE e q.i) st) else .no
    | some false => goC mt x e st r
    | none => .no
def sTry (mt : Str → Str → Option Bool) (names : List Str) (f : SX) (l : List SC) : SX := fun e st => match f e st with
  | .exc x e1 st1 => if names.contains x.cls = true then goC mt x e1 st1 l else .no
  | r => r
abbrev noW : WX := fun _ _ _ _ => False
/-- a suite at the exception x: what it is to do -/
def tsOf (X : Cx) (T : List (Addr × Str)) (names : List Str) (i : Option Nat) (f : Exn → SX) : Addr → Value → Option Addr → TS := fun a cls d D σ H =>
  ∃ x e st m, EnvOk X.K H m σ e ∧ (∀ j, i = some j → σ[j]? = some (some (.ref a))) ∧ Ok X.K T H m st ∧ XRep X.K X.mg H m x cls d ∧ x.cls ∈ names ∧ DenS X.K T X.mg noW H m (f x e st) D
inductive JCls (X : Cx) (T : List (Addr × Str)) (mt : Str → Str → Option Bool) (names : List Str) : List ExceptHandler → List SC → Prop
  | nil : JCls X T mt names [] []
  | cons {x : Str} {n : Option Str} {i : Option Nat} {C : Addr} {f : Exn → SX} {b0 : Stmt} {suite : List Stmt} {np pos : Pos} {hds : List ExceptHandler} {l : List SC} (hc : Names X x (.ref C)) (hn : NamedAt X n i)
      (hm : ∀ y ∈ names, ∀ b, mt y x = some b → ∀ Cy, X.mg y = some (.ref Cy) → PySem.W.exmOne X.K (.ref Cy) (.ref C) = some b) (hsu : Suite X (b0 :: suite) (tsOf X T names i f)) (r : JCls X T mt names hds l) :
      JCls X T mt names (.ExceptHandler (some (.Name x np)) n (b0 :: suite) pos :: hds) (⟨x, i, f⟩ :: l)
section
variable {X : Cx} {T : List (Addr × Str)} {W : WX} {mt : Str → Str → Option Bool} {names : List Str} {body : List Stmt} {h0 : ExceptHandler} {hds : List ExceptHandler} {l : List SC} {pos : Pos} {f : SX}
theorem EnvOk.put {K : PySem.W.Frag} {H : Hp} {m : List Addr} {s : L2.St} {e : Env} (h : EnvOk K H m s e) (a : Addr) (i : Option Nat) : EnvOk K H m (putAt s a i) (clrE e i) := by
  cases i with
  | none => exact h
  | some i =>
    refine ⟨by simp [putAt, clrE, h.1], fun j d hd => ?_⟩
    simp only [clrE, putAt] at hd ⊢
    by_cases hj : i = j
    · subst hj
      rw [List.getElem?_set] at hd
      simp at hd
    · rw [List.getElem?_set_ne hj] at hd ⊢
      exact h.2 j d hd
theorem EnvOk.drop {K : PySem.W.Frag} {H : Hp} {m : List Addr} {s : L2.St} {e : Env} (h : EnvOk K H m s e) (i : Nat) : EnvOk K H m (s.set i none) (e.set i none) := by
  refine ⟨by simp [h.1], fun j d hd => ?_⟩
  by_cases hj : i = j
  · subst hj
    rw [List.getElem?_set] at hd
    simp at hd
  · rw [List.getElem?_set_ne hj] at hd ⊢
    exact h.2 j d hd
theorem den_drop {K : PySem.W.Frag} {mg : Str → Option Value} {H : Hp} {m : List Addr} {i : Option Nat} {r : RS} {D : Ends} (h : DenS K T mg W H m (dropR i r) D) : DenS K T mg noW H m r (dropAt D i) := by
  cases r with
  | no => exact h
  | exc x e st => exact False.elim h
  | ret d st => cases i <;> exact h
  | nx e st =>
    cases i with
    | none => exact h
    | some i => exact fun s' H' m' l p ok he => h _ H' m' l p ok (he.drop i)
  | brk e st =>
    cases i with
    | none => exact h
    | some i => exact fun s' H' m' l p ok he => h _ H' m' l p ok (he.drop i)
  | ct e st =>
    cases i with
    | none => exact h
    | some i => exact fun s' H' m' l p ok he => h _ H' m' l p ok (he.drop i)
theorem jcls_ok {hds : List ExceptHandler} {l : List SC} (h : JCls X T mt names hds l) : ∃ l' : List Cls, ClsOk X hds l' ∧
    ∀ (D : Ends) (x : Exn) (e : Env) (st : Sto) (H : Hp) (m : List Addr), x.cls ∈ names → DenS X.K T X.mg W H m (goC mt x e st l) D →
      ∀ cls dd s' H' m', Le H H' → Pre m m' → Ok X.K T H' m' st → EnvOk X.K H' m' s' e → XRep X.K X.mg H' m' x cls dd → wCls X.K W D l' cls dd s' H' := by
  induction h with
  | nil => exact ⟨[], .nil, fun D x e st H m _ h => h⟩
  | @cons x n i C f b0 suite np pos hds l hc hn hm hsu r ih =>
    obtain ⟨l', h1, h2⟩ := ih
    refine ⟨⟨.ref C, i, tsOf X T names i f⟩ :: l', .cons hc hn hsu h1, fun D y e st H m hy h cls dd s' H' m' le pr ok he xr => ?_⟩
    obtain ⟨Cy, d, v, fs0, rfl, g2, rest⟩ := id xr
    unfold goC at h
    simp only at h
    cases hb : mt y.cls x with
    | none => rw [hb] at h; exact False.elim h
    | some b =>
      rw [hb] at h
      refine ⟨b, hm _ hy b hb Cy g2, fun ht a ha => ?_, fun hf => ?_⟩
      · subst ht
        simp only at h
        by_cases hh : hasE e i = true
        · rw [if_pos hh] at h
          refine ⟨y, clrE e i, st, m', he.put a i, fun j hj => ?_, ok, xr, hy, den_drop (DenS.mono h le pr)⟩
          subst hj
          have hlt : j < s'.length := by rw [← he.1]; exact of_decide_eq_true hh
          simp [putAt, hlt]
        · rw [if_neg hh] at h; exact False.elim h
      · subst hf
        simp only at h
        exact h2 D y e st H m hy h _ dd s' H' m' le pr ok he xr
theorem js_try (hs : X.stack = X.env :: X.outer) (hf : X.env.frame = some X.env.locals) (tk : Takes X W)
    (hb : ∀ (W : WX) (pn : List (Addr × Obj)) (xe : Value → Shared → Prop), Takes (X.tr pn xe) W → PassesOwn (model X.prog X.w) X.A X.env xe → JB (X.tr pn xe) T W body f)
    (hh : JCls X T mt names (h0 :: hds) l) : JS X T W (.Try body (h0 :: hds) [] [] pos) (sTry mt names f l) := by
  obtain ⟨l', h1, h2⟩ := jcls_ok (W := W) hh
  refine ps_weak (ps_try_cls (tb := fun W => tS X.K T X.mg W f) hs hf tk hb h1) fun F s H ⟨e, st, m, he, ok, h⟩ => ⟨e, st, m, he, ok, ?_⟩
  unfold sTry at h
  revert h
  generalize f e st = r
  intro h
  cases r with
  | no => exact h
  | nx e st => exact h
  | brk e st => exact h
  | ct e st => exact h
  | ret d st => exact h
  | exc x e1 st1 =>
    simp only at h
    by_cases hc : names.contains x.cls = true
    · rw [if_pos hc] at h
      exact h2 F x e1 st1 H m (by simpa using hc) h
    · rw [if_neg hc] at h; exact False.elim h
/-- a suite that does not look at the exception -/
theorem su_plain {sms : List Stmt} {i : Option Nat} {g : SX} (h : ∀ (a : Addr) (pn : List (Addr × Obj)), JB (X.suite a pn) T noW sms g) : Suite X sms (tsOf X T names i (fun _ => g)) := fun a oe cls d pn hz hf =>
  pss_weak (h a ((a, oe) :: pn)) fun D s H ⟨x, e, st, m, he, _, ok, _, _, hd⟩ => ⟨e, st, m, he, ok, hd⟩
/-- return ('s', n.what), n the exception -/
theorem su_told {i : Nat} {n s : Str} {j kt : Nat} {p1 p2 p3 p4 p5 : Pos} (hN : X.N[i]? = some n) (hv : Vis X.env.scope n) (hx : ∀ y ∈ names, ∀ Cy, X.mg y = some (.ref Cy) → XfC X.K Cy ∧ PySem.W.findIn X.K (.ref Cy) "what" = some none)
    (hd : (n == ("__debug__" : Str)) = false := by decide) (hcd : (n == ("__classdict__" : Str)) = false := by decide)
    (hb : attributeBase (.Name n p2) "what" X.env (eval (.Name n p2) X.env) = eval (.Name n p2) X.env := by rfl) :
    Suite X [.Return (some (.Tuple [.Constant (.str s) j p1, .Attribute (.Name n p2) "what" p3] kt p4)) p5] (tsOf X T names (some i) fun x _ st => .ret (.tup [.str s, x.what]) st) := by
  intro a oe cls d pn hz hf
  by_cases hy : ∃ y, y ∈ names ∧ ∃ Cy, X.mg y = some (.ref Cy) ∧ cls = .ref Cy
  · obtain ⟨y, hy, Cy, g, rfl⟩ := hy
    obtain ⟨hX, hno⟩ := hx y hy Cy g
    have ht := pe_xf (X := X) (pos := p3) hX hno hz hf (pe_var (X := X.suite a ((a, oe) :: pn)) (pos := p2) (i := i) hN hv hd hcd) hb
    refine pss_weak (pss_one (ps_ret (pe_tupN (pa_cons pe_str (pa_cons ht pa_nil))))) fun D σ H ⟨x, e, st, m, he, hs, ok, xr, hx, hd⟩ => ?_
    obtain ⟨C2, d2, v, fs, e1, e2, rfl, e4, hw, rv⟩ := xr
    cases e1
    refine ⟨.ref a, hs i rfl, rfl, rfl, d2, _, v, rfl, e4, hw, ?_, fun p o hp ho => ?_⟩
    · show 2 ≤ sizeLine
      exact lim_le (by decide)
    · exact hd (.ref p) _ m (Le.new hp) (.refl m) (ok.new hp) ⟨p, [.str s, v], rfl, .new ho, .str s, [v], rfl, rfl, v, [], rfl, rv.mono (Le.new hp) (.refl m), rfl⟩
  · refine pss_weak pss_never fun D σ H ⟨x, e, st, m, he, hs, ok, xr, hx, hd⟩ => ?_
    obtain ⟨C2, d2, v, fs, e1, e2, _⟩ := xr
    exact hy ⟨x.cls, hx, C2, e2, e1⟩
end
/-! which class is under which -/
def mtOf (l : List (Str × Str × Bool)) (y c : Str) : Option Bool := (l.find? fun t => t.1 == y && t.2.1 == c).map (·.2.2)
theorem mt_one {K : PySem.W.Frag} {mg : Str → Option Value} {o : Option Bool} {y : Str} {b b' : Bool} {C Cy : Addr} {c : Value} (h : o = some b) (e : o = some b') (hC : mg y = some (.ref Cy)) (g : mg y = some (.ref C)) (xm : PySem.W.exmOne K (.ref C) c = some b') : PySem.W.exmOne K (.ref Cy) c = some b := by
  cases hC.symm.trans g
  cases h.symm.trans e
  exact xm
theorem all_nil {P : Str → Prop} : ∀ y ∈ ([] : List Str), P y := fun _ h => by cases h
theorem all_cons {P : Str → Prop} {x : Str} {xs : List Str} (h : P x) (r : ∀ y ∈ xs, P y) : ∀ y ∈ x :: xs, P y := fun y hy => by
  rcases List.mem_cons.mp hy with rfl | hy
  · exact h
  · exact r y hy
end Mm

namespace Mm
open PySem L2 PySem.Spec PyProof.Rows LamX
/-! ### g(lambda: e), g a def that calls it in a try -/
def eHeard (s0 : Str) (n : Nat) (mt : Str → Str → Option Bool) (names : List Str) (l : List SC) (fb : EX) : EX := fun e st => match fb e st with
  | .ok d st1 => .ok (.tup [.str s0, d]) st1
  | .ex x st1 => if names.contains x.cls = true then (match goC mt x (List.replicate n none) st1 l with | .ret d st2 => .ok d st2 | _ => .no) else .no
  | .no => .no
theorem Le.ofN {H H' : Hp} (e : ExtN H H') : Le H H' :=
  ⟨fun a xs h => e a _ h (fun ps z => by cases z), fun a o u h => e a _ h (fun ps z => by cases z), fun a q h => e a _ h (fun ps z => by unfold CodeO at z; cases z)⟩
section
variable {X : Cx} {T : List (Addr × Str)} {W : WX} {pins : List (Addr × Obj)} {σ : L2.St} {H : Hp} {s : Shared}
theorem Ok.extN {K : PySem.W.Frag} {m : List Addr} {st : Sto} {H' : Hp} (ok : Ok K T H m st) (e : ExtN H H') (t : Tabs T H') : Ok K T H' m st := by
  refine ⟨ok.len, ok.nd, fun i c hc => ?_, t⟩
  obtain ⟨a, h1, h2⟩ := ok.cell i c hc
  refine ⟨a, h1, ?_⟩
  cases c with
  | lst ds =>
    obtain ⟨vs, q1, q2⟩ := h2
    exact ⟨vs, e a _ q1 (fun ps z => by cases z), Reps.mono (Le.ofN e) (.refl m) q2⟩
  | ro ds =>
    obtain ⟨vs, q1, q2⟩ := h2
    exact ⟨vs, fun H2 l => q1 H2 ((Le.ofN e).trans l), Reps.mono (Le.ofN e) (.refl m) q2⟩
/-- a(), in the def that got the lambda -/
theorem act_g {CXg : CXT} {Eg : XK} {Ng : List Str} {qg : Str} {sg : Scope} {g f c' : Addr} {cdg pm ctv : Value} {params : Arguments} {body : Expr} {scope : Scope} {k i : Nat} {a : Str} {pn : List (Addr × Obj)} {xe : Value → Shared → Prop} {fb : EX} {p1 p2 : Pos}
    (I : Inv X pins σ H s) (L : LamS X.env.scope scope) (hf : s.heap.get? f = some (PySem.W.kla_obj "<lambda>" (X.env.qual ++ "<lambda>") params body scope (cloFrom X.env.cells scope.names []) pm c' ctv)) (hfn : H f = none) (hfr : f ∉ frs X.stack)
    (hbind : bindArgs (PySem.W.kla_fn "<lambda>" (X.env.qual ++ "<lambda>") params body scope (cloFrom X.env.cells scope.names []) pm (.ref c') ctv) ⟨[], []⟩ = pure [])
    (tk : Takes ((cxOf CXg X.prog X.w X.K X.mg X.base Ng qg sg g cdg X.A X.stack s H Eg).tr pn xe) W) (hr : Room (k + 1) (X.A.deeper (envOfC qg sg s.heap.objs.size g cdg))) (hgd : X.A.guards = some [])
    (hbody : ∀ (A : Around) (outer : List PySem.Env) (s : Shared) (H : Hp) (E : XK), A.guards = some [] → Room k (A.deeper (lamEnv X scope s.heap.objs.size f c')) → J (lamCx X A outer s H E scope f c') T (fun cls d _ H' => E cls d H') body fb)
    (hN : Ng[i]? = some a) (hv : Vis sg a) (hd : (a == ("__debug__" : Str)) = false) (hcd : (a == ("__classdict__" : Str)) = false) :
    PE ((cxOf CXg X.prog X.w X.K X.mg X.base Ng qg sg g cdg X.A X.stack s H Eg).tr pn xe) (.Call (.Name a p1) [] [] p2)
      (fun σZ HZ Q => σZ[i]? = some (some (.ref f)) ∧ HZ c' = some (CodeO c' (X.env.qual ++ "<lambda>")) ∧ tE X.K T X.mg (fun cls d _ H' => W cls d σZ H') fb σ HZ Q) := by
  refine ⟨fun pinsZ sZ σZ HZ Q IZ h => ?_⟩
  obtain ⟨hs, hc, ht⟩ := h
  refine wpAny_Call_Name_kw (thn ((pe_var (pos := p1) (i := i) hN hv hd hcd).run pinsZ sZ σZ HZ (fun v H1 => v = .ref f ∧ H1 = HZ) IZ ⟨.ref f, hs, rfl, rfl⟩) fun u s1 ⟨v, H1, I1, r1, q1⟩ => ?_)
  obtain ⟨ev, eH⟩ := q1
  subst ev
  rw [eH] at I1
  obtain rfl : u = Value.ref f := r1
  have of1 := I1.base.keep f _ hf hfn hfr (fun z => nomatch (show f ∈ ([] : List Addr) from z))
  refine PySem.W.callWith_F0 ⟨_, _, _, _, of1⟩ ?_
  have un : Un (frs X.stack) [] H HZ s.heap s1.heap := I1.base
  obtain ⟨⟨oc, vs, t, hoc, hdc, hvc⟩, _, _⟩ := I1.hok c' _ hc
  have rc : codeAny (model X.prog X.w) (X.A.deeper (envOfC qg sg s.heap.objs.size g cdg)) (.call (.ref f) ⟨[], []⟩) (CR (L2.CX X.prog X.w) (envOfC qg sg s.heap.objs.size g cdg :: X.stack) X.prog X.w HZ s1 Q (WE W σZ)) s1 := by
    refine PySem.W.kla_callFunE hr.depth of1 rfl L.co L.gen rfl ⟨c', oc, vs, t, rfl, hoc, hdc, hvc⟩ ?_
    rw [hbind]
    refine wpAny_pure (wpAny_newFunctionEnv (fun y hy => (L.own y hy).2) (fun y hy => absurd hy (by simp)) (fun h1 hns hsb => ⟨I1.nolimit.fresh _ hsb, ?_⟩) L.kind)
    show codeAny _ _ (.expr body (lamEnv X scope s1.heap.objs.size f c')) _ _
    have kp : ∀ b o, s1.heap.get? b = some o → h1.get? b = some o := fun b o e => hsb.extBut b o (Nat.ne_of_lt (Heap.lt_size e)) (Heap.get?_push_of_some _ e)
    have JI : Inv (lamCx X (X.A.deeper (envOfC qg sg s.heap.objs.size g cdg)) (envOfC qg sg s.heap.objs.size g cdg :: X.stack) s1 HZ (WE W σZ) scope f c') [] σ HZ { s1 with heap := h1, toks := s1.toks + ([] : List (Str × Value)).length } :=
      lam_start2 I L I1.env0 hr.hd un hns kp
    refine PySem.W.kla_codeExpr (wpAny_mono ((hbody (X.A.deeper (envOfC qg sg s.heap.objs.size g cdg)) (envOfC qg sg s.heap.objs.size g cdg :: X.stack) s1 HZ (WE W σZ) hgd (hr.deeper _)).run [] _ _ HZ Q JI ht) (fun v s' hq => ?_) fun e s' hq => hq)
    obtain ⟨w', H', J', rv, q⟩ := hq
    exact ⟨w', H', J'.os, J'.bare, J'.base, J'.hok, rv, q⟩
  refine wpAny_call (codeAny_mono rc fun r s' hq => ?_)
  cases r with
  | error e => exact passAt tk σZ pinsZ HZ s1 e s' I1 hq
  | ok fl =>
    cases fl with
    | ret u => exact I1.after hq
    | next => exact False.elim hq
    | brk => exact False.elim hq
    | cont => exact False.elim hq
theorem j_heard {x a : Str} {g c P : Addr} {k : Nat} {pg : Arguments} {bg : List Stmt} {sg : Scope} {dV kV doc pm cdv ct oc : Value} {an od : Option Addr} {osl : Array (Option Value)} {Ng : List Str}
    {params : Arguments} {body : Expr} {scope : Scope} {p lpos pos p1 p2 p3 p4 p5 p6 : Pos} {j kt : Nat} {s0 : Str} {mt : Str → Str → Option Bool} {names : List Str} {l : List SC} {h0 : ExceptHandler} {hds : List ExceptHandler} {fb : EX}
    (hgd : X.A.guards = some []) (hg : Gl X x) (hm : X.mg x = some (.ref g)) (hk : PySem.W.keepIn X.K (.ref g) = true)
    (lk : X.K.lookup g = some ⟨oc, od, .func (PySem.W.fnOf x x pg bg sg dV kV doc pm an cdv ct), osl⟩) (hcg : PySem.W.codeIn X.K cdv x = true) (hb : L2.Binds X.K (PySem.W.fnOf x x pg bg sg dV kV doc pm an cdv ct) [a] []) (Sg : FnScope Ng [a] sg) (hNg : Ng[0]? = some a) (hva : Vis sg a)
    (hbg : bg = [.Try [.Return (some (.Tuple [.Constant (.str s0) j p1, .Call (.Name a p2) [] [] p3] kt p4)) p5] (h0 :: hds) [] [] p6])
    (hcl : ∀ (s : Shared) (H : Hp), JCls (cxOf C8.CX0 X.prog X.w X.K X.mg X.base Ng x sg g cdv X.A X.stack s H C8.E0).nox T mt names (h0 :: hds) l)
    (TB : TabB X.base X.mg c P) (hcode : X.env.code = .ref c) (hmT : (P, X.env.qual ++ "<lambda>") ∈ T) (hu : ∀ p ∈ T, p.1 = P → p.2 = X.env.qual ++ "<lambda>") (hr : Room (k + 2) X.A) (L : LamS X.env.scope scope) (hdef : defaultsOf params X.env = ([], []))
    (hbind : ∀ (q : Str) (cl : List (Str × Addr)) (pm cv ctv : Value), bindArgs (PySem.W.kla_fn "<lambda>" q params body scope cl pm cv ctv) ⟨[], []⟩ = pure [])
    (hbody : ∀ (A : Around) (outer : List PySem.Env) (s : Shared) (H : Hp) (E : XK) (f c' : Addr), A.guards = some [] → Room k (A.deeper (lamEnv X scope s.heap.objs.size f c')) → J (lamCx X A outer s H E scope f c') T (fun cls d _ H' => E cls d H') body fb)
    (hdb : (x == ("__debug__" : Str)) = false := by decide) (hd : (a == ("__debug__" : Str)) = false := by decide) (hcd : (a == ("__classdict__" : Str)) = false := by decide) :
    J X T W (.Call (.Name x p) [.Lambda params body scope lpos] [] pos) (eHeard s0 Ng.length mt names l fb) := by
  subst hbg
  refine ⟨fun pins s σ H Q I h => ?_⟩
  obtain ⟨e, st, m, he, ok, h⟩ := h
  refine wpAny_Call_Name_kw (ld_glob I hg hm ?_ hdb)
  refine PySem.W.callWith_K (h₀ := X.base) I.ok.mod.kin hk ?_ (by rfl) (by rfl)
  show wpAny _ _ (spliced ((false, eval (.Lambda params body scope lpos) X.env) :: backTo pos (starEach [] X.env))) _ _ s
  refine Calls.spliced_cons (lam_make2 I TB hcode hmT hu ok.tabs hdef (L.has I.ok) fun f c' pm' ctv H1 s' I1 eN T1 hf hfn hfr hco => ?_)
  refine Calls.spliced_nil ⟨I1.kIn, ?_⟩
  have ok1 := ok.extN eN T1
  have he1 := he.mono (Le.ofN eN) (.refl m)
  have rc : codeAny (model X.prog X.w) X.A (.call (.ref g) ⟨[.ref f], []⟩) (CR C8.CX0 X.stack X.prog X.w H1 s' Q C8.E0) s' := by
    refine run_ofS (N := Ng) (ps := [a]) (us := [.ref f]) (vs := [.ref f]) lk hcg Sg hr I1.env0 (hb s' [.ref f] I1.kIn rfl) (.cons rfl .nil) rfl fun hr' => ?_
    obtain ⟨l', q1, q2⟩ := jcls_ok (W := noW) (hcl s' H1)
    have key := ps_try_cls (X := (cxOf C8.CX0 X.prog X.w X.K X.mg X.base Ng x sg g cdv X.A X.stack s' H1 C8.E0).nox) (pos := p6)
      (tb := fun W D σZ HZ => σZ[0]? = some (some (.ref f)) ∧ HZ c' = some (CodeO c' (X.env.qual ++ "<lambda>")) ∧ tE X.K T X.mg (fun cls d _ H' => W cls d σZ H') fb σ HZ (fun v H2 => 2 ≤ sizeLine ∧ ∀ q o, H2 q = none → o.dict = none → D.rt (.ref q) (upd H2 q (.frz o (.tup [.str s0, v])))))
      (body := [.Return (some (.Tuple [.Constant (.str s0) j p1, .Call (.Name a p2) [] [] p3] kt p4)) p5]) rfl rfl LamX.takes0 (fun W pn xe tk _ => ?_) q1
    · refine ⟨_, (pss_one key).nox, ?_⟩
      refine ⟨?_, hco, e, st, m, he1, ok1, ?_⟩
      · have : (L2.start Ng [V.ref f]) = some (V.ref f) :: List.replicate (Ng.length - 1) none := rfl
        rw [this]; rfl
      · have h2 := h
        unfold eHeard at h2
        revert h2
        generalize fb e st = r
        intro h2
        cases r with
        | no => exact h2
        | ok d st1 =>
          intro y H' m' le pr ok' rv
          refine ⟨lim_le (by decide), fun q o hq ho => ?_⟩
          exact h2 (.ref q) _ m' (((Le.ofN eN).trans le).trans (Le.new hq)) pr (ok'.new hq) ⟨q, [.str s0, y], rfl, .new ho, .str s0, [y], rfl, rfl, y, [], rfl, rv.mono (Le.new hq) (.refl m'), rfl⟩
        | ex x st1 =>
          simp only at h2
          by_cases hc : names.contains x.cls = true
          · rw [if_pos hc] at h2
            have hd : DenS X.K T X.mg noW H1 m (goC mt x (List.replicate Ng.length none) st1 l) { nx := fun _ H' => Q .non H', rt := Q } := by
              revert h2
              generalize goC mt x (List.replicate Ng.length none) st1 l = r
              intro h2
              cases r with
              | ret d st2 => exact fun v H' m' le pr ok' rv => h2 v H' m' ((Le.ofN eN).trans le) pr ok' rv
              | no => exact h2
              | nx e st => exact False.elim h2
              | brk e st => exact False.elim h2
              | ct e st => exact False.elim h2
              | exc x e st => exact False.elim h2
            refine fun cls dd H' m' le pr ok' xr => q2 _ x _ st1 H1 m (by simpa using hc) hd cls dd _ H' m' le pr ok' ⟨?_, fun i d hi => ?_⟩ xr
            · have hlen : 0 < Ng.length := by
                cases Ng with
                | nil => cases hNg
                | cons => simp
              have : (L2.start Ng [V.ref f]) = some (V.ref f) :: List.replicate (Ng.length - 1) none := rfl
              rw [this]
              simp
              omega
            · rw [List.getElem?_replicate] at hi
              split at hi <;> cases hi
          · rw [if_neg hc] at h2; exact False.elim h2
    · exact pss_one (ps_ret (pe_tupN (pa_cons pe_str (pa_cons (act_g (CXg := C8.CX0) (Eg := C8.E0) (Ng := Ng) (i := 0) I1 L hf hfn hfr (hbind _ _ _ _ _) tk hr' hgd (fun A outer s2 H2 E hA hR => hbody A outer s2 H2 E f c' hA hR) hNg hva hd hcd) pa_nil))))
  refine wpAny_call (codeAny_mono rc fun r s2 hq => ?_)
  cases r with
  | error e => exact (show False from hq).elim
  | ok fl =>
    cases fl with
    | ret u => exact I1.after hq
    | next => exact False.elim hq
    | brk => exact False.elim hq
    | cont => exact False.elim hq
end
end Mm

namespace Mm
open PySem L2 PySem.Spec PyProof.Rows PySem.W
/-! ### t[::-1] of a tuple -/
theorem adjust_rev (n : Nat) : Builtin.Slice.sliceAdjust none none (-1) (n : Int) = ((n : Int) - 1, -1) := by
  simp [Builtin.Slice.sliceAdjust]
theorem places_rev (n : Nat) : Builtin.Slice.slicePlaces ((n : Int) - 1) (-1) (-1) = n := by
  unfold Builtin.Slice.slicePlaces
  simp
  omega
theorem sliceApplied_rev {prog : Program} {w : World} {A : Around} {E : Value → Shared → Prop} {s : Shared} {sl : Addr} {n : Nat} {u : Tok} {Q : Int × Int × Nat → Shared → Prop} (hs : s.heap.IsSliceOf sl .none .none (.int (-1) u)) (h : Q ((n : Int) - 1, -1, n) s) :
    wpAny (model prog w) A (Builtin.Slice.sliceApplied (.ref sl) (pure (n : Int))) Q E s := by
  obtain ⟨os, hos, hcs, hds⟩ := id hs
  unfold Builtin.Slice.sliceApplied
  refine wpAny_bind (wpAny_bind (wpAny_field hos hds rfl (wpAny_bind (wpAny_field hos hds rfl (wpAny_bind (wpAny_field hos hds rfl (wpAny_pure ?_)))))))
  refine wpAny_bind (slicePart_int ?_)
  show wpAny _ _ (if (((-1 : Int) == 0) = true) then _ else _) _ _ _
  rw [if_neg (by decide)]
  refine wpAny_bind (slicePart_none (wpAny_bind (slicePart_none (wpAny_bind (wpAny_pure ?_)))))
  show wpAny _ _ (match Builtin.Slice.sliceAdjust none none (-1) (n : Int) with | (lo, hi) => pure (lo, -1, Builtin.Slice.slicePlaces lo hi (-1))) _ _ _
  rw [adjust_rev]
  show wpAny _ _ (pure ((n : Int) - 1, -1, Builtin.Slice.slicePlaces ((n : Int) - 1) (-1) (-1))) _ _ _
  rw [places_rev]
  exact wpAny_pure h
theorem fm_some {α β : Type} {f : α → Option β} {g : α → β} : ∀ l : List α, (∀ m ∈ l, f m = some (g m)) → l.filterMap f = l.map g
  | [], _ => rfl
  | x :: r, h => by
    rw [List.filterMap_cons, h x (by simp), List.map_cons, fm_some r fun y hy => h y (by simp [hy])]
theorem pick_rev (xs : Array Value) : (List.filterMap (fun (m : Nat) => xs[(((xs.size : Nat) : Int) - 1 + (m : Int) * (-1)).toNat]?) (List.range xs.size)).toArray = xs.toList.reverse.toArray := by
  congr 1
  rw [fm_some (g := fun m => xs.toList.reverse.getD m default) _ fun m hm => by
    rw [List.mem_range] at hm
    have e1 : (((xs.size : Nat) : Int) - 1 + (m : Int) * (-1)).toNat = xs.size - 1 - m := by omega
    rw [e1]
    simp only [List.getD, ← Array.getElem?_toList]
    rw [List.getElem?_reverse (by simpa using hm)]
    rw [Array.length_toList]
    have : xs.size - 1 - m < xs.toList.length := by simp; omega
    rw [List.getElem?_eq_getElem this]
    rfl]
  apply List.ext_getElem?
  intro i
  rw [List.getElem?_map]
  by_cases hi : i < xs.size
  · rw [List.getElem?_range hi]
    have : i < xs.toList.reverse.length := by simpa using hi
    simp only [Option.map, List.getD, List.getElem?_eq_getElem this, Option.getD]
  · rw [List.getElem?_eq_none (by simpa using hi), List.getElem?_eq_none (by simpa using hi)]
    rfl
theorem getItem_tuple_rev {prog : Program} {w : World} {A : Around} {E : Value → Shared → Prop} {s : Shared} {t sl : Addr} {items : Array Value} {u : Tok} {Q : Value → Shared → Prop} (ht : IsTup s.heap t items) (hs : s.heap.IsSliceOf sl .none .none (.int (-1) u))
    (h : Q (.ref s.heap.objs.size) { s with heap := s.heap.push { cls := .type "tuple", data := .seq items.toList.reverse.toArray } }) (hsz : items.size ≤ sizeLine) : wpAny (model prog w) A (getItem (.ref t) (.ref sl)) Q E s := by
  obtain ⟨os, hos, hcs, hds⟩ := id hs
  have hTs : s.TypeIs (.ref sl) "slice" := ⟨os, hos, hcs⟩
  have hsz2 : items.toList.reverse.toArray.size ≤ sizeLine := by simpa using hsz
  refine wpAny_holding (wpAny_bind (wpAny_sequenceKey ht.typeIs (by decide) (wpAny_bind (wpAny_callSpecial?_slot ht.typeIs slot_tuple_getitem (wpAny_call_entry slot_tuple_getitem ht.typeIs entry_tuple_getitem ?_ (args_tuple_getitem _ _))))))
  have e0 : slotArgs "__getitem__" 1 { pos := [Value.ref t, Value.ref sl] } = (pure (Value.ref t, [Value.ref sl]) : Sem (Value × List Value)) := rfl
  refine wpAny_bind ?_
  rw [e0]
  refine wpAny_pure (wpAny_bind (tupleItemsOf_ ht (wpAny_bind (wpAny_typeOf hTs ?_))))
  rw [if_pos (by decide)]
  refine wpAny_bind (sliceApplied_rev (n := items.size) hs ?_)
  simp only
  rw [if_neg (by simp)]
  show wpAny _ _ (bind (Builtin.Tuple.tupleExact (List.filterMap (fun (k : Nat) => items[(((items.size : Nat) : Int) - 1 + (k : Int) * (-1)).toNat]?) (List.range items.size)).toArray) _) _ _ _
  rw [pick_rev]
  exact wpAny_bind (wpAny_newObj_type (wpAny_pure ⟨_, rfl, wpAny_pure h⟩) hsz2)
theorem pe_rev2 {X : Cx} {e : Expr} {te : TE} {k : Nat} {p1 p2 p3 pos : Pos} (he : PE X e te) : PE X (.Subscript e (.Slice none none (some (.UnaryOp .USub (.Constant (.int 1) k p1) p2)) p3) pos)
    (fun σ H Q => te σ H fun x H1 => ∃ a xs, x = V.ref a ∧ ((SqT X.K H1 a xs ∧ ∀ p o, H1 p = none → o.dict = none → Q (.ref p) (upd H1 p (.frz o (.tup xs.reverse)))) ∨ (SqL X.K H1 a xs ∧ ∀ p, H1 p = none → Q (.ref p) (upd H1 p (.lst xs.reverse))))) := by
  refine ⟨fun pins s σ H Q I h => Subscript_ (thn (he.run pins s σ H _ I h) fun v s1 ⟨x, H1, I1, r1, a, xs, ex, hq⟩ => ?_)⟩
  subst ex
  obtain rfl : v = Value.ref a := r1
  have hst := po_some (pe_un (X := X) (pos := p2) un_neg (pe_int (X := X) (i := 1) (j := k) (pos := p1)))
  refine wpAny_Slice (thn (po_none.run pins s1 σ H1 (fun o H2 => o = none ∧ H2 = H1) I1 ⟨rfl, rfl⟩) fun vl s2 ⟨l, H2, I2, pl, el, e2⟩ => ?_)
  subst el e2
  refine thn (po_none.run pins s2 σ H2 (fun o H3 => o = none ∧ H3 = H2) I2 ⟨rfl, rfl⟩) fun vu s3 ⟨u, H3, I3, pu, eu, e3⟩ => ?_
  subst eu e3
  refine thn (hst.run pins s3 σ H3 (fun o H4 => o = some (-1) ∧ H4 = H3) I3 ?_) fun vs s4 ⟨t, H4, I4, ps, et, e4⟩ => ?_
  · exact ⟨1, rfl, -1, rfl, rfl, rfl⟩
  subst et e4
  cases pl
  cases pu
  obtain ⟨tk, rfl⟩ : ∃ tk, vs = Value.int (-1) tk := by cases ps; exact ⟨_, rfl⟩
  have I5 : L2.Inv X pins σ H4 { s4 with heap := s4.heap.push { cls := .type "slice", data := .fields #[.none, .none, .int (-1) tk] } } := I4.kept (t' := s4.toks) (fun b ob q => Heap.get?_push_of_some _ q)
  have hsl : Heap.IsSliceOf (s4.heap.push { cls := .type "slice", data := .fields #[.none, .none, .int (-1) tk] }) s4.heap.objs.size .none .none (.int (-1) tk) := Heap.IsSliceOf.new s4.1 _ _ _
  have fr := HOk.fresh I5.hok (Nat.le_refl _)
  rcases hq with ⟨hx, q⟩ | ⟨hx, q⟩
  · obtain ⟨its, r, ht, hz⟩ := Inv.tuple I5 hx
    have hlen := Vals.length r
    refine tail_any (ht.typeIs) slot_tuple_getitem.lookup (getItem_tuple_rev ht hsl ?_ (by simp; omega)) rfl
    refine ⟨V.ref _, upd H4 _ (.frz (tupO its.reverse) (.tup xs.reverse)), Inv.laid I5 (fun b ob q => Heap.get?_push_of_some _ q) (Nat.le_refl _) ?_, rfl, q _ _ fr rfl⟩
    exact ⟨Heap.get?_push_size _ rfl, by simpa using hz, its.reverse, Vals.reverse r, _, Heap.get?_push_size _ rfl, rfl, 0, rfl⟩
  · obtain ⟨its, r, ht, hz⟩ := Inv.list I5 hx
    have hlen := Vals.length r
    refine tail_any (Heap.IsList.typeIs (PlainL.isList ht)) slot_list_getitem.lookup (wpAny_getItem_list_slice (lo := none) (hi := none) (st := some (-1)) (PlainL.isList ht) hsl .none .none ps (by decide) ?_ (by simp; omega)) rfl
    rw [krv_pick]
    refine ⟨V.ref _, upd H4 _ (.lst xs.reverse), Inv.laid I5 (fun b ob q => Heap.get?_push_of_some _ q) (Nat.le_refl _) ?_, rfl, q _ fr⟩
    exact ⟨by simpa using hz, its.reverse, 0, Vals.reverse r, Heap.get?_push_size _ rfl⟩
end Mm

namespace Mm
open PySem L2 PySem.Spec PyProof.Rows LamX
/-! ### the law's end, with the tables of the code objects of those defs that make lambdas -/
section
variable {P : Program} {w : World} {K : PySem.W.Frag} {mg mb : Str → Option Value} {k : Nat} {fa a : Addr} {fd : FuncData} {x : Str} {g : List D → Sto → R D} {s1 : Shared} {vs : List Value} {ns : List Int} {cs : List (Addr × Addr)} {T : List (Addr × Str)}
/-- what is tracked where the law is called: the tables, and the script unless the text holds it -/
structure Track (P : Program) (w : World) (K : PySem.W.Frag) (h : Heap) (a : Addr) (ns : List Int) (ts : List Addr) (H : Hp) : Prop where
  tab : ∀ b ∈ ts, H b = some (.tbl #[])
  only : ∀ b, H b = none ∨ b ∈ ts ∨ ∃ o xs, H b = some (.frz o (.lst xs))
  script : ∀ H', Le H H' → SqL K H' a (ns.map V.int)
  hok : HOk P w H h
  at_ : ∀ b, H b ≠ none → b = a ∨ b ∈ ts
  free : H a ≠ none → K.lookup a = none
theorem track_of {ts : List Addr} (KX : K.In s1.heap) (hT : ∀ b ∈ ts, s1.heap.get? b = some { cls := .none, data := .fields #[] }) (ha : s1.heap.get? a = some { cls := .type "list", data := .seq vs.toArray }) (hi : IntsAre vs ns) (hl : ns.length ≤ sizeLine) :
    ∃ H : Hp, Track P w K s1.heap a ns ts H := by
  have rv := vals_ints hi
  have aT : a ∉ ts := fun z => by
    have q := hT a z
    rw [ha] at q
    have q2 : Data.seq vs.toArray _ = Data.fields #[] := congrArg Obj.data (Option.some.inj q)
    cases q2
  have tOk : ∀ (H : Hp) (b : Addr), b ∈ ts → ObjOk P w H s1.heap b (.tbl #[]) := fun H b hb => hT b hb
  cases hk : K.lookup a with
  | some o =>
    have e := KX a o hk
    rw [ha] at e
    cases e
    refine ⟨fun b => if b ∈ ts then some (.tbl #[]) else none, fun b hb => if_pos hb, fun b => ?_, fun H' _ => .inr ⟨_, vs.toArray, _, hk, rfl, rfl, rfl, ?_, ?_⟩, fun b u z => ?_, fun b z => ?_, fun z => absurd (if_neg aT) z⟩
    · by_cases hb : b ∈ ts
      · exact .inr (.inl hb)
      · exact .inl (if_neg hb)
    · rw [List.size_toArray, hi.length]; exact hl
    · simpa using rv
    · by_cases hb : b ∈ ts
      · have z' := (if_pos hb).symm.trans z
        cases z'
        exact tOk _ b hb
      · have z' := (if_neg hb).symm.trans z
        cases z'
    · by_cases hb : b ∈ ts
      · exact .inr hb
      · exact absurd (if_neg hb) z
  | none =>
    let u : HO := .frz { cls := .type "list", data := .seq vs.toArray } (.lst (ns.map V.int))
    let H : Hp := fun b => if b = a then some u else if b ∈ ts then some (.tbl #[]) else none
    have at_a : H a = some u := if_pos rfl
    have at_t : ∀ b, b ≠ a → b ∈ ts → H b = some (.tbl #[]) := fun b h1 h2 => (if_neg h1).trans (if_pos h2)
    have at_n : ∀ b, b ≠ a → b ∉ ts → H b = none := fun b h1 h2 => (if_neg h1).trans (if_neg h2)
    refine ⟨H, fun b hb => at_t b (fun z => aT (by rw [← z]; exact hb)) hb, fun b => ?_, fun H' le => .inl (.inr ⟨_, le.frz a _ _ at_a⟩), fun b o z => ?_, fun b z => ?_, fun _ => hk⟩
    · by_cases h1 : b = a
      · exact .inr (.inr ⟨_, _, by rw [h1]; exact at_a⟩)
      · by_cases h2 : b ∈ ts
        · exact .inr (.inl h2)
        · exact .inl (at_n b h1 h2)
    · by_cases h1 : b = a
      · rw [h1, at_a] at z
        cases z
        rw [h1]
        exact ⟨ha, by rw [List.length_map]; exact hl, vs, _, rv, ha⟩
      · by_cases h2 : b ∈ ts
        · rw [at_t b h1 h2] at z
          cases z
          exact tOk _ b h2
        · rw [at_n b h1 h2] at z
          cases z
    · by_cases h1 : b = a
      · exact .inl h1
      · by_cases h2 : b ∈ ts
        · exact .inr h2
        · exact absurd (at_n b h1 h2) z
theorem law_callGT (KX : K.In s1.heap) (hns : s1.heap.Ns mainGlobals mg) (hb : s1.heap.Ns builtinsNs mb) (hbb : ∀ x : Str, x ≠ "__name__" → mb x = bootBuiltins x) (hlim : s1.heap.NoLimit) (hg : s1.gens = #[])
    (hT : ∀ p ∈ cs, s1.heap.get? p.2 = some { cls := .none, data := .fields #[] }) (nT : ∀ p ∈ cs, K.lookup p.2 = none) (C : ∀ p ∈ cs, PySem.W.CodeHd s1.heap p.1 p.2)
    (hbm : ∃ (bm : Addr) (ob : Obj), mg "__builtins__" = some (.ref bm) ∧ bm ≠ builtinsNs ∧ s1.heap.get? bm = some ob ∧ ob.cls = .type "module" ∧ ob.dict = some builtinsNs ∧ ob.data = .plain)
    (hTs : ∀ p ∈ T, p.1 ∈ cs.map (·.2))
    (ha : s1.heap.get? a = some { cls := .type "list", data := .seq vs.toArray }) (hi : IntsAre vs ns) (hl : ns.length ≤ sizeLine) (hr : Room k callerA)
    (F : ∀ base : Heap, K.In base → base.Ns mainGlobals mg → (∀ p ∈ cs, TabB base mg p.1 p.2) → FnG P w K mg base (L2.CX P w) k fa fd [x] (SpG K T mg 1 g)) (hbind : ∀ (s : Shared) (u : Value), BindsTo s fd ⟨[u], []⟩ [(x, u)])
    (hlaw : ∃ st', g [.ref 0] [.ro (ns.map D.int)] = .ok (.bl true) st') :
    codeAny (model P w) callerA (.call (.ref fa) ⟨[.ref a], []⟩) (fun r s' => r = .ok (.ret (.bool true)) ∧ OldK s1.heap s'.heap ∧ s'.os = s1.os ∧ AllBare s'.gens) s1 := by
  have isT : ∀ b ∈ cs.map (·.2), s1.heap.get? b = some { cls := .none, data := .fields #[] } := fun b hb => by
    obtain ⟨p, hp, e⟩ := List.mem_map.mp hb
    rw [← e]
    exact hT p hp
  have memT : ∀ p ∈ cs, p.2 ∈ cs.map (·.2) := fun p hp => List.mem_map.mpr ⟨p, hp, rfl⟩
  obtain ⟨H, HT⟩ := track_of (P := P) (w := w) KX isT ha hi hl
  have same : ∀ {b : Addr} {o : Obj}, s1.heap.get? b = some o → H b = none → (hidT s1.heap H).get? b = some o := fun e n => hidT_get e n
  -- what is neither a sequence nor an empty table is not tracked
  have plainB : ∀ {b : Addr} {o : Obj}, s1.heap.get? b = some o → (∀ vs n, o.data ≠ .seq vs n) → o.data ≠ .fields #[] → H b = none := fun {b o} e h1 h2 => by
    cases q : H b with
    | none => rfl
    | some u =>
      rcases HT.at_ b (by rw [q]; simp) with e' | e'
      · rw [e', ha] at e
        cases e
        exact (h1 _ _ rfl).elim
      · rw [isT b e'] at e
        cases e
        exact (h2 rfl).elim
  have keepNs : ∀ {b : Addr} {m : Str → Option Value}, s1.heap.Ns b m → (hidT s1.heap H).Ns b m := fun {b m} ⟨o, es, ep, e, d, r⟩ =>
    ⟨o, es, ep, same e (plainB e (fun vs n z => by rw [d] at z; cases z) fun z => by rw [d] at z; cases z), d, r⟩
  have hKb : K.In (hidT s1.heap H) := fun b o e => same (KX b o e) (by
    cases q : H b with
    | none => rfl
    | some u =>
      rcases HT.at_ b (by rw [q]; simp) with e' | e'
      · rw [e'] at e q
        rw [HT.free (by rw [q]; simp)] at e
        cases e
      · obtain ⟨p, hp, ep⟩ := List.mem_map.mp e'
        rw [← ep, nT p hp] at e
        cases e)
  have hM : Mod K mg (hidT s1.heap H) := ⟨hKb, keepNs hns, ⟨mb, keepNs hb, hbb⟩, let ⟨mc, h1, h2⟩ := hlim; ⟨mc, keepNs h1, h2⟩⟩
  have TB : ∀ p ∈ cs, TabB (hidT s1.heap H) mg p.1 p.2 := fun p hp => by
    have hTp := hT p hp
    refine ⟨?_, ?_, fun z => ?_⟩
    · obtain ⟨o, us, file, tf, flags, tg, inF, text, tt, e1, r1, r2, r3, rest⟩ := C p hp
      refine ⟨o, us, file, tf, flags, tg, inF, text, tt, same e1 (plainB e1 (fun vs n z => by rw [r2] at z; cases z) fun z => ?_), r1, r2, r3, rest⟩
      rw [r2] at z
      cases z
      simp at r3
    · obtain ⟨bm, ob, b1, b2, b3, b4, b5, b6⟩ := hbm
      have nG : bm ≠ mainGlobals := fun q => by
        obtain ⟨o, es, ep, e, hd, _⟩ := hns
        rw [q, e] at b3
        cases b3
        rw [hd] at b6
        cases b6
      have nP : bm ≠ p.2 := fun q => by
        rw [q, hTp] at b3
        cases b3
        cases b6
      exact ⟨bm, ob, b1, b2, nG, nP, same b3 (plainB b3 (fun vs n z => by rw [b6] at z; cases z) fun z => by rw [b6] at z; cases z), b4, b5, b6⟩
    · obtain ⟨o, es, ep, e, hd, _⟩ := hns
      rw [z, hTp] at e
      cases e
      cases hd
  have e0 : Env0 P w K mg (hidT s1.heap H) callerA [] s1 H := ⟨rfl, hM, fun b o e => of_hidT e, Nat.le_of_eq (hidT_size _ _), trivial, fun b hb => absurd (show b ∈ ([] : List Addr) from hb) (by simp), HT.hok, .of_eq hg⟩
  have hsp : SpG K T mg 1 g [.ref a] H (fun v _ => v = .bl true) fun _ _ _ => False := by
    refine ⟨rfl, [.ref 0], [.ro (ns.map D.int)], [a], ⟨_, [], rfl, ⟨a, rfl, rfl⟩, rfl⟩, ⟨rfl, fun i j b xs ys h1 h2 h3 h4 => ?_, fun i c hc => ?_, fun p hp => TabS.nil (HT.tab p.1 (hTs p hp))⟩, ?_⟩
    · match i, h3 with
      | 0, h3 => cases h3
      | i + 1, h3 => simp at h3
    · match i, hc with
      | 0, hc => cases hc; exact ⟨a, rfl, ns.map V.int, HT.script, Reps.of_ints ns⟩
      | i + 1, hc => simp at hc
    · obtain ⟨st', e⟩ := hlaw
      show Den K T mg _ (RD K) [] H [a] (g [.ref 0] [.ro (ns.map D.int)]) _
      rw [e]
      exact fun y H' m' _ _ _ r => r
  refine codeAny_mono ((F _ hKb (keepNs hns) TB).run callerA [] s1 H ⟨[.ref a], []⟩ [.ref a] [.ref a] _ _ rfl hr e0 (hbind s1 (.ref a)) (.cons rfl .nil) hsp) fun r s' h => ?_
  cases r with
  | error e =>
    obtain ⟨_, _, _, _, _, _, _, _, _, _, _, _, z⟩ := (show L2.CX P w [] H s1 (fun _ _ _ => False) e s' from h)
    exact z.elim
  | ok fl =>
    cases fl with
    | next => exact False.elim h
    | brk => exact False.elim h
    | cont => exact False.elim h
    | ret u =>
      obtain ⟨v, H', os, bare, un, hok', r', q⟩ := h
      have q' : v = .bl true := q
      subst q'
      obtain rfl : u = Value.bool true := r'
      have key : ∀ b o, b ∉ cs.map (·.2) → s1.heap.get? b = some o → s'.heap.get? b = some o := fun b o nb e => by
        cases q : H b with
        | none => exact un.keep b o e q (fun z => absurd (show b ∈ ([] : List Addr) from z) (by simp)) (by simp)
        | some u =>
          rcases HT.only b with z | z | ⟨ob, xs, z⟩
          · rw [q] at z; cases z
          · exact absurd z nb
          · obtain ⟨e1, _⟩ := HT.hok b _ z
            obtain ⟨e2, _⟩ := hok' b _ (un.frzs b ob _ z)
            rw [e] at e1; cases e1
            exact e2
      have grown : ∀ b ∈ cs.map (·.2), ∃ more : Array Value, s'.heap.get? b = some { cls := .none, data := .fields more } := fun b hb => by
        obtain ⟨more, z⟩ := un.tbls b #[] (HT.tab b hb)
        exact ⟨_, hok' b _ z⟩
      refine ⟨rfl, ⟨fun b o e => ?_, fun b o e => ?_⟩, os, bare⟩
      · by_cases hb : b ∈ cs.map (·.2)
        · obtain ⟨more, hm⟩ := grown b hb
          rw [isT b hb] at e
          cases e
          obtain ⟨p, hp, ep⟩ := List.mem_map.mp hb
          refine .inr (.inl ⟨?_, rfl, #[], more, rfl, by rw [Array.empty_append]; exact hm⟩)
          rw [← ep]
          exact ((C p hp).tab (hT p hp)).isCodeTable
        · exact .inl (key b o hb e)
      · by_cases hb : b ∈ cs.map (·.2)
        · obtain ⟨more, hm⟩ := grown b hb
          exact ⟨_, hm⟩
        · exact ⟨o, key b o hb e⟩
/-- what k_head leaves of a law -/
theorem walk_ofGT {l : PySem.W.OpenLaw} {n k : Nat} {q : Program} {loose : List Str} {XP : (Str → Option Value) → Heap → Prop} {YP : World → Heap → Prop} {d : DefRec} {g : List D → Sto → R D} {x : Str}
    (hn : l.most = some n) (hn2 : n ≤ sizeLine) (hdf : d.params.defaults = []) (hr : Room k callerA)
    (F : ∀ (w : World) (mg : Str → Option Value) (fa : Addr) (h : Heap), YP w h → h.Ns mainGlobals mg → mg d.name = some (.ref fa) →
      ∃ (K : PySem.W.Frag) (fd : FuncData) (cs : List (Addr × Addr)) (T : List (Addr × Str)), K.In h ∧ (∀ p ∈ cs, h.get? p.2 = some { cls := .none, data := .fields #[] }) ∧ (∀ p ∈ cs, K.lookup p.2 = none) ∧ (∀ p ∈ cs, PySem.W.CodeHd h p.1 p.2) ∧ (∀ p ∈ T, p.1 ∈ cs.map (·.2)) ∧
        (∀ (s : Shared) (u : Value), BindsTo s fd ⟨[u], []⟩ [(x, u)]) ∧
        ∀ base : Heap, K.In base → base.Ns mainGlobals mg → (∀ p ∈ cs, TabB base mg p.1 p.2) → FnG l.prog w K mg base (L2.CX l.prog w) k fa fd [x] (SpG K T mg 1 g))
    (hlaw : ∀ ns : List Int, ns.length ≤ n → ∃ st', g [.ref 0] [.ro (ns.map D.int)] = .ok (.bl true) st') :
    PySem.W.WalkO q loose XP YP l.row.toRowW d [] (fun f vs => PySem.call f vs) := by
  refine Att.attach_call hn hdf fun w s0 s1 mg mb fa o pm cd doc a vs ns G Y ho hd hcd hmg hobj hints hlen hg => ?_
  obtain ⟨K, fd, cs, T, KX, hT, nT, C, hTs, hb, hF⟩ := F w mg fa _ Y G.T.g hmg
  exact law_callGT KX G.T.g G.T.b G.T.builtins G.T.nolimit hg hT nT C G.T.bmain hTs hobj hints (Nat.le_trans hlen hn2) hr hF hb (hlaw ns hlen)
end
end Mm

namespace Mm
open PySem L2 PySem.Spec PyProof.Rows LamX
section
variable {X : Cx} {T : List (Addr × Str)} {W : WX} {k : Nat} {f : Addr} {fd : FuncData} {g : List D → Sto → R D} {x : Str} {p pos : Pos}
/-- f() -/
theorem j_call0 (F : FnG X.prog X.w X.K X.mg X.base (L2.CX X.prog X.w) k f fd [] (SpG X.K T X.mg 0 g)) (hgd : X.A.guards = some []) (hr : Room k X.A) (tk : Takes X W) (hg : Gl X x) (hm : X.mg x = some (.ref f)) (hk : PySem.W.keepIn X.K (.ref f) = true) (hb : Binds X.K fd [] [])
    (hdb : (x == ("__debug__" : Str)) = false := by decide) : J X T W (.Call (.Name x p) [] [] pos) (eCall g aN) := by
  refine ⟨fun pins s σ H Q I h => ?_⟩
  refine wpAny_Call_Name_kw (ld_glob I hg hm ?_ hdb)
  obtain ⟨en, st, m, hen, ok, h⟩ := h
  have q : SpG X.K T X.mg 0 g [] H Q (WE W σ) := by
    refine ⟨rfl, [], st, m, rfl, ok, ?_⟩
    have h1 : Den X.K T X.mg W (RD X.K) σ H m (g [] st) Q := h
    revert h1
    generalize g [] st = r
    intro h1
    cases r with
    | no => exact h1
    | ok d st2 => exact h1
    | ex xx st2 => exact h1
  refine PySem.W.callWith_K0 I.kIn hk ?_
  have b := hb s [] I.kIn rfl
  refine wpAny_call (codeAny_mono (F.run X.A X.stack s H ⟨[], []⟩ [] [] Q (WE W σ) hgd hr I.env0 b .nil q) fun r s' hq => ?_)
  cases r with
  | error e => exact passAt tk σ pins H s e s' I hq
  | ok fl =>
    cases fl with
    | ret u => exact I.after hq
    | next => exact False.elim hq
    | brk => exact False.elim hq
    | cont => exact False.elim hq
/-- g(lambda: e), of g as a def of the text -/
theorem j_heardF {a : Str} {st : Stmt} {gd : FuncData} {c P gA : Addr} {Ng : List Str} {params : Arguments} {body : Expr} {scope : Scope} {lpos p1 p2 p3 p4 p5 p6 : Pos} {j kt : Nat} {s0 : Str} {mt : Str → Str → Option Bool} {names : List Str} {l : List SC} {h0 : ExceptHandler} {hds : List ExceptHandler} {fb : EX} (k : Nat)
    (F : Fun X.K x x st gA gd) (Sg : FnScope Ng [a] (defScope st)) (hb : L2.Binds X.K gd [a] []) (hgd : X.A.guards = some []) (hg : Gl X x) (hm : X.mg x = some (.ref gA)) (hNg : Ng[0]? = some a) (hva : Vis (defScope st) a)
    (hbg : defBody st = [.Try [.Return (some (.Tuple [.Constant (.str s0) j p1, .Call (.Name a p2) [] [] p3] kt p4)) p5] (h0 :: hds) [] [] p6])
    (hcl : ∀ (cdv : Value) (s : Shared) (H : Hp), JCls (cxOf C8.CX0 X.prog X.w X.K X.mg X.base Ng x (defScope st) gA cdv X.A X.stack s H C8.E0).nox T mt names (h0 :: hds) l)
    (TB : TabB X.base X.mg c P) (hcode : X.env.code = .ref c) (hmT : (P, X.env.qual ++ "<lambda>") ∈ T) (hu : ∀ p ∈ T, p.1 = P → p.2 = X.env.qual ++ "<lambda>") (hr : Room (k + 2) X.A) (L : lamSB X.env.scope scope = true) (hdef : defaultsOf params X.env = ([], []))
    (hbind : ∀ (q : Str) (cl : List (Str × Addr)) (pm cv ctv : Value), bindArgs (PySem.W.kla_fn "<lambda>" q params body scope cl pm cv ctv) ⟨[], []⟩ = pure [])
    (hbody : ∀ (A : Around) (outer : List PySem.Env) (s : Shared) (H : Hp) (E : XK) (f c' : Addr), A.guards = some [] → Room k (A.deeper (lamEnv X scope s.heap.objs.size f c')) → J (lamCx X A outer s H E scope f c') T (fun cls d _ H' => E cls d H') body fb)
    (hdb : (x == ("__debug__" : Str)) = false := by decide) (hd : (a == ("__debug__" : Str)) = false := by decide) (hcd : (a == ("__classdict__" : Str)) = false := by decide) :
    J X T W (.Call (.Name x p) [.Lambda params body scope lpos] [] pos) (eHeard s0 Ng.length mt names l fb) := by
  obtain ⟨oc, od, kV, doc, pm, an, cdv, ct, osl, rfl, lk, hcdI⟩ := F.ex
  exact j_heard hgd hg hm F.kp lk hcdI hb Sg hNg hva hbg (hcl cdv) TB hcode hmT hu hr (lamS_by L) hdef hbind hbody hdb hd hcd
theorem tall_nil {Q : Addr × Str → Prop} : ∀ p ∈ ([] : List (Addr × Str)), Q p := fun _ h => by cases h
theorem tall_cons {Q : Addr × Str → Prop} {q : Addr × Str} {l : List (Addr × Str)} (h : Q q) (r : ∀ p ∈ l, Q p) : ∀ p ∈ q :: l, Q p := fun p hp => by
  rcases List.mem_cons.mp hp with rfl | hp
  · exact h
  · exact r p hp
def handlersOf (st : Stmt) : List ExceptHandler := match defBody st with
  | [.Try _ h _ _ _] => h
  | _ => []
end
end Mm

namespace Mm
open PySem L2 PySem.Spec PyProof.Rows
/-- a part of the text without the objects at ts -/
def dropK (ts : List Addr) (K : PySem.W.Frag) : PySem.W.Frag := K.filter fun q => !ts.contains q.1
theorem dropK_look {ts : List Addr} {a : Addr} : ∀ {K : PySem.W.Frag}, (dropK ts K).lookup a = if ts.contains a = true then none else K.lookup a
  | [] => by
    show (none : Option Obj) = _
    split <;> rfl
  | (b, o) :: r => by
    have ih := dropK_look (ts := ts) (a := a) (K := r)
    unfold dropK at ih ⊢
    by_cases hb : ts.contains b = true
    · rw [List.filter_cons_of_neg (by simpa using hb), ih]
      by_cases ha : ts.contains a = true
      · rw [if_pos ha, if_pos ha]
      · rw [if_neg ha, if_neg ha]
        have hne : (a == b) = false := by
          apply beq_eq_false_iff_ne.mpr
          intro e
          rw [e] at ha
          exact ha hb
        simp [List.lookup, hne]
    · rw [List.filter_cons_of_pos (by simpa using hb)]
      by_cases hab : (a == b) = true
      · have e : a = b := by simpa using hab
        subst e
        rw [if_neg hb]
        simp [List.lookup]
      · have hab' : (a == b) = false := by simpa using hab
        simp only [List.lookup, hab']
        exact ih
theorem dropK_in {ts : List Addr} {K : PySem.W.Frag} {h : Heap} (X : K.In h) : (dropK ts K).In h := fun a o e => by
  rw [dropK_look] at e
  split at e
  · cases e
  · exact X a o e
theorem dropK_none {ts : List Addr} {K : PySem.W.Frag} {a : Addr} (h : a ∈ ts) : (dropK ts K).lookup a = none := by
  rw [dropK_look, if_pos (by simpa using h)]
/-- the table that a code object names -/
def tabAt (o : Obj) : Option Value := match o.data with
  | .fields vs => vs[11]?
  | _ => none
/-- the object is a code object with its table at P -/
def codeHdB (o : Obj) (c P : Addr) : Bool := match o with
  | ⟨.type t, _, .fields vs, _⟩ => decide (t = "code") && decide (vs[11]? = some (.ref P)) && decide (vs.getD 11 .none = .ref P) && (match vs.getD 18 .none with | .str _ _ => true | _ => false) && (match vs.getD 7 .none with | .int _ _ => true | _ => false) &&
    (match vs.getD 9 .none with | .bool _ => true | _ => false) && (match vs.getD 10 .none with | .int _ _ => true | _ => false) && decide (c ≠ P)
  | _ => false
theorem codeHd_of {K : PySem.W.Frag} {h : Heap} {c P : Addr} {o : Obj} (X : K.In h) (lo : K.lookup c = some o) (hb : codeHdB o c P = true) : PySem.W.CodeHd h c P := by
  obtain ⟨oc, od, dt, sl⟩ := o
  cases oc with
  | type t =>
    cases dt with
    | fields vs =>
      simp only [codeHdB, Bool.and_eq_true, decide_eq_true_eq] at hb
      obtain ⟨⟨⟨⟨⟨⟨⟨h1, h2⟩, h3⟩, h4⟩, h5⟩, h6⟩, h7⟩, h8⟩ := hb
      subst h1
      split at h4
      · rename_i f tf e4
        split at h5
        · rename_i i ti e5
          split at h6
          · rename_i b e6
            split at h7
            · rename_i tx tt e7
              exact ⟨_, vs, _, _, _, _, _, _, _, X _ _ lo, rfl, rfl, h2, h3, e4, e5, e6, e7, h8⟩
            · cases h7
          · cases h6
        · cases h5
      · cases h4
    | _ => cases hb
  | _ => cases dt <;> cases hb
theorem call_nil {Q : Addr × Addr → Prop} : ∀ p ∈ ([] : List (Addr × Addr)), Q p := fun _ h => by cases h
theorem call_cons {Q : Addr × Addr → Prop} {q : Addr × Addr} {l : List (Addr × Addr)} (h : Q q) (r : ∀ p ∈ l, Q p) : ∀ p ∈ q :: l, Q p := fun p hp => by
  rcases List.mem_cons.mp hp with rfl | hp
  · exact h
  · exact r p hp
end Mm

namespace Mm
open PySem
/-! ### steps of loops -/
theorem for_nil {g : Sto → Bool} {t : TX} {body : SX} {e : Env} {st : Sto} (h : g st = true) : forL g t body [] e st = .nx e st := by
  rw [forL, if_pos h]
theorem for_nx {g : Sto → Bool} {t : TX} {body : SX} {d : D} {ds : List D} {e e1 e2 : Env} {st st2 : Sto} {r : RS} (h : g st = true) (ht : t d e = some e1) (hb : body e1 st = .nx e2 st2) (hr : forL g t body ds e2 st2 = r) : forL g t body (d :: ds) e st = r := by
  rw [forL, if_pos h, ht]; simp only; rw [hb]; exact hr
theorem for_brk {g : Sto → Bool} {t : TX} {body : SX} {d : D} {ds : List D} {e e1 e2 : Env} {st st2 : Sto} (h : g st = true) (ht : t d e = some e1) (hb : body e1 st = .brk e2 st2) : forL g t body (d :: ds) e st = .nx e2 st2 := by
  rw [forL, if_pos h, ht]; simp only; rw [hb]
theorem for_ret {g : Sto → Bool} {t : TX} {body : SX} {d x : D} {ds : List D} {e e1 : Env} {st st2 : Sto} (h : g st = true) (ht : t d e = some e1) (hb : body e1 st = .ret x st2) : forL g t body (d :: ds) e st = .ret x st2 := by
  rw [forL, if_pos h, ht]; simp only; rw [hb]
/-- every turn goes on, and leaves the store -/
theorem for_all {g : Sto → Bool} {t : TX} {body : SX} {st : Sto} (I : Env → Prop) (hg : g st = true) : ∀ (ds : List D) (e : Env), I e → (∀ d ∈ ds, ∀ e, I e → ∃ e1 e2, t d e = some e1 ∧ body e1 st = .nx e2 st ∧ I e2) → ∃ e2, forL g t body ds e st = .nx e2 st ∧ I e2
  | [], e, hi, _ => ⟨e, for_nil hg, hi⟩
  | d :: ds, e, hi, h => by
    obtain ⟨e1, e2, h1, h2, h3⟩ := h d (by simp) e hi
    obtain ⟨e3, h4, h5⟩ := for_all I hg ds e2 h3 (fun d' hd => h d' (by simp [hd]))
    exact ⟨e3, for_nx hg h1 h2 h4, h5⟩
theorem wh_no {c : BX} {body : SX} {n : Nat} {e : Env} {st st1 : Sto} (h : c e st = .ok false st1) : whL c body (n + 1) e st = .nx e st1 := by
  rw [whL, h]
theorem wh_go {c : BX} {body : SX} {n : Nat} {e e2 : Env} {st st1 st2 : Sto} {r : RS} (h : c e st = .ok true st1) (hb : body e st1 = .nx e2 st2) (hr : whL c body n e2 st2 = r) : whL c body (n + 1) e st = r := by
  rw [whL, h]; simp only; rw [hb]; exact hr
theorem up_succ (a j : Nat) : intsUp (a : Nat) (j + 1) = .int (a : Nat) :: intsUp ((a + 1 : Nat) : Int) j := rfl
/-- an invariant of each turn -/
theorem for_inv {g : Sto → Bool} {t : TX} {body : SX} (I : Env → Sto → Prop) (hg : ∀ e s, I e s → g s = true) : ∀ (ds : List D) (e : Env) (s : Sto), I e s → (∀ d ∈ ds, ∀ e s, I e s → ∃ e1 e2 s2, t d e = some e1 ∧ body e1 s = .nx e2 s2 ∧ I e2 s2) → ∃ e2 s2, forL g t body ds e s = .nx e2 s2 ∧ I e2 s2
  | [], e, s, hi, _ => ⟨e, s, for_nil (hg e s hi), hi⟩
  | d :: ds, e, s, hi, h => by
    obtain ⟨e1, e2, s2, h1, h2, h3⟩ := h d (by simp) e s hi
    obtain ⟨e3, s3, h4, h5⟩ := for_inv I hg ds e2 s2 h3 (fun d' hd => h d' (by simp [hd]))
    exact ⟨e3, s3, for_nx (hg e s hi) h1 h2 h4, h5⟩
/-- a comprehension that keeps nothing -/
theorem lc_none {g : Sto → Bool} {t : TX} {c : BX} {f : EX} {n : Nat} {e0 : Env} {st : Sto} (hg : g st = true) : ∀ ds : List D, (∀ d ∈ ds, ∃ e1, t d e0 = some e1 ∧ c e1 st = .ok false st) → lcL g t c f n e0 ds st = .ok st
  | [], _ => by rw [lcL, if_pos hg]
  | d :: ds, h => by
    obtain ⟨e1, h1, h2⟩ := h d (by simp)
    rw [lcL, if_pos hg, h1]
    simp only
    rw [h2]
    exact lc_none hg ds (fun d' hd => h d' (by simp [hd]))
theorem lc_empty {own : List Nat} {src : IX} {t : TX} {c : BX} {f : EX} {e : Env} {st st1 : Sto} {s : Src} (hs : src e st = .ok s st1) (hg : s.ok (st1 ++ [Cell.lst []]) = true) (h : ∀ d ∈ s.items, ∃ e1, t d (wipeE e own) = some e1 ∧ c e1 (st1 ++ [Cell.lst []]) = .ok false (st1 ++ [Cell.lst []])) :
    eLc own src t c f e st = .ok (.ref st1.length) (st1 ++ [Cell.lst []]) := by
  unfold eLc
  rw [hs]
  simp only
  rw [lc_none hg s.items h]
/-- [.. for .. if ..] != [] where nothing is kept -/
theorem ne_empty {a : EX} {e : Env} {st st1 : Sto} {i : Nat} (h : a e st = .ok (.ref i) st1) (hi : st1[i]? = some (.lst [])) : bB (e2 oNe a (eLst aN)) e st = .ok false (st1 ++ [Cell.lst []]) := by
  have hl : i < st1.length := (List.getElem?_eq_some_iff.mp hi).1
  have h1 : eqF (st1 ++ [Cell.lst []]) (.ref i) (.ref st1.length) = some (decide (([] : List Int) = [])) := eq_ints (by rw [List.getElem?_append_left hl, hi]; rfl) (by simp [cellItems])
  simp only [bB, e2, h, R.bind, eLst, aN, oNe, h1]
  rfl
/-- a new list is handed back -/
theorem fin_list {st r : Sto} {xs : List D} (h : lowDs st.length xs = true) : fin st (.ref st.length) (st ++ Cell.lst xs :: r) = .ok (.ref st.length) (st ++ [Cell.lst xs]) := by
  unfold fin
  rw [if_pos (.inl (by simp)), if_neg (by simp [lowD])]
  simp [h]
theorem fn_list {n : Nat} {body : SX} {ds : List D} {st r : Sto} {xs : List D} (hd : flatDs xs = true) (h : body (ds.map some ++ List.replicate (n - ds.length) none) st = .ret (.ref st.length) (st ++ Cell.lst xs :: r)) : fnS n body ds st = .ok (.ref st.length) (st ++ [Cell.lst xs]) := fn_ret h (fin_list (lows_flat _ _ hd))
/-! ### repr of what is not too great -/
mutual
def okP : PyData → Bool
  | .none | .bool _ => true
  | .int i => decide (i.natAbs < 10 ^ 60)
  | .str x => x.cps.toList.all fun c => decide (c < 16 ^ 8)
  | .list xs | .tuple xs => okPs xs
  | .dict _ => false
def okPs : List PyData → Bool
  | [] => true
  | x :: xs => okP x && okPs xs
end
theorem shown_nat (n : Nat) (h : n < 10 ^ 60) : (PyData.shown (.int (n : Nat))).length ≤ 60 := by
  simp only [PyData.shown]
  exact PyProof.Rows.toString_length_le (v := (n : Int)) (by omega) (by decide) (by
    have : (n : Int) < ((10 ^ 60 : Nat) : Int) := Int.ofNat_lt.mpr h
    exact this)
theorem ofString_len (a b : String) : (Str.ofString (a ++ b)).length = (Str.ofString a).length + (Str.ofString b).length := by
  simp only [PyProof.Rows.ofString_length, String.toList_append, List.length_append]
theorem shown_int (i : Int) (h : i.natAbs < 10 ^ 60) : (PyData.shown (.int i)).length ≤ 61 := by
  cases i with
  | ofNat n => have := shown_nat n h; exact Nat.le_succ_of_le this
  | negSucc n =>
    have h2 : n + 1 < 10 ^ 60 := h
    have h3 := shown_nat (n + 1) h2
    simp only [PyData.shown] at h3 ⊢
    have e1 : toString (Int.negSucc n) = "-" ++ toString ((n + 1 : Nat) : Int) := rfl
    show (Str.ofString (toString (Int.negSucc n))).length ≤ 61
    rw [e1, ofString_len]
    have h4 : (Str.ofString "-").length = 1 := by rw [PyProof.Rows.ofString_length]; rfl
    have h5 : (Str.ofString (toString ((n + 1 : Nat) : Int))).length ≤ 60 := h3
    omega
mutual
theorem okP_leaves : ∀ d : PyData, okP d = true → d.leavesShort 61 = true
  | .none, _ => rfl
  | .bool _, _ => rfl
  | .int i, h => decide_eq_true (shown_int i (of_decide_eq_true h))
  | .str _, h => h
  | .list xs, h => okPs_leaves xs h
  | .tuple xs, h => okPs_leaves xs h
  | .dict _, h => by cases h
theorem okPs_leaves : ∀ d : List PyData, okPs d = true → PyData.leavesShortAll 61 d = true
  | [], _ => rfl
  | x :: xs, h => by
    simp only [okPs, Bool.and_eq_true] at h
    simp only [PyData.leavesShortAll, okP_leaves x h.1, okPs_leaves xs h.2, Bool.and_self]
end
theorem log_int (i : Int) (h : i.natAbs < 10 ^ 60) : i.natAbs.log2 < 1920 := by
  by_cases h0 : i.natAbs = 0
  · rw [h0]; decide
  · exact (Nat.log2_lt h0).mpr (Nat.lt_of_lt_of_le h (by decide +kernel))
mutual
theorem okP_show : ∀ d : PyData, okP d = true → d.showable = true ∧ d.hasDict = false
  | .none, _ => ⟨rfl, rfl⟩
  | .bool _, _ => ⟨rfl, rfl⟩
  | .int i, h => ⟨decide_eq_true (log_int i (of_decide_eq_true h)), rfl⟩
  | .str _, _ => ⟨rfl, rfl⟩
  | .list xs, h => okPs_show xs h
  | .tuple xs, h => okPs_show xs h
  | .dict _, h => by cases h
theorem okPs_show : ∀ d : List PyData, okPs d = true → PyData.showableAll d = true ∧ PyData.hasDictAll d = false
  | [], _ => ⟨rfl, rfl⟩
  | x :: xs, h => by
    simp only [okPs, Bool.and_eq_true] at h
    obtain ⟨h1, h2⟩ := okP_show x h.1
    obtain ⟨h3, h4⟩ := okPs_show xs h.2
    exact ⟨by simp only [PyData.showableAll, h1, h3, Bool.and_self], by simp only [PyData.hasDictAll, h2, h4, Bool.or_self]⟩
end
theorem repr_ok {st : Sto} {d : D} {p : PyData} (h : pyS st d = some p) (ho : okP p = true) (hd : p.depth ≤ 60) (hb : p.bulk ≤ 200000) : oRepr [d] st = some (.str p.shown, st) := by
  have h1 := okP_show p ho
  have h2 := PyData.shown_le_bulk 61 (by decide) p (okP_leaves p ho)
  have h3 : p.shown.length ≤ 16000000 := by omega
  simp only [oRepr, h, h1.1, h1.2, hd, h3, decide_true, Bool.not_false, Bool.and_self, if_true, reprD]
theorem okPs_ints : ∀ ns : List Int, (∀ n ∈ ns, n.natAbs < 10 ^ 60) → okPs (ns.map PyData.int) = true
  | [], _ => rfl
  | n :: r, h => by
    have h1 := h n (by simp)
    simp only [List.map, okPs, okP, h1, decide_true, okPs_ints r (fun x hx => h x (by simp [hx])), Bool.and_self]
theorem bulk_ints : ∀ ns : List Int, PyData.bulkAll (ns.map PyData.int) = ns.length
  | [] => rfl
  | n :: r => by simp only [List.map, PyData.bulkAll, PyData.bulk, bulk_ints r, List.length_cons]; omega
theorem eqD_of {st : Sto} {x y : D} {p q : PyData} (h1 : pyS st x = some p) (h2 : pyS st y = some q) (s1 : SeqAt.shaped p = true) (s2 : SeqAt.shaped q = true) : eqD st x y = some (p.eqv q) := by
  simp only [eqD, h1, h2, s1, s2, Bool.and_self, if_true]
theorem eqF_tup {st : Sto} {xs ys : List D} {p q : List PyData} {b : Bool} (h1 : pys xs = some p) (h2 : pys ys = some q) (s1 : SeqAt.shaped (.tuple p) = true) (s2 : SeqAt.shaped (.tuple q) = true) (hb : (PyData.tuple p).eqv (.tuple q) = b) : eqF st (.tup xs) (.tup ys) = some b := by
  have h := eqD_of (st := st) (x := .tup xs) (y := .tup ys) (p := .tuple p) (q := .tuple q) (by simp only [pyS, py, h1]; rfl) (by simp only [pyS, py, h2]; rfl) s1 s2
  rw [hb] at h
  exact h
theorem fin_app {st r : Sto} {d : D} (h : flatD d = true) : fin st d (st ++ r) = .ok d st := by
  unfold fin
  rw [if_pos (.inl (by simp)), if_pos (low_flat _ d h)]
  simp
theorem fn_flat {n : Nat} {body : SX} {ds : List D} {st r : Sto} {d : D} (hd : flatD d = true) (h : body (ds.map some ++ List.replicate (n - ds.length) none) st = .ret d (st ++ r)) : fnS n body ds st = .ok d st := fn_ret h (fin_app hd)
theorem eqD_tints {st : Sto} {a b : List Int} : eqD st (.tup (a.map D.int)) (.tup (b.map D.int)) = some (decide (a = b)) := by
  simp only [eqD, pyS, py, pys_ints, Option.map, shaped_tints, PyData.eqv, eqv_ints, Bool.and_self, if_true]
theorem eqD_t0 {st : Sto} : eqD st (.tup []) (.tup []) = some true := eqD_tints (a := []) (b := [])
theorem eqD_tc {st : Sto} {n : Int} {r : List Int} : eqD st (.tup (.int n :: r.map D.int)) (.tup []) = some false := eqD_tints (a := n :: r) (b := [])
mutual
theorem lowD_mono {n m : Nat} (h : n ≤ m) : ∀ d : D, lowD n d = true → lowD m d = true
  | .ref i, q => by
    simp only [lowD, decide_eq_true_eq] at q ⊢
    omega
  | .tup xs, q => lowDs_mono h xs q
  | .non, _ => rfl
  | .bl _, _ => rfl
  | .int _, _ => rfl
  | .str _, _ => rfl
theorem lowDs_mono {n m : Nat} (h : n ≤ m) : ∀ ds : List D, lowDs n ds = true → lowDs m ds = true
  | [], _ => rfl
  | d :: ds, q => by
    simp only [lowDs, Bool.and_eq_true] at q ⊢
    exact ⟨lowD_mono h d q.1, lowDs_mono h ds q.2⟩
end
theorem lowC_mono {n m : Nat} (h : n ≤ m) : ∀ c : Cell, lowC n c = true → lowC m c = true
  | .lst xs, q => lowDs_mono h xs q
  | .ro xs, q => lowDs_mono h xs q
theorem lowS_push {n : Nat} {st : Sto} {xs : List D} (h : lowS n st = true) (hx : flatDs xs = true) : lowS (n + 1) (st ++ [Cell.lst xs]) = true := by
  simp only [lowS, List.all_append, Bool.and_eq_true] at h ⊢
  refine ⟨?_, by simp only [List.all_cons, List.all_nil, lowC, lows_flat _ _ hx, Bool.and_self]⟩
  rw [List.all_eq_true] at h ⊢
  exact fun c hc => lowC_mono (Nat.le_succ n) c (h c hc)
/-! ### a pool and what stands behind it -/
theorem pst_len {rest st : Sto} (h : Pst rest st) : st.length = 4 + rest.length := by
  obtain ⟨xs, sl, ks, a, b, _, _, _, _, _, _, rfl⟩ := h
  simp [pst]; omega
theorem pst_push {rest st : Sto} (h : Pst rest st) (c : Sto) : Pst (rest ++ c) (st ++ c) := by
  obtain ⟨xs, sl, ks, a, b, h1, h2, h3, h4, h5, h6, rfl⟩ := h
  exact ⟨xs, sl, ks, a, b, h1, h2, h3, h4, h5, h6, rfl⟩
theorem pst_get {rest st : Sto} (h : Pst rest st) (i : Nat) : st[4 + i]? = rest[i]? := by
  obtain ⟨xs, sl, ks, a, b, _, _, _, _, _, _, rfl⟩ := h
  simp [pst, show 4 + i = i + 1 + 1 + 1 + 1 by omega]
theorem pst_last {rest st : Sto} {c : Cell} (h : Pst (rest ++ [c]) st) : st[4 + rest.length]? = some c := by
  rw [pst_get h]; simp
theorem pst_set {rest st : Sto} {c c2 : Cell} (h : Pst (rest ++ [c]) st) : Pst (rest ++ [c2]) (st.set (4 + rest.length) c2) := by
  obtain ⟨xs, sl, ks, a, b, h1, h2, h3, h4, h5, h6, rfl⟩ := h
  refine ⟨xs, sl, ks, a, b, h1, h2, h3, h4, h5, h6, ?_⟩
  simp [pst, show 4 + rest.length = rest.length + 1 + 1 + 1 + 1 by omega]
theorem fin_pst {rest r st st' : Sto} {d : D} (h : Pst rest st) (hr : lowS (4 + rest.length) rest = true) (h' : Pst (rest ++ r) st') (hd : flatD d = true) : ∃ st2, fin st d st' = .ok d st2 ∧ Pst rest st2 := by
  have hl := pst_len h
  obtain ⟨xs, sl, ks, a, b, h1, h2, h3, h4, h5, h6, rfl⟩ := h'
  have e : (pst xs sl ks a b (rest ++ r)).take (4 + rest.length) = pst xs sl ks a b rest := by
    simp [pst, show 4 + rest.length = rest.length + 1 + 1 + 1 + 1 by omega]
  refine ⟨pst xs sl ks a b rest, ?_, ⟨xs, sl, ks, a, b, h1, h2, h3, h4, h5, h6, rfl⟩⟩
  have := fin_low (st := st) (st' := pst xs sl ks a b (rest ++ r)) (d := d) (by rw [hl, e]; exact low_pst h1 h2 hr) (low_flat _ d hd)
  rw [hl, e] at this
  exact this
theorem fin_lstP {rest r st st' : Sto} {xs : List D} (h : Pst rest st) (hr : lowS (4 + rest.length) rest = true) (h' : Pst (rest ++ Cell.lst xs :: r) st') (hd : flatDs xs = true) : ∃ st2, fin st (.ref (4 + rest.length)) st' = .ok (.ref (4 + rest.length)) st2 ∧ Pst (rest ++ [Cell.lst xs]) st2 := by
  have hl := pst_len h
  have hg : st'[4 + rest.length]? = some (Cell.lst xs) := by rw [pst_get h']; simp
  obtain ⟨ys, sl, ks, a, b, h1, h2, h3, h4, h5, h6, rfl⟩ := h'
  have e : (pst ys sl ks a b (rest ++ Cell.lst xs :: r)).take (4 + rest.length) = pst ys sl ks a b rest := by
    simp [pst, show 4 + rest.length = rest.length + 1 + 1 + 1 + 1 by omega]
  refine ⟨pst ys sl ks a b (rest ++ [Cell.lst xs]), ?_, ⟨ys, sl, ks, a, b, h1, h2, h3, h4, h5, h6, rfl⟩⟩
  unfold fin
  rw [hl, e]
  rw [if_pos (.inr (low_pst h1 h2 hr)), if_neg (by simp [lowD])]
  simp only [hg, lows_flat _ _ hd, if_true]
  rfl
theorem set_ok {i : Nat} {f : EX} {e : Env} {st st1 : Sto} {d : D} (h : f e st = .ok d st1) : sSet i f e st = .nx (e.set i (some d)) st1 := by
  unfold sSet; rw [h]; rfl
theorem ret_ok {f : EX} {e : Env} {st st1 : Sto} {d : D} (h : f e st = .ok d st1) : sRet f e st = .ret d st1 := by
  unfold sRet; rw [h]; rfl
theorem fin_bool (st st' : Sto) (b : Bool) : ∃ st2, fin st (.bl b) st' = .ok (.bl b) st2 := by
  unfold fin
  split
  · exact ⟨_, if_pos rfl⟩
  · exact ⟨_, rfl⟩
/-- a loop over a new list whose turns let the store grow -/
theorem for_new {src : IX} {t : TX} {body : SX} {e : Env} {st s1 : Sto} {xs : List D} {i : Nat} (I : Env → Prop) (hs : src e st = .ok ⟨xs, fun q => decide (q[i]? = s1[i]?)⟩ s1) (hi : i < s1.length) (h0 : I e)
    (h : ∀ d ∈ xs, ∀ e st, I e → ∃ e1 e2 r, t d e = some e1 ∧ body e1 st = .nx e2 (st ++ r) ∧ I e2) : ∃ e2 r, sFor src t body e st = .nx e2 (s1 ++ r) ∧ I e2 := by
  obtain ⟨e2, s2, h1, h2, r, rfl⟩ := for_inv (g := fun q => decide (q[i]? = s1[i]?)) (t := t) (body := body) (fun e s => I e ∧ ∃ r, s = s1 ++ r) (fun e s ⟨_, r, q⟩ => by subst q; rw [List.getElem?_append_left hi]; simp) xs e s1 ⟨h0, [], by simp⟩
    (fun d hd e s ⟨he, r, q⟩ => by
      subst q
      obtain ⟨e1, e2, r2, k1, k2, k3⟩ := h d hd e (s1 ++ r) he
      exact ⟨e1, e2, _, k1, k2, k3, r ++ r2, by simp⟩)
  refine ⟨e2, r, ?_, h2⟩
  unfold sFor
  rw [hs]
  exact h1
end Mm

namespace Mm
open PySem L2
/-! ### a def that calls itself -/
section
variable {P : Program} {w : World} {K : PySem.W.Frag} {mg : Str → Option Value} {base : Heap} {T : List (Addr × Str)} {CX : CXT}
theorem fnG_no {k : Nat} {f : Addr} {fd : FuncData} {ps : List Str} : FnG P w K mg base CX k f fd ps (SpG K T mg ps.length (fun _ _ => .no)) :=
  ⟨fun _ _ _ _ h => h.1, fun A outer s H args us vs Q E _ _ _ _ _ h => by
    obtain ⟨_, ds, st, m, _, _, h⟩ := h
    exact False.elim h⟩
end
/-! ### (a, *xs) -/
def aSt (a : EX) (r : AX) : AX := fun e st => (a e st).bind fun x st1 => match seqOf st1 x with
  | some xs => (r e st1).bind fun ys st2 => .ok (xs ++ ys) st2
  | none => .no
def eTupS (as : AX) : EX := fun e st => (as e st).bind fun ds st1 => if ds.length ≤ lim then .ok (.tup ds) st1 else .no
def eLstS (as : AX) : EX := fun e st => (as e st).bind fun ds st1 => if ds.length ≤ lim then .ok (.ref st1.length) (st1 ++ [.lst ds]) else .no
section
variable {X : Cx} {T : List (Addr × Str)} {W : WX} {a b c : Expr} {es : List Expr} {fa fb fc : EX} {fr : AX} {pos p2 : Pos}
abbrev JAS (X : Cx) (T : List (Addr × Str)) (W : WX) (es : List Expr) (f : AX) : Prop := PA X es (tA X.K T X.mg W f)
theorem jas_nil : JAS X T W [] aN := ja_nil.pa
theorem jas_cons (ha : J X T W a fa) (hr : JAS X T W es fr) (hs : starEach (a :: es) X.env = (false, eval a X.env) :: starEach es X.env := by rfl) : JAS X T W (a :: es) (aC fa fr) :=
  pa_weak (pa_cons ha hr hs) fun s H Q ⟨e, st, m, he, ok, h⟩ => ⟨e, st, m, he, ok, h.bind fun d v st1 H1 m1 _ l1 p1 ok1 r1 h1 =>
    ⟨e, st1, m1, he.mono l1 p1, ok1, h1.bind fun ds vs st2 H2 m2 _ l2 p2 ok2 r2 h2 => h2.of_ok (.refl H2) (.refl m2) ok2 ⟨v, vs, rfl, r1.mono l2 p2, r2⟩⟩⟩
theorem jas_star {p : Pos} (ha : J X T W a fa) (hr : JAS X T W es fr) (hs : starEach (.Starred a p :: es) X.env = (true, eval a X.env) :: starEach es X.env := by rfl) : JAS X T W (.Starred a p :: es) (aSt fa fr) :=
  pa_weak (StX.pa_star ha hr hs) fun s H Q ⟨e, st, m, he, ok, h⟩ => ⟨e, st, m, he, ok, h.bind fun d v st1 H1 m1 _ l1 p1 ok1 r1 h1 => by
    cases hx : seqOf st1 d with
    | none => simp only [hx] at h1; exact False.elim h1
    | some xs =>
      simp only [hx] at h1
      obtain ⟨a, ws, rfl, h2, h3⟩ := seq_ok ok1 r1 hx
      exact ⟨a, ws, rfl, h2.symm, e, st1, m1, he.mono l1 p1, ok1, h1.bind fun ds vs st2 H2 m2 _ l2 p2 ok2 r2 h4 => h4.of_ok (.refl H2) (.refl m2) ok2 ((h3.mono l2 p2).append r2)⟩⟩
theorem j_tupS {k : Nat} (hr : JAS X T W es fr) : J X T W (.Tuple es k pos) (eTupS fr) := pe_weak (pe_tupN hr) fun s H Q ⟨e, st, m, he, ok, h⟩ =>
  ⟨e, st, m, he, ok, h.bind fun ds vs st1 H1 m1 _ l1 p1 ok1 rs h1 => by
    by_cases hl : ds.length ≤ lim
    · simp only [if_pos hl] at h1
      exact ⟨by rw [← rs.length]; exact lim_le hl, fun p o hp ho => h1.of_ok (.new hp) (.refl m1) (ok1.new hp) ⟨p, vs, rfl, .new ho, rs.mono (.new hp) (.refl m1)⟩⟩
    · simp only [if_neg hl] at h1
      exact False.elim h1⟩
theorem j_lstS (hr : JAS X T W es fr) : J X T W (.List es pos) (eLstS fr) := pe_weak (pe_lst hr) fun s H Q ⟨e, st, m, he, ok, h⟩ =>
  ⟨e, st, m, he, ok, h.bind fun ds vs st1 H1 m1 _ l1 p1 ok1 rs h1 => by
    by_cases hl : ds.length ≤ lim
    · simp only [if_pos hl] at h1
      exact ⟨by rw [← rs.length]; exact lim_le hl, fun p hp => h1.of_ok (.new hp) (.add m1 p) (ok1.newCell hp rs) ⟨p, by rw [← ok1.len]; simp, rfl⟩⟩
    · simp only [if_neg hl] at h1
      exact False.elim h1⟩
end
end Mm

/-! ### sorted of numbers in a tuple -/
namespace SrtO
open PySem PyProof.Rows Srt
section
variable {prog : Program} {w : World} {A : Around} {E : Value → Shared → Prop} {s : Shared}
theorem gather_tup {tp : Addr} {its : List Value} {Q : List Value → Shared → Prop} (ht : s.heap.IsTuple tp its.toArray) (hz : its.length ≤ sizeLine)
    (hq : Q its { s with heap := (s.heap.push (seqObj "list" #[] 0)).update s.heap.objs.size (Obj.mapSeq (· ++ its.toArray)) }) : wpAny (model prog w) A (collect (.ref tp)) Q E s := by
  obtain ⟨ob, hob, hcl, ep, hda⟩ := id ht
  have hob2 : (s.heap.push (seqObj "list" #[] 0)).get? tp = some ob := Heap.get?_push_of_some _ hob
  have hself : (s.heap.push (seqObj "list" #[] 0)).get? s.heap.objs.size = some (seqObj "list" #[] 0) := Heap.get?_push_size _ rfl
  have hty : (Value.type "tuple" == Value.type "tuple") = true := by rfl
  unfold collect
  refine wpAny_bind (wpAny_runValue (codeAny_builtin (A := _) entry_proto_collect' ?_))
  show wpAny _ _ (do again (.builtin "list.__iadd__" ⟨[← newList [], .ref tp], []⟩)) _ _ s
  refine wpAny_bind (wpAny_newList (wpAny_pure ⟨Code.quiet_builtin _ (by decide +kernel), codeAny_builtin (A := _) entry_list_iadd' ?_⟩))
  show wpAny _ _ (Builtin.List.listExtendWith (.ref s.heap.objs.size) (.ref tp) (.ref s.heap.objs.size)) _ _ { s with heap := s.heap.push (seqObj "list" #[] 0) }
  unfold Builtin.List.listExtendWith
  refine wpAny_bind (wpAny_typeOf (T := "tuple") ⟨ob, hob2, hcl⟩ ?_)
  rw [if_pos (show _ from by rw [hty]; simp)]
  refine wpAny_bind (listItems_at hob2 hda ?_)
  refine wpAny_bind (listItems_at (n := 0) (xs := #[]) hself rfl ?_)
  rw [if_neg (show _ from by simp)]
  refine wpAny_bind (listUpdate_at (n := 0) (xs := #[]) hself rfl ?_ (Nat.zero_le _) (by show (#[] ++ its.toArray).size ≤ sizeLine + 1; simp only [Array.size_append, List.size_toArray, List.length_nil]; omega))
  refine wpAny_pure (show _ from ?_)
  show wpAny (model prog w) A (do
      let o ← load s.heap.objs.size
      match o.data with
      | .seq xs _ => pure xs.toList
      | _ => unsupported "internal:collect") Q E { s with heap := (s.heap.push (seqObj "list" #[] 0)).update s.heap.objs.size (Obj.mapSeq (· ++ its.toArray)) }
  refine wpAny_bind (wpAny_load (get?_update_seq hself _) ?_)
  show wpAny _ _ (pure ((#[] : Array Value) ++ its.toArray).toList) Q E _
  rw [show ((#[] : Array Value) ++ its.toArray).toList = its by simp]
  exact wpAny_pure hq
theorem sorted_tupO {tp : Addr} {its : List Value} {lt : Value → Value → Bool} {Q : Value → Shared → Prop} (O : Swo lt) (ht : s.heap.IsTuple tp its.toArray) (hz : its.length ≤ sizeLine)
    (hS : 2 ≤ its.length → ∀ (h1 : Heap) (a : Addr), h1.get? a = some (seqObj "list" its.toArray 0) → (∀ b o, s.heap.get? b = some o → b ≠ a ∧ h1.get? b = some o) → SortableO prog w A.in1.in1 { s with heap := h1 } a its lt)
    (hq : ∀ res : List Value, Srtd lt res → Stb lt res its → Q (.ref (s.heap.objs.size + 1)) { s with heap := sortedAll s.heap its res.toArray }) :
    wpAny (model prog w) A (call (.builtin "sorted") [.ref tp]) Q E s := by
  refine Calls.call_function_entry kind_sorted plain_sorted entry_sorted (args_sorted1 (Value.ref tp)) ?_
  unfold Builtin.«sorted»
  refine wpAny_bind (m := checkCount "sorted" 1 1 _) (wpAny_pure (show _ from ?_))
  refine wpAny_bind (gather_tup ht hz ?_)
  refine wpAny_bind (wpAny_newList (hsz := hz) ?_)
  have hn : ((s.heap.push (seqObj "list" #[] 0)).update s.heap.objs.size (Obj.mapSeq (· ++ its.toArray))).objs.size = s.heap.objs.size + 1 := by
    rw [Heap.size_update, size_push']
  have hnew : (((s.heap.push (seqObj "list" #[] 0)).update s.heap.objs.size (Obj.mapSeq (· ++ its.toArray))).push (seqObj "list" its.toArray 0)).get? (s.heap.objs.size + 1) = some (seqObj "list" its.toArray 0) := by
    rw [← hn]
    exact Heap.get?_push_size _ rfl
  have old : ∀ b o, s.heap.get? b = some o → b ≠ s.heap.objs.size + 1 ∧ (((s.heap.push (seqObj "list" #[] 0)).update s.heap.objs.size (Obj.mapSeq (· ++ its.toArray))).push (seqObj "list" its.toArray 0)).get? b = some o := fun b o q => by
    have lt : b < s.heap.objs.size := Heap.lt_size q
    refine ⟨Nat.ne_of_lt (Nat.lt_succ_of_lt lt), Heap.get?_push_of_some _ ?_⟩
    rw [Heap.get?_update_ne _ _ _ _ (Nat.ne_of_lt lt)]
    exact Heap.get?_push_of_some (seqObj "list" #[] 0) q
  show wpAny _ _ _ _ _ { s with heap := ((s.heap.push (seqObj "list" #[] 0)).update s.heap.objs.size (Obj.mapSeq (· ++ its.toArray))).push (seqObj "list" its.toArray 0) }
  rw [hn]
  refine wpAny_bind (wpAny_holding (wpAny_call_entry slot_list_sort ⟨_, hnew, rfl⟩ entry_list_sort (list_sort_ord O hnew hz (fun h2 => hS h2 _ _ hnew old) fun res h1 h2 => ⟨_, rfl, ?_⟩) (args_list_sort _)))
  exact wpAny_pure ⟨_, rfl, hq res h1 h2⟩
end
end SrtO
namespace Mm
open PySem L2
/-- the numbers in order -/
def sortI (ns : List Int) : List Int := ns.mergeSort (fun a b => decide (a ≤ b))
theorem sort_one {ns ms : List Int} (h : ms.Perm ns) (hp : ms.Pairwise (· ≤ ·)) : ms = sortI ns := by
  refine List.Perm.eq_of_pairwise (le := fun a b : Int => a ≤ b) ?_ hp ?_ (h.trans (List.mergeSort_perm ns _).symm)
  · intro a b _ _ h1 h2; omega
  · have := List.pairwise_mergeSort (le := fun a b : Int => decide (a ≤ b)) (by intro a b c h1 h2; simp only [decide_eq_true_eq] at *; omega) (by intro a b; simp only [Bool.or_eq_true, decide_eq_true_eq]; omega) ns
    exact this.imp fun h => of_decide_eq_true h
def oSorted : ON := fun ds st => match ds with
  | [d] => ((seqOf st d).bind intsOf).map fun l => (.ref st.length, st ++ [.lst ((sortI l).map .int)])
  | _ => none
section
variable {X : Cx} {T : List (Addr × Str)} {W : WX}
open PyProof.Rows in
theorem cr_sortedS : CallR X (.builtin "sorted") (fun vs H Q => ∃ (a : Addr) (ns : List Int), vs = [V.ref a] ∧ (SqL X.K H a (ns.map V.int) ∨ SqT X.K H a (ns.map V.int)) ∧ ∀ p, H p = none → Q (.ref p) (upd H p (.lst ((sortI ns).map V.int)))) := by
  intro pins s σ H vs us Q I rr h
  obtain ⟨a, ns, rfl, hs, q⟩ := h
  rcases hs with hs | hs
  · exact cr_sortedI pins s σ H _ us Q I rr ⟨a, ns, rfl, hs, fun ms p h1 h2 h3 => by rw [sort_one h1 h2]; exact q p h3⟩
  · obtain ⟨its, rv, ht, hz⟩ := I.tuple hs
    rw [Vals.ref1 rr]
    have hi := rv.ints
    refine SrtO.sorted_tupO SrtO.swo_int ht (by rw [← rv.length]; exact hz) (fun h2 h₁ a' _ _ => SrtO.ints_sortable hi h2) fun res h1 h2 => ?_
    obtain ⟨k1, k2, k3⟩ := SrtO.ints_out hi h1 h2
    obtain ⟨ep, he'⟩ := PyProof.Rows.sortedAll_at s.heap its res.toArray
    have hl : ((res.map SrtO.iv).map V.int).length ≤ sizeLine := by
      rw [List.length_map, k2.length_eq, ← List.length_map (f := V.int)]
      exact hz
    have e := sort_one k2 k3
    refine ⟨.ref _, upd H (s.heap.objs.size + 1) (.lst ((res.map SrtO.iv).map V.int)), I.laid (t' := s.toks) (fun _ _ => PyProof.Rows.sortedAll_old) (Nat.le_succ _) ⟨hl, res, ep, vals_of_ints k1, he'⟩, rfl, ?_⟩
    rw [e]
    exact q _ (I.hok.fresh (Nat.le_succ _))
theorem cre_sorted : CallR X (.builtin "sorted") (rN X.K T oSorted) := cr_of fun ds st m H xs r Q rx ok ho q => by
  match ds, ho, rx with
  | [d], ho, rx =>
    simp only [oSorted, Option.map_eq_some_iff] at ho
    obtain ⟨l, h1, rfl⟩ := ho
    obtain ⟨ys, h2, h3⟩ := seq_bind h1
    obtain ⟨a, ws, rfl, h4, h5⟩ := one_seq ok rx h2
    have h6 := reps_ints h5 h3
    subst h6
    exact ⟨_, cr_sortedS, a, l, rfl, h4, deno_lst q ok (Reps.of_ints (sortI l))⟩
end
end Mm

namespace Mm
open PySem L2
/-! ### zip of two lists or tuples -/
def SqK (t : Bool) (K : PySem.W.Frag) (H : Hp) (a : Addr) (xs : List V) : Prop := match t with
  | true => SqT K H a xs
  | false => SqL K H a xs
def SeqsK (t : Bool) (h : Heap) (a : Addr) (its : Array Value) : Prop := match t with
  | true => h.IsTuple a its
  | false => h.IsList a its
def IterK (t : Bool) (h : Heap) (it a : Addr) (i : Nat) : Prop := match t with
  | true => h.IsTupleIter it a i
  | false => h.IsListIter it a i
def iterO (t : Bool) (a : Addr) : Obj := match t with
  | true => { cls := .type "tuple_iterator", data := .fields #[.ref a, .int 0 0] }
  | false => { cls := .type "list_iterator", data := .fields #[.ref a, .int 0 0] }
section
variable {X : Cx} {pins : List (Addr × Obj)} {s : Shared} {σ : L2.St} {H : Hp} {a : Addr} {xs ys : List V}
theorem sqk_inj {t : Bool} (I : Inv X pins σ H s) (h : SqK t X.K H a xs) (h' : SqK t X.K H a ys) : xs = ys := by
  cases t with
  | true => exact I.tuple_inj h h'
  | false => exact I.list_inj h h'
theorem sqk_items {t : Bool} (I : Inv X pins σ H s) (h : SqK t X.K H a xs) : ∃ its, Vals xs its ∧ SeqsK t s.heap a its.toArray ∧ a < s.heap.objs.size := by
  cases t with
  | true => obtain ⟨its, r, p, _⟩ := I.tuple h; obtain ⟨o, e, _⟩ := id p; exact ⟨its, r, p, Heap.lt_size e⟩
  | false => obtain ⟨its, r, p, _⟩ := I.list h; exact ⟨its, r, p.isList, p.lt⟩
theorem iterk_at {t : Bool} {h h' : Heap} {it a : Addr} {i : Nat} (x : IterK t h it a i) (k : ∀ o, h.get? it = some o → h'.get? it = some o) : IterK t h' it a i := by
  cases t with
  | true => exact Heap.IsTupleIter.at x k
  | false => exact Heap.IsListIter.at x k
theorem iterk_obj {t : Bool} {h : Heap} {it a : Addr} {i : Nat} (x : IterK t h it a i) : ∃ o, h.get? it = some o ∧ ∀ v, o.data ≠ .cell v := by
  cases t with
  | true => obtain ⟨o, e, _, d⟩ := x; exact ⟨o, e, fun v q => by rw [d] at q; cases q⟩
  | false => obtain ⟨o, e, _, d⟩ := x; exact ⟨o, e, fun v q => by rw [d] at q; cases q⟩
theorem iterk_new {t : Bool} {h : Heap} {it a : Addr} (x : h.get? it = some (iterO t a)) : IterK t h it a 0 := by
  cases t with
  | true => exact ⟨_, x, rfl, rfl⟩
  | false => exact ⟨_, x, rfl, rfl⟩
theorem drawsK (t : Bool) {prog : Program} {w : World} {A : Around} (hh : A.handled = none) (it a : Addr) (hne : a ≠ it) (items : Array Value) :
    Draws prog w A it [it, a] items.size (fun i v => items[i]? = some v) (fun i h => IterK t h it a i ∧ SeqsK t h a items) := by
  cases t with
  | true => exact Draws.tuple hh it a hne items
  | false => exact Draws.list hh it a hne items
theorem beginsK (t : Bool) (a : Addr) (items : Array Value) : Begins (.ref a) (iterO t a) fun h => SeqsK t h a items := by
  cases t with
  | true => exact begins_tuple a items
  | false => exact begins_list a items
end
/-- the two sequences as they stand at each turn, the items in new pairs -/
def ItzM (ta tb : Bool) (K : PySem.W.Frag) (a b : Addr) : It :=
  ⟨fun i H => ∃ (xs ys : List V) (x y : V), SqK ta K H a xs ∧ SqK tb K H b ys ∧ xs[i]? = some x ∧ ys[i]? = some y,
    fun i H v H' => ∃ p x y, v = .ref p ∧ H p = none ∧ H' = upd H p (.tup [x, y]) ∧ (∀ xs, SqK ta K H a xs → xs[i]? = some x) ∧ ∀ ys, SqK tb K H b ys → ys[i]? = some y,
    fun i H => ∃ xs ys : List V, SqK ta K H a xs ∧ SqK tb K H b ys ∧ i = min xs.length ys.length⟩
def zipSt (ta tb : Bool) (a b : Addr) (N : Nat) (i : Nat) (h : Heap) : Prop := IsZip h (N + 4) (N + 2) (N + 3) .none ∧ IsTupOf2 h (N + 2) (.ref N) (.ref (N + 1)) ∧ (∃ x y, IsTupOf2 h (N + 3) x y) ∧ IterK ta h N a i ∧ IterK tb h (N + 1) b i
theorem mem5 {N c : Nat} (h : c ∈ [N + 4, N + 2, N + 3, N, N + 1]) : N ≤ c ∧ (c = N + 4 ∨ c = N + 2 ∨ c = N + 3 ∨ c = N ∨ c = N + 1) := by
  have e : c = N + 4 ∨ c = N + 2 ∨ c = N + 3 ∨ c = N ∨ c = N + 1 := by simpa using h
  exact ⟨by omega, e⟩
theorem turn_zipM {P : Program} {w : World} {K : PySem.W.Frag} {elts : List Expr} {kk : Nat} {tpos : Pos} {a b : Addr} {N : Nat} (ta tb : Bool) (ha : a < N) (hb : b < N) :
    Turn P w K (.Tuple elts kk tpos) (ItzM ta tb K a b) [N + 4, N + 2, N + 3, N, N + 1] (N + 4) (zipSt ta tb a b N) where
  mem := by simp
  obj := fun i h st c hc => by
    obtain ⟨hz, hT, ⟨x, y, hO⟩, k1, k2⟩ := st
    rcases (mem5 hc).2 with q | q | q | q | q
    · rw [q]; exact ⟨_, hz, fun v q => nomatch q⟩
    · rw [q]; exact ⟨_, hT, fun v q => nomatch q⟩
    · rw [q]; exact ⟨_, hO, fun v q => nomatch q⟩
    · rw [q]; exact iterk_obj k1
    · rw [q]; exact iterk_obj k2
  keep := fun i h h' st k => by
    obtain ⟨hz, hT, ⟨x, y, hO⟩, k1, k2⟩ := st
    exact ⟨k _ (by simp) _ hz, k _ (by simp) _ hT, ⟨x, y, k _ (by simp) _ hO⟩, iterk_at k1 fun o e => k _ (by simp) o e, iterk_at k2 fun o e => k _ (by simp) o e⟩
  item := by
    intro X hP hw hK hc i pins s σ H E I hf st hg
    subst hP hw hK
    obtain ⟨hz, hT, hO, k1, k2⟩ := st
    obtain ⟨xs, ys, x, y, hqx, hqy, hx, hy⟩ := hg
    obtain ⟨its, rv, p, _⟩ := sqk_items I hqx
    obtain ⟨its2, rv2, p2, _⟩ := sqk_items I hqy
    have hh : X.A.in1.handled = none := I.ok.hd hc
    have Gz := GoesN.zip2 (prog := X.prog) (w := X.w) (A := X.A) (elts := elts) (x1 := kk) (pos := tpos) (zip_sep2 (N := N) (fp1 := [a]) (fp2 := [b]) (by simpa using ha) (by simpa using hb)) (drawsK ta hh N a (Nat.ne_of_lt ha) its.toArray) (drawsK tb hh (N + 1) b (Nat.ne_of_lt (Nat.lt_succ_of_lt hb)) its2.toArray)
    have hi : i < min its.toArray.size its2.toArray.size := by
      have l1 := (List.getElem?_eq_some_iff.mp hx).1
      have l2 := (List.getElem?_eq_some_iff.mp hy).1
      rw [rv.length] at l1
      rw [rv2.length] at l2
      simp only [List.size_toArray]
      omega
    refine Gz.goes i s _ E hi ⟨hz, hT, hO, ⟨k1, p⟩, ⟨k2, p2⟩⟩ fun v h' tk hY st' hk _ => ?_
    obtain ⟨q, u, u2, rfl, hq, hu, hu2, hqt⟩ := hY
    obtain ⟨hz', hT', hO', ⟨k1', _⟩, ⟨k2', _⟩⟩ := st'
    obtain ⟨u', e1, r1⟩ := rv.get hx
    obtain ⟨u2', e2, r2⟩ := rv2.get hy
    have e1' : u' = u := by simpa [e1] using hu
    have e2' : u2' = u2 := by simpa [e2] using hu2
    subst e1' e2'
    have new : ObjOk X.prog X.w (upd H q (.tup [x, y])) h' q (.tup [x, y]) := ⟨by show 2 ≤ sizeLine; decide, [u', u2'], .cons r1 (.cons r2 .nil), hqt⟩
    have I1 := I.turnedNew (t' := tk) (ch := [N + 4, N + 2, N + 3, N, N + 1]) (h' := h') (fun c o hc' q' => hk c o (fun z => hc' (by
      have e : c = N + 4 ∨ c = N + 3 ∨ c = N ∨ c = N + 1 := by simpa using z
      rcases e with e | e | e | e <;> simp [e])) q') hf hq new
    refine ⟨.ref q, _, I1, rfl, ⟨q, x, y, rfl, I.hok.fresh hq, rfl, fun l hl => by rw [sqk_inj I hl hqx]; exact hx, fun l hl => by rw [sqk_inj I hl hqy]; exact hy⟩, ⟨hz', hT', hO', k1', k2'⟩, fun c hcm => ?_⟩
    have hcl : c < s.heap.objs.size := by
      obtain ⟨x0, y0, hO0⟩ := hO
      rcases (mem5 hcm).2 with z | z | z | z | z
      · rw [z]; exact Heap.lt_size hz
      · rw [z]; exact Heap.lt_size hT
      · rw [z]; exact Heap.lt_size hO0
      · rw [z]; obtain ⟨_, e, _⟩ := iterk_obj k1; exact Heap.lt_size e
      · rw [z]; obtain ⟨_, e, _⟩ := iterk_obj k2; exact Heap.lt_size e
    rw [upd_ne (Nat.ne_of_lt (Nat.lt_of_lt_of_le hcl hq))]
    exact (hf c hcm).1
  done := by
    intro X hP hw hK hc i pins s σ H E I hf st hg
    subst hP hw hK
    obtain ⟨hz, hT, hO, k1, k2⟩ := st
    obtain ⟨xs, ys, hqx, hqy, he⟩ := hg
    obtain ⟨its, rv, p, _⟩ := sqk_items I hqx
    obtain ⟨its2, rv2, p2, _⟩ := sqk_items I hqy
    have hh : X.A.in1.handled = none := I.ok.hd hc
    have Gz := GoesN.zip2 (prog := X.prog) (w := X.w) (A := X.A) (elts := elts) (x1 := kk) (pos := tpos) (zip_sep2 (N := N) (fp1 := [a]) (fp2 := [b]) (by simpa using ha) (by simpa using hb)) (drawsK ta hh N a (Nat.ne_of_lt ha) its.toArray) (drawsK tb hh (N + 1) b (Nat.ne_of_lt (Nat.lt_succ_of_lt hb)) its2.toArray)
    have hi : i = min its.toArray.size its2.toArray.size := by
      rw [he, rv.length, rv2.length]
      simp only [List.size_toArray]
    subst hi
    refine Gz.stops s _ E ⟨hz, hT, hO, ⟨k1, p⟩, ⟨k2, p2⟩⟩ fun h' tk hk _ => ?_
    exact I.turnedL (t' := tk) (ch := [N + 4, N + 2, N + 3, N, N + 1]) (fun c o hc' q' => hk c o (fun z => hc' (by
      have e : c = N + 4 ∨ c = N + 3 ∨ c = N ∨ c = N + 1 := by simpa using z
      rcases e with e | e | e | e <;> simp [e])) q') hf
  self := fun A i s Q E st h => wpAny_pyIter_zip st.1 h
def zipD : List D → List D → List D
  | a :: as, b :: bs => .tup [a, b] :: zipD as bs
  | _, _ => []
theorem zipD_len : ∀ (a b : List D), (zipD a b).length = min a.length b.length
  | [], _ => by simp [zipD]
  | _ :: _, [] => by simp [zipD]
  | a :: as, b :: bs => by simp [zipD, zipD_len as bs, Nat.succ_min_succ]
theorem zipD_get : ∀ (a b : List D) (i : Nat) (x y : D), a[i]? = some x → b[i]? = some y → (zipD a b)[i]? = some (.tup [x, y])
  | [], _, _, _, _, h, _ => by simp at h
  | _ :: _, [], _, _, _, _, h => by simp at h
  | a :: as, b :: bs, 0, x, y, h1, h2 => by simp at h1 h2; subst h1 h2; simp [zipD]
  | a :: as, b :: bs, i + 1, x, y, h1, h2 => by
    rw [zipD, List.getElem?_cons_succ]
    exact zipD_get as bs i x y (by simpa using h1) (by simpa using h2)
def seqG (st : Sto) : D → Option (List D × (Sto → Bool))
  | .tup xs => some (xs, fun _ => true)
  | .ref i => (cellItems st[i]?).map fun xs => (xs, fun s => decide (s[i]? = st[i]?))
  | _ => none
def iZp (a b : EX) : IX := fun e st => (a e st).bind fun x st1 => (b e st1).bind fun y st2 => match seqG st2 x, seqG st2 y with
  | some (xs, gx), some (ys, gy) => .ok ⟨zipD xs ys, fun s => gx s && gy s⟩ st2
  | _, _ => .no
theorem seqG_ok {K : PySem.W.Frag} {T : List (Addr × Str)} {H : Hp} {m : List Addr} {st : Sto} {d : D} {x : V} {xs : List D} {g : Sto → Bool} (ok : Ok K T H m st) (r : Rep K H m d x) (h : seqG st d = some (xs, g)) :
    ∃ (t : Bool) (a : Addr), x = .ref a ∧ (∃ ws, SqK t K H a ws) ∧ ∀ H' m' st', Le H H' → Pre m m' → Ok K T H' m' st' → g st' = true → ∃ vs, SqK t K H' a vs ∧ Reps K H' m' xs vs := by
  cases d with
  | tup ds =>
    cases h
    obtain ⟨a, vs, rfl, h1, h2⟩ := r
    exact ⟨true, a, rfl, ⟨vs, h1.sq⟩, fun H' m' st' l p _ _ => ⟨vs, l.sqT h1.sq, Reps.mono l p h2⟩⟩
  | ref i =>
    obtain ⟨a, hm, rfl⟩ := r
    simp only [seqG, Option.map_eq_some_iff] at h
    obtain ⟨ys, h1, h2⟩ := h
    cases h2
    obtain ⟨a', vs, q1, q2, q3⟩ := cellItems_ok ok h1
    rw [hm] at q1
    cases q1
    refine ⟨false, a, rfl, ⟨vs, q2⟩, fun H' m' st' l p ok' hg => ?_⟩
    have hg : st'[i]? = st[i]? := of_decide_eq_true hg
    obtain ⟨a', vs', z1, z2, z3⟩ := cellItems_ok ok' (by rw [hg]; exact h1)
    rw [p.get hm] at z1
    cases z1
    exact ⟨vs', z2, z3⟩
  | non | bl _ | str _ | int _ => cases h
section
open PyProof.Rows
variable {X : Cx} {T : List (Addr × Str)} {W : WX} {a b : Expr} {fa fb : EX} {pos p2 tpos : Pos} {elts : List Expr} {kk : Nat}
theorem ji_zip (hg : Gl X "zip") (hmm : X.mg "zip" = none) (ha : J X T W a fa) (hb : J X T W b fb) (hs : starEach [a, b] X.env = (false, eval a X.env) :: starEach [b] X.env := by rfl) (he2 : starEach (b :: []) X.env = (false, eval b X.env) :: starEach [] X.env := by rfl) (hpl : (backTo pos (starEach [b] X.env)).any (·.1) = false := by rfl) :
    JI true X T W (.Tuple elts kk tpos) (.Call (.Name "zip" p2) [a, b] [] pos) (iZp fa fb) := by
  refine ⟨fun pins s σ H RR I hw => ?_⟩
  obtain ⟨e, st, m, hen, ok, h⟩ := hw
  have key : tA X.K T X.mg W (aC fa (aC fb aN)) σ H (fun vs H1 => ∃ (ta tb : Bool) (x y : Addr), vs = [.ref x, .ref y] ∧ (∃ ws, SqK ta X.K H1 x ws) ∧ (∃ ws, SqK tb X.K H1 y ws) ∧ RR (ItzM ta tb X.K x y) H1) := by
    refine ⟨e, st, m, hen, ok, ?_⟩
    have h' : DenI true X.K T X.mg W σ H m ((aC fa (aC fb aN) e st).bind fun ds st2 => match ds with
        | [x, y] => (match seqG st2 x, seqG st2 y with
          | some (xs, gx), some (ys, gy) => .ok ⟨zipD xs ys, fun s => gx s && gy s⟩ st2
          | _, _ => .no)
        | _ => .no) RR := by
      have : ((aC fa (aC fb aN) e st).bind fun ds st2 => match ds with
        | [x, y] => (match seqG st2 x, seqG st2 y with
          | some (xs, gx), some (ys, gy) => R.ok (⟨zipD xs ys, fun s => gx s && gy s⟩ : Src) st2
          | _, _ => .no)
        | _ => .no) = iZp fa fb e st := by
        simp only [aC, aN, iZp]
        cases fa e st with
        | ok x st1 => simp only [Mm.R.bind]; cases fb e st1 <;> rfl
        | ex _ _ => rfl
        | no => rfl
      rw [this]
      exact h
    refine deni_of h' fun ds vs st1 H1 m1 hf l p ok1 rs h1 => ?_
    match ds, rs, h1 with
    | [dx, dy], rs, h1 =>
      obtain ⟨x, r, rfl, rx, y, r2, rfl, ry, rfl⟩ := rs
      cases hx : seqG st1 dx with
      | none => simp only [hx] at h1; exact False.elim h1
      | some px =>
        cases hy : seqG st1 dy with
        | none => simp only [hx, hy] at h1; exact False.elim h1
        | some py =>
          obtain ⟨xs, gx⟩ := px
          obtain ⟨ys, gy⟩ := py
          simp only [hx, hy] at h1
          obtain ⟨ta, ax, rfl, wx, fx⟩ := seqG_ok ok1 rx hx
          obtain ⟨tb, ay, rfl, wy, fy⟩ := seqG_ok ok1 ry hy
          refine ⟨ta, tb, ax, ay, rfl, wx, wy, h1 _ H1 m1 (.refl H1) (.refl m1) ok1 fun H' m' st' l2 p2 ok2 g2 => ?_⟩
          simp only [Bool.and_eq_true] at g2
          obtain ⟨vs, q1, q2⟩ := fx H' m' st' l2 p2 ok2 g2.1
          obtain ⟨ws, q3, q4⟩ := fy H' m' st' l2 p2 ok2 g2.2
          have e1 := Reps.length q2
          have e2 := Reps.length q4
          simp only [zipD_len]
          refine ⟨fun i hi => ⟨vs, ws, vs[i]'(by omega), ws[i]'(by omega), q1, q3, List.getElem?_eq_getElem _, List.getElem?_eq_getElem _⟩, ⟨vs, ws, q1, q3, by rw [e1, e2]⟩, fun i x H2 hi hY => ?_⟩
          obtain ⟨q, u, v, rfl, hq, rfl, k1, k2⟩ := hY
          obtain ⟨du, g1, r1⟩ := q2.back (k1 vs q1)
          obtain ⟨dv, g3, r3⟩ := q4.back (k2 ws q3)
          exact ⟨Le.new hq, ok2.new hq, _, zipD_get xs ys i du dv g1 g3, q, [u, v], rfl, .of upd_same, u, [v], rfl, r1.mono (Le.new hq) (.refl _), v, [], rfl, r3.mono (Le.new hq) (.refl _), rfl⟩
    | [], _, h1 => exact False.elim h1
    | [_], _, h1 => exact False.elim h1
    | _ :: _ :: _ :: _, _, h1 => exact False.elim h1
  refine Call_ (ld_blt I hg hmm boot_zip (PyProof.Rows.callWith_type1 (thn ((ja_cons ha (ja_cons hb ja_nil he2) hs).pa.run pos pins s σ H _ I key) fun us s1 ⟨vs, H1, I1, r1, q1⟩ => ?_) hs hpl))
  obtain ⟨ta, tb, x, y, rfl, ⟨ws, hqx⟩, ⟨ws2, hqy⟩, q⟩ := q1
  cases r1 with
  | cons r rr =>
    cases rr with
    | cons r' rr =>
      cases rr
      cases r
      cases r'
      obtain ⟨its, rv, p1, l1⟩ := sqk_items I1 hqx
      obtain ⟨its2, rv2, p3, l2⟩ := sqk_items I1 hqy
      refine zip_begins2 (beginsK ta x its.toArray) (beginsK tb y its2.toArray) p1 p3 fun h' hz hT hO g1 g2 hsz hk => wpAny_pyIter_zip hz ?_
      have I2 : Inv X pins σ H1 { s1 with heap := h' } := I1.kept (t' := s1.toks) hk
      exact ⟨s1.heap.objs.size + 4, [s1.heap.objs.size + 4, s1.heap.objs.size + 2, s1.heap.objs.size + 3, s1.heap.objs.size, s1.heap.objs.size + 1], _, _, H1, rfl, I2, turn_zipM ta tb l1 l2, ⟨hz, hT, ⟨_, _, hO⟩, iterk_new g1, iterk_new g2⟩, fun c hc => I1.fpOk (mem5 hc).1 (I1.hok.fresh (mem5 hc).1), q⟩
end
/-! ### xs[::-1] of a list or a tuple -/
def eRev (a : EX) : EX := fun e st => (a e st).bind fun x st1 => match x with
  | .ref i => match cellItems st1[i]? with
    | some xs => .ok (.ref st1.length) (st1 ++ [.lst xs.reverse])
    | none => .no
  | .tup xs => .ok (.tup xs.reverse) st1
  | _ => .no
section
variable {X : Cx} {T : List (Addr × Str)} {W : WX} {a : Expr} {fa : EX} {k : Nat} {p1 p2 p3 pos : Pos}
theorem j_rev (ha : J X T W a fa) : J X T W (.Subscript a (.Slice none none (some (.UnaryOp .USub (.Constant (.int 1) k p1) p2)) p3) pos) (eRev fa) :=
  pe_weak (pe_rev2 ha) fun s H Q ⟨e, st, m, he, ok, h⟩ => ⟨e, st, m, he, ok, h.bind fun d v st1 H1 m1 _ l1 q1 ok1 r1 h1 => by
    cases d with
    | ref i =>
      cases hc : cellItems st1[i]? with
      | none => simp only [hc] at h1; exact False.elim h1
      | some xs =>
        simp only [hc] at h1
        obtain ⟨a', hm, rfl⟩ := r1
        obtain ⟨a2, vs, z1, z2, z3⟩ := cellItems_ok ok1 hc
        rw [hm] at z1
        cases z1
        exact ⟨a', vs, rfl, .inr ⟨z2, fun p hp => h1.of_ok (.new hp) (.add m1 p) (ok1.newCell hp z3.reverse) ⟨p, by rw [← ok1.len]; simp, rfl⟩⟩⟩
    | tup xs =>
      obtain ⟨a', vs, rfl, z2, z3⟩ := r1
      exact ⟨a', vs, rfl, .inl ⟨z2.sq, fun p o hp ho => h1 (.ref p) _ m1 (.new hp) (.refl m1) (ok1.new hp) ⟨p, vs.reverse, rfl, .new ho, (Reps.mono (.new hp) (.refl m1) z3).reverse⟩⟩⟩
    | non => exact False.elim h1
    | bl _ => exact False.elim h1
    | str _ => exact False.elim h1
    | int _ => exact False.elim h1⟩
end
end Mm

namespace Mm
open PySem
/-! ### comprehensions over what is known -/
theorem app_get {st : Sto} {c : Cell} {r : Sto} : (st ++ c :: r)[st.length]? = some c := by simp
theorem app_set {st : Sto} {c d : Cell} {r : Sto} : (st ++ c :: r).set st.length d = st ++ d :: r := by simp
theorem app_low {st r : Sto} {i : Nat} (h : i < st.length) : (st ++ r)[i]? = st[i]? := List.getElem?_append_left h
theorem lcL_gen {g : Sto → Bool} {t : TX} {c : BX} {f : EX} {e0 : Env} {st : Sto} (p : D → Bool) (F : D → D) (hg : ∀ acc r, g (st ++ Cell.lst acc :: r) = true) : ∀ (ds acc : List D) (r : Sto), acc.length + ds.length ≤ lim →
    (∀ d ∈ ds, ∃ e1, t d e0 = some e1 ∧ (∀ acc r, ∃ r', c e1 (st ++ Cell.lst acc :: r) = .ok (p d) (st ++ Cell.lst acc :: r')) ∧ (p d = true → ∀ acc r, ∃ r', f e1 (st ++ Cell.lst acc :: r) = .ok (F d) (st ++ Cell.lst acc :: r'))) →
    ∃ r', lcL g t c f st.length e0 ds (st ++ Cell.lst acc :: r) = .ok (st ++ Cell.lst (acc ++ (ds.filter p).map F) :: r')
  | [], acc, r, _, _ => ⟨r, by rw [lcL, if_pos (hg acc r)]; simp⟩
  | d :: ds, acc, r, hl, h => by
    obtain ⟨e1, h1, h2, h3⟩ := h d (by simp)
    obtain ⟨r1, h4⟩ := h2 acc r
    simp only [List.length_cons] at hl
    by_cases hp : p d = true
    · obtain ⟨r2, h5⟩ := h3 hp acc r1
      obtain ⟨r3, h6⟩ := lcL_gen p F hg ds (acc ++ [F d]) r2 (by simp; omega) (fun x hx => h x (by simp [hx]))
      refine ⟨r3, ?_⟩
      rw [lcL, if_pos (hg acc r), h1]
      simp only
      rw [h4, hp]
      simp only
      rw [h5]
      simp only [lstOf, app_get, app_set]
      rw [if_pos (by omega), h6]
      simp [List.filter_cons, hp]
    · obtain ⟨r3, h6⟩ := lcL_gen p F hg ds acc r1 (by omega) (fun x hx => h x (by simp [hx]))
      refine ⟨r3, ?_⟩
      have hp' : p d = false := by simpa using hp
      rw [lcL, if_pos (hg acc r), h1]
      simp only
      rw [h4, hp']
      simp only
      rw [h6]
      simp [List.filter_cons, hp']
theorem lc_gen {own : List Nat} {src : IX} {t : TX} {c : BX} {f : EX} {e : Env} {st st1 : Sto} {ds : List D} {g : Sto → Bool} (p : D → Bool) (F : D → D) (hs : src e st = .ok ⟨ds, g⟩ st1) (hg : ∀ acc r, g (st1 ++ Cell.lst acc :: r) = true) (hl : ds.length ≤ lim)
    (h : ∀ d ∈ ds, ∃ e1, t d (wipeE e own) = some e1 ∧ (∀ acc r, ∃ r', c e1 (st1 ++ Cell.lst acc :: r) = .ok (p d) (st1 ++ Cell.lst acc :: r')) ∧ (p d = true → ∀ acc r, ∃ r', f e1 (st1 ++ Cell.lst acc :: r) = .ok (F d) (st1 ++ Cell.lst acc :: r'))) :
    ∃ r, eLc own src t c f e st = .ok (.ref st1.length) (st1 ++ Cell.lst ((ds.filter p).map F) :: r) := by
  obtain ⟨r, h1⟩ := lcL_gen p F hg ds [] [] (by simpa using hl) h
  refine ⟨r, ?_⟩
  unfold eLc
  rw [hs]
  simp only
  rw [h1]
  simp
theorem filt_all {α : Type} {p : α → Bool} : ∀ {l : List α}, (∀ x ∈ l, p x = true) → l.filter p = l
  | [], _ => rfl
  | x :: r, h => by rw [List.filter_cons, if_pos (h x (by simp)), filt_all fun y hy => h y (by simp [hy])]
/-- without a test -/
theorem lc_map {own : List Nat} {src : IX} {t : TX} {f : EX} {e : Env} {st st1 : Sto} {ds : List D} {g : Sto → Bool} (F : D → D) (hs : src e st = .ok ⟨ds, g⟩ st1) (hg : ∀ acc r, g (st1 ++ Cell.lst acc :: r) = true) (hl : ds.length ≤ lim)
    (h : ∀ d ∈ ds, ∃ e1, t d (wipeE e own) = some e1 ∧ ∀ acc r, ∃ r', f e1 (st1 ++ Cell.lst acc :: r) = .ok (F d) (st1 ++ Cell.lst acc :: r')) :
    ∃ r, eLc own src t bYes f e st = .ok (.ref st1.length) (st1 ++ Cell.lst (ds.map F) :: r) := by
  obtain ⟨r, h1⟩ := lc_gen (c := bYes) (f := f) (t := t) (own := own) (fun _ => true) F hs hg hl (fun d hd => by
    obtain ⟨e1, h1, h2⟩ := h d hd
    exact ⟨e1, h1, fun acc r => ⟨r, rfl⟩, fun _ => h2⟩)
  rw [filt_all (fun _ _ => rfl)] at h1
  exact ⟨r, h1⟩
/-- a list just made is what is walked -/
theorem seq_new {a : EX} {e : Env} {st s1 : Sto} {xs : List D} {i : Nat} (h : a e st = .ok (.ref i) s1) (hi : s1[i]? = some (.lst xs)) : iSeq a e st = .ok ⟨xs, fun q => decide (q[i]? = s1[i]?)⟩ s1 := by
  unfold iSeq
  rw [h]
  simp only [R.bind, cellItems, hi]
theorem guard_app {s1 r : Sto} {i : Nat} (h : i < s1.length) : (fun q : Sto => decide (q[i]? = s1[i]?)) (s1 ++ r) = true := by
  simp only [app_low h, decide_true]
theorem pys_len : ∀ {xs : List D} {ps : List PyData}, pys xs = some ps → ps.isEmpty = xs.isEmpty
  | [], _, h => by cases h; rfl
  | x :: r, ps, h => by
    simp only [pys] at h
    cases hx : py x with
    | none => rw [hx] at h; cases h
    | some p =>
      rw [hx] at h
      cases hr : pys r with
      | none => rw [hr] at h; cases h
      | some q => rw [hr] at h; cases h; rfl
theorem eqv_nil : ∀ ps : List PyData, (PyData.list ps).eqv (.list []) = ps.isEmpty
  | [] => rfl
  | _ :: _ => rfl
theorem shaped_nil : SeqAt.shaped (.list []) = true := by decide +kernel
theorem eqF_nil {st : Sto} {i j : Nat} {xs : List D} {ps : List PyData} (hi : st[i]? = some (.lst xs)) (hj : st[j]? = some (.lst [])) (hp : pys xs = some ps) (hs : SeqAt.shaped (.list ps) = true) : eqF st (.ref i) (.ref j) = some xs.isEmpty := by
  have h1 : pyS st (.ref i) = some (.list ps) := by simp only [pyS, cellItems, hi, hp]; rfl
  have h2 : pyS st (.ref j) = some (.list []) := by simp only [pyS, cellItems, hj]; rfl
  have h3 := eqD_of h1 h2 hs shaped_nil
  rw [eqv_nil, pys_len hp] at h3
  exact h3
/-- a list == [] -/
theorem eq_nil {a : EX} {e : Env} {st s1 : Sto} {i : Nat} {xs : List D} {ps : List PyData} (h : a e st = .ok (.ref i) s1) (hi : s1[i]? = some (.lst xs)) (hp : pys xs = some ps) (hs : SeqAt.shaped (.list ps) = true) : e2 oEq a (eLst aN) e st = .ok (.bl xs.isEmpty) (s1 ++ [Cell.lst []]) := by
  have hl : i < s1.length := (List.getElem?_eq_some_iff.mp hi).1
  have h1 := eqF_nil (st := s1 ++ [Cell.lst []]) (i := i) (j := s1.length) (by rw [app_low hl]; exact hi) (by simp) hp hs
  simp only [e2, h, R.bind, eLst, aN, oEq, h1]
  rfl
theorem ne_nil {a : EX} {e : Env} {st s1 : Sto} {i : Nat} {xs : List D} {ps : List PyData} (h : a e st = .ok (.ref i) s1) (hi : s1[i]? = some (.lst xs)) (hp : pys xs = some ps) (hs : SeqAt.shaped (.list ps) = true) : e2 oNe a (eLst aN) e st = .ok (.bl (!xs.isEmpty)) (s1 ++ [Cell.lst []]) := by
  have hl : i < s1.length := (List.getElem?_eq_some_iff.mp hi).1
  have h1 := eqF_nil (st := s1 ++ [Cell.lst []]) (i := i) (j := s1.length) (by rw [app_low hl]; exact hi) (by simp) hp hs
  simp only [e2, h, R.bind, eLst, aN, oNe, h1]
  rfl
theorem pys_tups : ∀ ls : List (List Int), pys (ls.map fun l => .tup (l.map .int)) = some (ls.map fun l => .tuple (l.map .int))
  | [] => rfl
  | l :: r => by
    have h := pys_tups r
    simp only [List.map, pys, py, pys_ints, h, Option.bind, Option.map]
theorem lay_tups : ∀ ls : List (List Int), PyData.canLayAll0 (ls.map fun l => .tuple (l.map .int)) = true
  | [] => rfl
  | l :: r => by simp only [List.map, PyData.canLayAll0, PyData.canLay0, lay_ints, lay_tups r, Bool.and_self]
theorem dep_tups : ∀ ls : List (List Int), PyData.depthAll (ls.map fun l => .tuple (l.map .int)) ≤ 1
  | [] => by decide
  | l :: r => by
    have := dep_tups r
    simp only [List.map, PyData.depthAll, PyData.depth, dep_ints]
    omega
theorem shaped_tups (ls : List (List Int)) : SeqAt.shaped (.list (ls.map fun l => .tuple (l.map .int))) = true := by
  have h1 := dep_tups ls
  have h2 : PyData.depth (.list (ls.map fun l => .tuple (l.map .int))) ≤ 64 := by simp only [PyData.depth]; omega
  simp only [SeqAt.shaped, PyData.canLay0, lay_tups, h2, decide_true, Bool.and_self]
theorem shaped_ttups (ls : List (List Int)) : SeqAt.shaped (.tuple (ls.map fun l => .tuple (l.map .int))) = true := by
  have h1 := dep_tups ls
  have h2 : PyData.depth (.tuple (ls.map fun l => .tuple (l.map .int))) ≤ 64 := by simp only [PyData.depth]; omega
  simp only [SeqAt.shaped, PyData.canLay0, lay_tups, h2, decide_true, Bool.and_self]
theorem if_no {c : BX} {f : SX} {e : Env} {st st1 : Sto} (h : c e st = .ok false st1) : sIf c f sNx e st = .nx e st1 := by
  unfold sIf; rw [h]; rfl
/-- a comprehension that makes nothing else -/
theorem lcL_pure {g : Sto → Bool} {t : TX} {c : BX} {f : EX} {e0 : Env} {st : Sto} (p : D → Bool) (F : D → D) (hg : ∀ acc, g (st ++ [Cell.lst acc]) = true) : ∀ (ds acc : List D), acc.length + ds.length ≤ lim →
    (∀ d ∈ ds, ∃ e1, t d e0 = some e1 ∧ (∀ acc, c e1 (st ++ [Cell.lst acc]) = .ok (p d) (st ++ [Cell.lst acc])) ∧ (p d = true → ∀ acc, f e1 (st ++ [Cell.lst acc]) = .ok (F d) (st ++ [Cell.lst acc]))) →
    lcL g t c f st.length e0 ds (st ++ [Cell.lst acc]) = .ok (st ++ [Cell.lst (acc ++ (ds.filter p).map F)])
  | [], acc, _, _ => by rw [lcL, if_pos (hg acc)]; simp
  | d :: ds, acc, hl, h => by
    obtain ⟨e1, h1, h2, h3⟩ := h d (by simp)
    simp only [List.length_cons] at hl
    by_cases hp : p d = true
    · have h6 := lcL_pure p F hg ds (acc ++ [F d]) (by simp; omega) (fun x hx => h x (by simp [hx]))
      rw [lcL, if_pos (hg acc), h1]
      simp only
      rw [h2 acc, hp]
      simp only
      rw [h3 hp acc]
      simp only [lstOf, app_get, app_set]
      rw [if_pos (by omega), h6]
      simp [List.filter_cons, hp]
    · have h6 := lcL_pure p F hg ds acc (by omega) (fun x hx => h x (by simp [hx]))
      have hp' : p d = false := by simpa using hp
      rw [lcL, if_pos (hg acc), h1]
      simp only
      rw [h2 acc, hp']
      simp only
      rw [h6]
      simp [List.filter_cons, hp']
theorem lc_pure {own : List Nat} {src : IX} {t : TX} {c : BX} {f : EX} {e : Env} {st st1 : Sto} {ds : List D} {g : Sto → Bool} (p : D → Bool) (F : D → D) (hs : src e st = .ok ⟨ds, g⟩ st1) (hg : ∀ acc, g (st1 ++ [Cell.lst acc]) = true) (hl : ds.length ≤ lim)
    (h : ∀ d ∈ ds, ∃ e1, t d (wipeE e own) = some e1 ∧ (∀ acc, c e1 (st1 ++ [Cell.lst acc]) = .ok (p d) (st1 ++ [Cell.lst acc])) ∧ (p d = true → ∀ acc, f e1 (st1 ++ [Cell.lst acc]) = .ok (F d) (st1 ++ [Cell.lst acc]))) :
    eLc own src t c f e st = .ok (.ref st1.length) (st1 ++ [Cell.lst ((ds.filter p).map F)]) := by
  unfold eLc
  rw [hs]
  simp only
  rw [lcL_pure p F hg ds [] (by simpa using hl) h]
  simp
def flatC : Cell → Bool
  | .lst xs => flatDs xs
  | .ro xs => flatDs xs
def flatS (r : Sto) : Bool := r.all flatC
theorem flatS_app {a b : Sto} (h1 : flatS a = true) (h2 : flatS b = true) : flatS (a ++ b) = true := by
  simp only [flatS, List.all_append, Bool.and_eq_true] at *
  exact ⟨h1, h2⟩
theorem lowS_flat (n : Nat) {r : Sto} (h : flatS r = true) : lowS n r = true := by
  simp only [flatS, lowS, List.all_eq_true] at *
  intro c hc
  have := h c hc
  cases c with
  | lst xs => exact lows_flat n xs this
  | ro xs => exact lows_flat n xs this
end Mm

namespace Mm
open PySem L2 PySem.Spec PyProof.Rows
/-! ### isinstance(n, C), n a caught exception -/
theorem obj_xd {P : Program} {w : World} {H : Hp} {h : Heap} {a : Addr} {fs : List (Str × V)} (ok : HOk P w H h) (e : H a = some (.xd fs)) : ∃ o, h.get? a = some o := by
  have := ok a _ e
  obtain ⟨m, hm, _⟩ := this
  obtain ⟨o, _, _, h1, _⟩ := hm
  exact ⟨o, h1⟩
theorem call_isx {X : Cx} {a C : Addr} {oe : Obj} {d : Option Addr} {pn : List (Addr × Obj)} (hX : XisC X.K C) (hz : Zc (.ref C) d oe) (hf : ∃ vs, oe.data = Data.fields vs) :
    CallR (X.suite a ((a, oe) :: pn)) (.builtin "isinstance") (fun xs H Q => ∃ c u b dd fs, xs = [.ref a, c] ∧ ClsV c u ∧ PySem.W.kitOne X.K (.ref C) u = some b ∧ d = some dd ∧ H dd = some (.xd fs) ∧ Q (.bl b) H) := by
  intro pins s σ H xs us Q I hv ⟨c, u, b, dd, fs, e1, e2, e3, e4, e5, q⟩
  subst e1 e4
  cases hv with
  | cons r1 rr =>
    cases rr with
    | cons r2 rr =>
      cases rr
      cases r1
      rename_i u2
      have eu : u2 = u := by
        cases e2 with
        | ty n => exact r2
        | own C => exact r2
      subst eu
      obtain ⟨od, hod⟩ := obj_xd I.hok e5
      obtain ⟨p1, _⟩ := I.pin (a, oe) (by simp)
      obtain ⟨vs, hvs⟩ := hf
      have hI : PySem.W.InstAt s.heap a oe C (some od) := ⟨p1, hz.1, by simp [PySem.W.notCls, hvs], by rw [hz.2]; exact hod⟩
      exact PySem.W.kia_one (PySem.W.kitx_exc hX.ci hX.ga hX.gg hX.exC hX.cd hX.sp hX.tk hX.mr) I.kIn hI e3 (by intro h; cases h) (fun tk => ⟨.bl b, H, I.kept (t' := tk) (fun _ _ h => h), rfl, q⟩)
section
variable {X : Cx} {T : List (Addr × Str)} {names : List Str}
theorem pe_isx_own {a C Cr : Addr} {oe : Obj} {d : Option Addr} {pn : List (Addr × Obj)} {n R : Str} {i : Nat} {p p1 p2 pos : Pos} (hX : XisC X.K C) (hk : PySem.W.kitOne X.K (.ref C) (.ref Cr) = some true) (hz : Zc (.ref C) d oe) (hf : ∃ vs, oe.data = Data.fields vs)
    (hg : Gl X "isinstance") (hm : X.mg "isinstance" = none) (hN : X.N[i]? = some n) (hv : Vis X.env.scope n) (hgR : Gl X R) (hmR : X.mg R = some (.ref Cr))
    (hdR : (R == ("__debug__" : Str)) = false := by decide) (hd : (n == ("__debug__" : Str)) = false := by decide) (hcd : (n == ("__classdict__" : Str)) = false := by decide)
    (he : starEach ((.Name n p1) :: [.Name R p2]) X.env = (false, eval (.Name n p1) X.env) :: starEach [.Name R p2] X.env := by rfl) (he2 : starEach (.Name R p2 :: []) X.env = (false, eval (.Name R p2) X.env) :: starEach [] X.env := by rfl) (hpl : (backTo pos (starEach [.Name R p2] X.env)).any (·.1) = false := by rfl) :
    PE (X.suite a ((a, oe) :: pn)) (.Call (.Name "isinstance" p) [.Name n p1, .Name R p2] [] pos) (fun σ H Q => σ[i]? = some (some (.ref a)) ∧ (∃ dd fs, d = some dd ∧ H dd = some (.xd fs)) ∧ Q (.bl true) H) :=
  pe_weak (pe_callB (X := X.suite a ((a, oe) :: pn)) (call_isx hX hz hf) hg hm (by decide +kernel) (pa_cons (pe_var (X := X.suite a ((a, oe) :: pn)) (pos := p1) (i := i) hN hv hd hcd) (pa_cons (pe_glob (X := X.suite a ((a, oe) :: pn)) (v := .ref Cr) hgR hmR rfl hdR) pa_nil he2) he) (by decide) (by decide) he hpl) fun σ H Q ⟨h1, ⟨dd, fs, h2, h3⟩, h4⟩ =>
    ⟨.ref a, h1, .ref Cr, .ref Cr, true, dd, fs, rfl, .own Cr, hk, h2, h3, h4⟩
theorem pe_isx_ty {a C : Addr} {oe : Obj} {d : Option Addr} {pn : List (Addr × Obj)} {n R : Str} {t : String} {i : Nat} {p p1 p2 pos : Pos} (hX : XisC X.K C) (hk : PySem.W.kitOne X.K (.ref C) (.type t) = some true) (hz : Zc (.ref C) d oe) (hf : ∃ vs, oe.data = Data.fields vs)
    (hg : Gl X "isinstance") (hm : X.mg "isinstance" = none) (hN : X.N[i]? = some n) (hv : Vis X.env.scope n) (hgR : Gl X R) (hmR : X.mg R = none) (hbR : bootBuiltins R = some (.type t)) (hnR : R ≠ ("__name__" : Str) := by decide)
    (hdR : (R == ("__debug__" : Str)) = false := by decide) (hd : (n == ("__debug__" : Str)) = false := by decide) (hcd : (n == ("__classdict__" : Str)) = false := by decide)
    (he : starEach ((.Name n p1) :: [.Name R p2]) X.env = (false, eval (.Name n p1) X.env) :: starEach [.Name R p2] X.env := by rfl) (he2 : starEach (.Name R p2 :: []) X.env = (false, eval (.Name R p2) X.env) :: starEach [] X.env := by rfl) (hpl : (backTo pos (starEach [.Name R p2] X.env)).any (·.1) = false := by rfl) :
    PE (X.suite a ((a, oe) :: pn)) (.Call (.Name "isinstance" p) [.Name n p1, .Name R p2] [] pos) (fun σ H Q => σ[i]? = some (some (.ref a)) ∧ (∃ dd fs, d = some dd ∧ H dd = some (.xd fs)) ∧ Q (.bl true) H) :=
  pe_weak (pe_callB (X := X.suite a ((a, oe) :: pn)) (call_isx hX hz hf) hg hm (by decide +kernel) (pa_cons (pe_var (X := X.suite a ((a, oe) :: pn)) (pos := p1) (i := i) hN hv hd hcd) (pa_cons (pe_bltn (X := X.suite a ((a, oe) :: pn)) (v := .ty t) hgR hmR hbR rfl hnR hdR) pa_nil he2) he) (by decide) (by decide) he hpl) fun σ H Q ⟨h1, ⟨dd, fs, h2, h3⟩, h4⟩ =>
    ⟨.ref a, h1, .ty t, .type t, true, dd, fs, rfl, .ty t, hk, h2, h3, h4⟩
/-- f = ('s', n.what, isinstance(n, R) and isinstance(n, V)), n the exception -/
theorem su_found {i u : Nat} {n f s R V : Str} {t : String} {Cr : Addr} {j kt : Nat} {p1 p2 p3 p4 q1 q2 q3 q4 q5 q6 q7 q8 q9 pf pos : Pos} (hnd : X.N.Nodup) (hN : X.N[i]? = some n) (hv : Vis X.env.scope n) (hu : X.N[u]? = some f) (hl : Loc X.env.scope f)
    (hx : ∀ y ∈ names, ∀ Cy, X.mg y = some (.ref Cy) → XfC X.K Cy ∧ PySem.W.findIn X.K (.ref Cy) "what" = some none)
    (hi : ∀ y ∈ names, ∀ Cy, X.mg y = some (.ref Cy) → XisC X.K Cy ∧ PySem.W.kitOne X.K (.ref Cy) (.ref Cr) = some true ∧ PySem.W.kitOne X.K (.ref Cy) (.type t) = some true)
    (hg : Gl X "isinstance") (hm : X.mg "isinstance" = none) (hgR : Gl X R) (hmR : X.mg R = some (.ref Cr)) (hgV : Gl X V) (hmV : X.mg V = none) (hbV : bootBuiltins V = some (.type t))
    (hfn : X.fn f = true ∨ X.env.scope.names.lookup f = some .local := by first | exact .inl rfl | exact .inr rfl | assumption) (hnV : V ≠ ("__name__" : Str) := by decide)
    (hdR : (R == ("__debug__" : Str)) = false := by decide) (hdV : (V == ("__debug__" : Str)) = false := by decide) (hd : (n == ("__debug__" : Str)) = false := by decide) (hcd : (n == ("__classdict__" : Str)) = false := by decide)
    (hb : attributeBase (.Name n p2) "what" X.env (eval (.Name n p2) X.env) = eval (.Name n p2) X.env := by rfl) :
    Suite X [.Assign [.Name f pf] (.Tuple [.Constant (.str s) j p1, .Attribute (.Name n p2) "what" p3, .BoolOp .And [.Call (.Name "isinstance" q1) [.Name n q2, .Name R q3] [] q4, .Call (.Name "isinstance" q5) [.Name n q6, .Name V q7] [] q8] q9] kt p4) pos]
      (tsOf X T names (some i) fun x e st => .nx (e.set u (some (.tup [.str s, x.what, .bl true]))) st) := by
  intro a oe cls d pn hz hf
  by_cases hy : ∃ y, y ∈ names ∧ ∃ Cy, X.mg y = some (.ref Cy) ∧ cls = .ref Cy
  · obtain ⟨y, hy, Cy, g, rfl⟩ := hy
    obtain ⟨hX, hno⟩ := hx y hy Cy g
    obtain ⟨hI, hk1, hk2⟩ := hi y hy Cy g
    have ht := pe_xf (X := X) (pos := p3) hX hno hz hf (pe_var (X := X.suite a ((a, oe) :: pn)) (pos := p2) (i := i) hN hv hd hcd) hb
    have ha := pe_isx_own (X := X) (a := a) (p := q1) (p1 := q2) (p2 := q3) (pos := q4) (pn := pn) hI hk1 hz hf hg hm hN hv hgR hmR hdR hd hcd
    have hc := pe_isx_ty (X := X) (a := a) (p := q5) (p1 := q6) (p2 := q7) (pos := q8) (pn := pn) hI hk2 hz hf hg hm hN hv hgV hmV hbV hnV hdV hd hcd
    have hand := pe_and (pos := q9) (rest := []) ha (pe_one (pos := q9) hc)
    refine pss_weak (pss_one (ps_set (X := X.suite a ((a, oe) :: pn)) hnd hu hl (pe_tupN (pa_cons pe_str (pa_cons ht (pa_cons hand pa_nil)))) (by rfl) hfn)) fun D σ H ⟨x, e, st, m, he, hs, ok, xr, hx, hd⟩ => ?_
    obtain ⟨C2, d2, v, fs, e1, e2, rfl, e4, hw, rv⟩ := xr
    cases e1
    refine ⟨.ref a, hs i rfl, rfl, rfl, d2, _, v, rfl, e4, hw, hs i rfl, ⟨d2, _, rfl, e4⟩, true, rfl, hs i rfl, ⟨d2, _, rfl, e4⟩, ?_, fun p o hp ho => ?_⟩
    · show 3 ≤ sizeLine
      exact lim_le (by decide)
    · exact hd _ (upd H p (.frz o (.tup [.str s, v, .bl true]))) m (Le.new hp) (.refl m) (ok.new hp) ((he.mono (Le.new hp) (.refl m)).set u (d := .tup [.str s, x.what, .bl true]) ⟨p, [.str s, v, .bl true], rfl, .new ho, .str s, [v, .bl true], rfl, rfl, v, [.bl true], rfl, rv.mono (Le.new hp) (.refl m), .bl true, [], rfl, rfl, rfl⟩)
  · refine pss_weak pss_never fun D σ H ⟨x, e, st, m, he, hs, ok, xr, hx, hd⟩ => ?_
    obtain ⟨C2, d2, v, fs, e1, e2, _⟩ := xr
    exact hy ⟨x.cls, hx, C2, e2, e1⟩
end
end Mm

namespace Mm
open PySem L2 PySem.Spec PyProof.Rows LamX
/-! ### g(lambda: e), g a def that calls it in a try, keeps what it catches and hands it back behind -/
def eHeardN (s0 : Str) (n u : Nat) (mt : Str → Str → Option Bool) (names : List Str) (l : List SC) (fb : EX) : EX := fun e st => match fb e st with
  | .ok d st1 => .ok (.tup [.str s0, d]) st1
  | .ex x st1 => if names.contains x.cls = true then (match goC mt x (List.replicate n none) st1 l with | .nx e2 st2 => (match e2[u]? with | some (some d) => .ok d st2 | _ => .no) | _ => .no) else .no
  | .no => .no
section
variable {X : Cx} {T : List (Addr × Str)} {W : WX} {pins : List (Addr × Obj)} {σ : L2.St} {H : Hp} {s : Shared}
theorem j_heardN {x a f0 : Str} {un : Nat} {p7 p8 : Pos} {g c P : Addr} {k : Nat} {pg : Arguments} {bg : List Stmt} {sg : Scope} {dV kV doc pm cdv ct oc : Value} {an od : Option Addr} {osl : Array (Option Value)} {Ng : List Str}
    {params : Arguments} {body : Expr} {scope : Scope} {p lpos pos p1 p2 p3 p4 p5 p6 : Pos} {j kt : Nat} {s0 : Str} {mt : Str → Str → Option Bool} {names : List Str} {l : List SC} {h0 : ExceptHandler} {hds : List ExceptHandler} {fb : EX}
    (hgd : X.A.guards = some []) (hg : Gl X x) (hm : X.mg x = some (.ref g)) (hk : PySem.W.keepIn X.K (.ref g) = true)
    (lk : X.K.lookup g = some ⟨oc, od, .func (PySem.W.fnOf x x pg bg sg dV kV doc pm an cdv ct), osl⟩) (hcg : PySem.W.codeIn X.K cdv x = true) (hb : L2.Binds X.K (PySem.W.fnOf x x pg bg sg dV kV doc pm an cdv ct) [a] []) (Sg : FnScope Ng [a] sg) (hNg : Ng[0]? = some a) (hva : Vis sg a) (hNu : Ng[un]? = some f0) (hvu : Vis sg f0)
    (hbg : bg = [.Try [.Return (some (.Tuple [.Constant (.str s0) j p1, .Call (.Name a p2) [] [] p3] kt p4)) p5] (h0 :: hds) [] [] p6, .Return (some (.Name f0 p7)) p8])
    (hcl : ∀ (s : Shared) (H : Hp), JCls (cxOf C8.CX0 X.prog X.w X.K X.mg X.base Ng x sg g cdv X.A X.stack s H C8.E0).nox T mt names (h0 :: hds) l)
    (TB : TabB X.base X.mg c P) (hcode : X.env.code = .ref c) (hmT : (P, X.env.qual ++ "<lambda>") ∈ T) (hu : ∀ p ∈ T, p.1 = P → p.2 = X.env.qual ++ "<lambda>") (hr : Room (k + 2) X.A) (L : LamS X.env.scope scope) (hdef : defaultsOf params X.env = ([], []))
    (hbind : ∀ (q : Str) (cl : List (Str × Addr)) (pm cv ctv : Value), bindArgs (PySem.W.kla_fn "<lambda>" q params body scope cl pm cv ctv) ⟨[], []⟩ = pure [])
    (hbody : ∀ (A : Around) (outer : List PySem.Env) (s : Shared) (H : Hp) (E : XK) (f c' : Addr), A.guards = some [] → Room k (A.deeper (lamEnv X scope s.heap.objs.size f c')) → J (lamCx X A outer s H E scope f c') T (fun cls d _ H' => E cls d H') body fb)
    (hdb : (x == ("__debug__" : Str)) = false := by decide) (hd : (a == ("__debug__" : Str)) = false := by decide) (hcd : (a == ("__classdict__" : Str)) = false := by decide) (hdu : (f0 == ("__debug__" : Str)) = false := by decide) (hcu : (f0 == ("__classdict__" : Str)) = false := by decide) :
    J X T W (.Call (.Name x p) [.Lambda params body scope lpos] [] pos) (eHeardN s0 Ng.length un mt names l fb) := by
  subst hbg
  refine ⟨fun pins s σ H Q I h => ?_⟩
  obtain ⟨e, st, m, he, ok, h⟩ := h
  refine wpAny_Call_Name_kw (ld_glob I hg hm ?_ hdb)
  refine PySem.W.callWith_K (h₀ := X.base) I.ok.mod.kin hk ?_ (by rfl) (by rfl)
  show wpAny _ _ (spliced ((false, eval (.Lambda params body scope lpos) X.env) :: backTo pos (starEach [] X.env))) _ _ s
  refine Calls.spliced_cons (lam_make2 I TB hcode hmT hu ok.tabs hdef (L.has I.ok) fun f c' pm' ctv H1 s' I1 eN T1 hf hfn hfr hco => ?_)
  refine Calls.spliced_nil ⟨I1.kIn, ?_⟩
  have ok1 := ok.extN eN T1
  have he1 := he.mono (Le.ofN eN) (.refl m)
  have rc : codeAny (model X.prog X.w) X.A (.call (.ref g) ⟨[.ref f], []⟩) (CR C8.CX0 X.stack X.prog X.w H1 s' Q C8.E0) s' := by
    refine run_ofS (N := Ng) (ps := [a]) (us := [.ref f]) (vs := [.ref f]) lk hcg Sg hr I1.env0 (hb s' [.ref f] I1.kIn rfl) (.cons rfl .nil) rfl fun hr' => ?_
    obtain ⟨l', q1, q2⟩ := jcls_ok (W := noW) (hcl s' H1)
    have key := ps_try_cls (X := (cxOf C8.CX0 X.prog X.w X.K X.mg X.base Ng x sg g cdv X.A X.stack s' H1 C8.E0).nox) (pos := p6)
      (tb := fun W D σZ HZ => σZ[0]? = some (some (.ref f)) ∧ HZ c' = some (CodeO c' (X.env.qual ++ "<lambda>")) ∧ tE X.K T X.mg (fun cls d _ H' => W cls d σZ H') fb σ HZ (fun v H2 => 2 ≤ sizeLine ∧ ∀ q o, H2 q = none → o.dict = none → D.rt (.ref q) (upd H2 q (.frz o (.tup [.str s0, v])))))
      (body := [.Return (some (.Tuple [.Constant (.str s0) j p1, .Call (.Name a p2) [] [] p3] kt p4)) p5]) rfl rfl LamX.takes0 (fun W pn xe tk _ => ?_) q1
    · refine ⟨_, (pss_cons key (pss_one (ps_ret (pe_var (pos := p7) (i := un) hNu hvu hdu hcu)))).nox, ?_⟩
      refine ⟨?_, hco, e, st, m, he1, ok1, ?_⟩
      · have : (L2.start Ng [V.ref f]) = some (V.ref f) :: List.replicate (Ng.length - 1) none := rfl
        rw [this]; rfl
      · have h2 := h
        unfold eHeardN at h2
        revert h2
        generalize fb e st = r
        intro h2
        cases r with
        | no => exact h2
        | ok d st1 =>
          intro y H' m' le pr ok' rv
          refine ⟨lim_le (by decide), fun q o hq ho => ?_⟩
          exact h2 (.ref q) _ m' (((Le.ofN eN).trans le).trans (Le.new hq)) pr (ok'.new hq) ⟨q, [.str s0, y], rfl, .new ho, .str s0, [y], rfl, rfl, y, [], rfl, rv.mono (Le.new hq) (.refl m'), rfl⟩
        | ex x st1 =>
          simp only at h2
          by_cases hc : names.contains x.cls = true
          · rw [if_pos hc] at h2
            have hd : DenS X.K T X.mg noW H1 m (goC mt x (List.replicate Ng.length none) st1 l) { nx := fun σ' H' => tVar un σ' H' Q, rt := Q } := by
              revert h2
              generalize goC mt x (List.replicate Ng.length none) st1 l = r
              intro h2
              cases r with
              | nx e2 st2 =>
                intro s' H' m' le pr ok' he2
                simp only at h2
                cases hu2 : e2[un]? with
                | none => rw [hu2] at h2; exact False.elim h2
                | some od =>
                  rw [hu2] at h2
                  cases od with
                  | none => exact False.elim h2
                  | some d =>
                    obtain ⟨v, hv1, hv2⟩ := he2.2 un d hu2
                    exact ⟨v, hv1, h2 v H' m' ((Le.ofN eN).trans le) pr ok' hv2⟩
              | no => exact h2
              | ret d st => exact False.elim h2
              | brk e st => exact False.elim h2
              | ct e st => exact False.elim h2
              | exc x e st => exact False.elim h2
            refine fun cls dd H' m' le pr ok' xr => q2 _ x _ st1 H1 m (by simpa using hc) hd cls dd _ H' m' le pr ok' ⟨?_, fun i d hi => ?_⟩ xr
            · have hlen : 0 < Ng.length := by
                cases Ng with
                | nil => cases hNg
                | cons => simp
              have : (L2.start Ng [V.ref f]) = some (V.ref f) :: List.replicate (Ng.length - 1) none := rfl
              rw [this]
              simp
              omega
            · rw [List.getElem?_replicate] at hi
              split at hi <;> cases hi
          · rw [if_neg hc] at h2; exact False.elim h2
    · exact pss_one (ps_ret (pe_tupN (pa_cons pe_str (pa_cons (act_g (CXg := C8.CX0) (Eg := C8.E0) (Ng := Ng) (i := 0) I1 L hf hfn hfr (hbind _ _ _ _ _) tk hr' hgd (fun A outer s2 H2 E hA hR => hbody A outer s2 H2 E f c' hA hR) hNg hva hd hcd) pa_nil))))
  refine wpAny_call (codeAny_mono rc fun r s2 hq => ?_)
  cases r with
  | error e => exact (show False from hq).elim
  | ok fl =>
    cases fl with
    | ret u => exact I1.after hq
    | next => exact False.elim hq
    | brk => exact False.elim hq
    | cont => exact False.elim hq
theorem j_heardNF {x a f0 : Str} {p pos : Pos} {un : Nat} {p7 p8 : Pos} {st : Stmt} {gd : FuncData} {c P gA : Addr} {Ng : List Str} {params : Arguments} {body : Expr} {scope : Scope} {lpos p1 p2 p3 p4 p5 p6 : Pos} {j kt : Nat} {s0 : Str} {mt : Str → Str → Option Bool} {names : List Str} {l : List SC} {h0 : ExceptHandler} {hds : List ExceptHandler} {fb : EX} (k : Nat)
    (F : Fun X.K x x st gA gd) (Sg : FnScope Ng [a] (defScope st)) (hb : L2.Binds X.K gd [a] []) (hgd : X.A.guards = some []) (hg : Gl X x) (hm : X.mg x = some (.ref gA)) (hNg : Ng[0]? = some a) (hva : Vis (defScope st) a) (hNu : Ng[un]? = some f0) (hvu : Vis (defScope st) f0)
    (hbg : defBody st = [.Try [.Return (some (.Tuple [.Constant (.str s0) j p1, .Call (.Name a p2) [] [] p3] kt p4)) p5] (h0 :: hds) [] [] p6, .Return (some (.Name f0 p7)) p8])
    (hcl : ∀ (cdv : Value) (s : Shared) (H : Hp), JCls (cxOf C8.CX0 X.prog X.w X.K X.mg X.base Ng x (defScope st) gA cdv X.A X.stack s H C8.E0).nox T mt names (h0 :: hds) l)
    (TB : TabB X.base X.mg c P) (hcode : X.env.code = .ref c) (hmT : (P, X.env.qual ++ "<lambda>") ∈ T) (hu : ∀ p ∈ T, p.1 = P → p.2 = X.env.qual ++ "<lambda>") (hr : Room (k + 2) X.A) (L : lamSB X.env.scope scope = true) (hdef : defaultsOf params X.env = ([], []))
    (hbind : ∀ (q : Str) (cl : List (Str × Addr)) (pm cv ctv : Value), bindArgs (PySem.W.kla_fn "<lambda>" q params body scope cl pm cv ctv) ⟨[], []⟩ = pure [])
    (hbody : ∀ (A : Around) (outer : List PySem.Env) (s : Shared) (H : Hp) (E : XK) (f c' : Addr), A.guards = some [] → Room k (A.deeper (lamEnv X scope s.heap.objs.size f c')) → J (lamCx X A outer s H E scope f c') T (fun cls d _ H' => E cls d H') body fb)
    (hdb : (x == ("__debug__" : Str)) = false := by decide) (hd : (a == ("__debug__" : Str)) = false := by decide) (hcd : (a == ("__classdict__" : Str)) = false := by decide) (hdu : (f0 == ("__debug__" : Str)) = false := by decide) (hcu : (f0 == ("__classdict__" : Str)) = false := by decide) :
    J X T W (.Call (.Name x p) [.Lambda params body scope lpos] [] pos) (eHeardN s0 Ng.length un mt names l fb) := by
  obtain ⟨oc, od, kV, doc, pm, an, cdv, ct, osl, rfl, lk, hcdI⟩ := F.ex
  exact j_heardN hgd hg hm F.kp lk hcdI hb Sg hNg hva hNu hvu hbg (hcl cdv) TB hcode hmT hu hr (lamS_by L) hdef hbind hbody hdb hd hcd hdu hcu
def handlersOf2 (st : Stmt) : List ExceptHandler := match defBody st with
  | [.Try _ h _ _ _, _] => h
  | _ => []
end
end Mm

namespace Mm
open PySem L2 PySem.Spec PyProof.Rows
/-! ### min(list of tuples of numbers, default=d); sorted of a list of tuples of numbers -/
def TupsV (K : PySem.W.Frag) (H : Hp) : List V → List (List Int) → Prop
  | [], [] => True
  | v :: vs, l :: ls => (∃ a, v = .ref a ∧ SqN K H a (l.map V.int)) ∧ TupsV K H vs ls
  | _, _ => False
def encT (l : List Int) : PyData := .tuple (l.map .int)
theorem reads_ints {h : Heap} : ∀ (l : List Int) (us : List Value), Vals (l.map V.int) us → ReadsAll h us (l.map .int) []
  | [], _, r => by cases r; exact .nil
  | n :: l, _, r => by
    cases r with
    | cons r1 r2 =>
      obtain ⟨t, rfl⟩ := r1
      exact ReadsAll.cons (as := []) (bs := []) (.int n t) (reads_ints l _ r2)
section
variable {X : Cx} {pins : List (Addr × Obj)} {σ : L2.St} {H : Hp} {s : Shared}
theorem reads_tup (I : L2.Inv X pins σ H s) {a : Addr} {l : List Int} (hs : SqT X.K H a (l.map V.int)) : Reads s.heap (.ref a) (encT l) [] := by
  obtain ⟨its, r, ⟨o, ho, hc, n, hd⟩, hz⟩ := I.tuple hs
  exact Reads.tuple ho hc hd (by simpa using reads_ints l its r)
theorem reads_tups (I : L2.Inv X pins σ H s) : ∀ (vs : List V) (ls : List (List Int)) (us : List Value), TupsV X.K H vs ls → Vals vs us → ReadsAll s.heap us (ls.map encT) []
  | [], [], _, _, r => by cases r; exact .nil
  | v :: vs, l :: ls, _, h, r => by
    obtain ⟨⟨a, rfl, hs⟩, h2⟩ := h
    cases r with
    | cons r1 r2 =>
      obtain rfl : _ = Value.ref a := r1
      exact ReadsAll.cons (as := []) (bs := []) (reads_tup I hs.sq) (reads_tups I vs ls _ h2 r2)
  | [], _ :: _, _, h, _ => h.elim
  | _ :: _, [], _, h, _ => h.elim
theorem reads_ints_one {h : Heap} : ∀ (l : List Int) (us : List Value) (ps : List PyData) (as bs : List Addr), ReadsAll h us (l.map .int) as → ReadsAll h us ps bs → ps = l.map .int
  | [], _, _, _, _, h1, h2 => by cases h1; cases h2; rfl
  | n :: l, _, _, _, _, h1, h2 => by
    cases h1 with
    | cons a1 a2 =>
      cases h2 with
      | cons b1 b2 =>
        cases a1
        cases b1
        rw [reads_ints_one l _ _ _ _ a2 b2]
        rfl
theorem reads_one {h : Heap} {u : Value} {l : List Int} {p : PyData} {as bs : List Addr} (h1 : Reads h u (encT l) as) (h2 : Reads h u p bs) : p = encT l := by
  cases h1 with
  | tuple a1 a2 a3 a4 =>
    cases h2 with
    | tuple b1 b2 b3 b4 =>
      rw [a1] at b1
      cases b1
      rw [a3] at b3
      cases b3
      rw [reads_ints_one l _ _ _ _ a4 b4]
      rfl
    | list b1 b2 b3 b4 =>
      rw [a1] at b1
      cases b1
      rw [a2] at b2
      simp at b2
    | dict b1 b2 b3 b4 b5 =>
      rw [a1] at b1
      cases b1
      rw [a2] at b2
      simp at b2
def minT (a : List Int) (ls : List (List Int)) : List Int := ls.foldl (fun a y => if y < a then y else a) a
theorem lt_enc (a b : List Int) : W.dataLt (encT a) (encT b) = decide (a < b) := by
  rw [← W.dataLt_ints]
  unfold encT
  rw [W.dataLt_tuple]
  rfl
theorem min_enc : ∀ (ls : List (List Int)) (a : List Int), W.minD (encT a) (ls.map encT) = encT (minT a ls)
  | [], a => rfl
  | l :: ls, a => by
    have ih := min_enc ls (if l < a then l else a)
    unfold W.minD at ih ⊢
    simp only [List.map_cons, List.foldl_cons, lt_enc, decide_eq_true_eq]
    have e : (if l < a then encT l else encT a) = encT (if l < a then l else a) := by split <;> rfl
    rw [e, ih]
    rfl
theorem map_int_inj : ∀ {a b : List Int}, a.map PyData.int = b.map PyData.int → a = b
  | [], [], _ => rfl
  | x :: a, y :: b, h => by
    simp only [List.map_cons, List.cons.injEq, PyData.int.injEq] at h
    rw [h.1, map_int_inj h.2]
  | [], _ :: _, h => by cases h
  | _ :: _, [], h => by cases h
theorem enc_inj {a b : List Int} (h : encT a = encT b) : a = b := by
  unfold encT at h
  injection h with h
  exact map_int_inj h
theorem vals_get {vs : List V} {us : List Value} (r : Vals vs us) : ∀ (i : Nat) (u : Value), us[i]? = some u → ∃ v, vs[i]? = some v ∧ L2.RelV v u := by
  induction r with
  | nil => intro i u h; cases h
  | cons r rr ih =>
    intro i u h
    cases i with
    | zero =>
      simp only [List.getElem?_cons_zero, Option.some.injEq] at h
      subst h
      exact ⟨_, rfl, r⟩
    | succ i => exact ih i u (by simpa using h)
theorem enc_alike (ls : List (List Int)) : W.AlikeAll (ls.map encT) := by
  refine ⟨fun x hx y hy => ?_, fun x hx => ?_⟩
  · obtain ⟨a, _, rfl⟩ := List.mem_map.mp hx
    obtain ⟨b, _, rfl⟩ := List.mem_map.mp hy
    exact W.alike_ints a b
  · obtain ⟨a, _, rfl⟩ := List.mem_map.mp hx
    intro q; cases q
theorem enc_depth : ∀ ls : List (List Int), PyData.depthAll (ls.map encT) ≤ 1 := dep_tups
theorem tups_get {K : PySem.W.Frag} : ∀ (vs : List V) (ls : List (List Int)), TupsV K H vs ls → ∀ (i : Nat) (v : V), vs[i]? = some v → ∃ a l, v = .ref a ∧ ls[i]? = some l ∧ SqN K H a (l.map V.int)
  | [], [], _, i, v, h => by cases h
  | x :: vs, l :: ls, ⟨⟨a, e, hs⟩, h2⟩, i, v, h => by
    cases i with
    | zero =>
      simp only [List.getElem?_cons_zero, Option.some.injEq] at h
      subst h
      exact ⟨a, l, e, rfl, hs⟩
    | succ i => exact tups_get vs ls h2 i v (by simpa using h)
  | [], _ :: _, h, _, _, _ => h.elim
  | _ :: _, [], h, _, _, _ => h.elim
end
section
variable {X : Cx} {ea ed : Expr} {ta td : TE} {p kp pos : Pos}
theorem pe_minD (ha : PE X ea ta) (hd : PE X ed td) (hc : X.calm = true) (hu : X.A.units + 100 < cLine) (hg : Gl X "min") (hm : X.mg "min" = none)
    (he : starEach (ea :: []) X.env = (false, eval ea X.env) :: starEach [] X.env := by rfl) :
    PE X (.Call (.Name "min" p) [ea] [⟨some "default", ed, kp⟩] pos) (fun σ H Q => ta σ H fun x H1 => td σ H1 fun y H2 => ∃ a xs ls, x = .ref a ∧ SqL X.K H2 a xs ∧ TupsV X.K H2 xs ls ∧ (ls = [] → Q y H2) ∧ (∀ l0 lr b, ls = l0 :: lr → SqN X.K H2 b ((minT l0 lr).map V.int) → Q (.ref b) H2)) := by
  refine ⟨fun pins s σ H Q I h => ?_⟩
  refine wpAny_Call_Name_kw (ld_blt I hg hm (u := .builtin "min") (by decide +kernel) ?_)
  have e0 : backTo pos (starEach (ea :: []) X.env) = (false, eval ea X.env) :: backTo pos (starEach [] X.env) := by rw [he]; rfl
  refine callWith_kw (env := X.env) (e := ea) (rest := []) (kws := [⟨some "default", ed, kp⟩]) ?_ e0 (by rw [e0]; rfl) (by rfl) (by rfl)
  rw [e0]
  refine Calls.spliced_cons (thn (ha.run pins s σ H _ I h) fun u s1 ⟨x, H1, I1, r1, q1⟩ => ?_)
  refine Calls.spliced_nil ?_
  refine evalAll_cons ?_
  show wpAny _ _ (do let v ← eval ed X.env; standAt pos; pure v) _ _ _
  refine wpAny_bind (thn (hd.run pins s1 σ H1 _ I1 q1) fun d s2 ⟨y, H2, I2, r2, a, xs, ls, ex, hx, ht, hnil, hcons⟩ => ?_)
  subst ex
  obtain rfl : u = Value.ref a := r1
  obtain ⟨its, rv, hp, hz⟩ := I2.list hx
  have hr := reads_tups I2 xs ls its ht rv
  refine wpAny_bind (wpAny_standAt ?_)
  refine wpAny_pure (evalAll_nil ?_)
  have hdep := enc_depth ls
  refine W.min_list_default (as := []) (I.ok.hd hc) (PlainL.isList hp) (by simpa using hr) (enc_alike ls) (by omega) (fun hn h' tk hk => ?_) (fun y0 ys i v h' tk bs hn hv hm2 hk => ?_)
  · have : ls = [] := by cases ls with | nil => rfl | cons a b => cases hn
    exact ⟨y, H2, I2.kept (t' := tk) hk, r2, hnil this⟩
  · cases ls with
    | nil => cases hn
    | cons l0 lr =>
      simp only [List.map_cons, List.cons.injEq] at hn
      obtain ⟨e1, e2⟩ := hn
      rw [← e1, ← e2, min_enc] at hm2
      have hv' : its[i]? = some v := by simpa using hv
      obtain ⟨vv, g1, g2⟩ := vals_get rv i v hv'
      obtain ⟨b, l, ev, gl, hs⟩ := tups_get xs (l0 :: lr) ht i vv g1
      subst ev
      obtain rfl : v = Value.ref b := g2
      have q1 := reads_tup I2 hs.sq
      have q2 := PyProof.Rows.Reads.keeps hk q1
      have q3 := enc_inj (reads_one q2 hm2)
      rw [← q3] at hs
      exact ⟨.ref b, H2, I2.kept (t' := tk) hk, rfl, hcons l0 lr b rfl hs⟩
end
end Mm

namespace Mm
open PySem L2 PySem.Spec PyProof.Rows
def tupI : D → Option (List Int)
  | .tup ds => intsOf ds
  | _ => none
def tupsOf : List D → Option (List (List Int))
  | [] => some []
  | d :: r => match tupI d, tupsOf r with
    | some a, some b => some (a :: b)
    | _, _ => none
theorem tups_rep {K : PySem.W.Frag} {H : Hp} {m : List Addr} : ∀ {ds : List D} {vs : List V} {ls : List (List Int)}, Reps K H m ds vs → tupsOf ds = some ls → TupsV K H vs ls
  | [], vs, ls, r, h => by
    cases h
    cases vs with
    | nil => trivial
    | cons v vs => exact (show False from by simpa [Reps] using r).elim
  | d :: ds, vs, ls, r, h => by
    simp only [tupsOf] at h
    cases h1 : tupI d with
    | none => rw [h1] at h; cases h
    | some a =>
      rw [h1] at h
      cases h2 : tupsOf ds with
      | none => rw [h2] at h; cases h
      | some b =>
        rw [h2] at h
        cases h
        obtain ⟨v, r', rfl, rv, rr⟩ := r
        refine ⟨?_, tups_rep rr h2⟩
        cases d with
        | tup es =>
          obtain ⟨ad, ws, rfl, hs, hr⟩ := rv
          have := reps_ints hr h1
          subst this
          exact ⟨ad, rfl, hs⟩
        | non | bl _ | str _ | int _ | ref _ => cases h1
def eMinD (a d : EX) : EX := fun e st => (a e st).bind fun x st1 => (d e st1).bind fun y st2 => match x with
  | .ref i => match cellItems st2[i]? with
    | some xs => match tupsOf xs with
      | some [] => .ok y st2
      | some (l :: ls) => .ok (.tup ((minT l ls).map .int)) st2
      | none => .no
    | none => .no
  | _ => .no
section
variable {X : Cx} {T : List (Addr × Str)} {W : WX} {ea ed : Expr} {fa fd : EX} {p kp pos : Pos}
theorem j_minD (hc : X.calm = true) (hu : X.A.units + 100 < cLine) (hg : Gl X "min") (hm : X.mg "min" = none) (ha : J X T W ea fa) (hd : J X T W ed fd)
    (he : starEach (ea :: []) X.env = (false, eval ea X.env) :: starEach [] X.env := by rfl) : J X T W (.Call (.Name "min" p) [ea] [⟨some "default", ed, kp⟩] pos) (eMinD fa fd) :=
  pe_weak (pe_minD ha hd hc hu hg hm he) fun s H Q ⟨e, st, m, hen, ok, h⟩ => ⟨e, st, m, hen, ok, h.bind fun x v st1 H1 m1 _ l1 p1 ok1 rx h1 =>
    ⟨e, st1, m1, hen.mono l1 p1, ok1, h1.bind fun y w st2 H2 m2 _ l2 p2 ok2 ry h2 => by
      cases x with
      | ref i =>
        simp only at h2
        cases hci : cellItems st2[i]? with
        | none => simp only [hci] at h2; exact False.elim h2
        | some xs =>
          simp only [hci] at h2
          obtain ⟨a', hmm, rfl⟩ := rx.mono l2 p2
          obtain ⟨a2, vs, z1, z2, z3⟩ := cellItems_ok ok2 hci
          rw [hmm] at z1
          cases z1
          cases ht : tupsOf xs with
          | none => simp only [ht] at h2; exact False.elim h2
          | some ls =>
            simp only [ht] at h2
            refine ⟨a', vs, ls, rfl, z2, tups_rep z3 ht, fun hn => ?_, fun l0 lr b hn hs => ?_⟩
            · subst hn
              exact h2 w H2 m2 (.refl _) (.refl _) ok2 ry
            · subst hn
              exact h2 (.ref b) H2 m2 (.refl _) (.refl _) ok2 ⟨b, (minT l0 lr).map V.int, rfl, hs, Reps.of_ints _⟩
      | tup _ => exact False.elim h2
      | non => exact False.elim h2
      | bl _ => exact False.elim h2
      | str _ => exact False.elim h2
      | int _ => exact False.elim h2⟩⟩
end
/-! sorted -/
def sortT (ls : List (List Int)) : List (List Int) := ls.mergeSort (fun a b => !decide (b < a))
def oSortedT : ON := fun ds st => match ds with
  | [.ref i] => match cellItems st[i]? with
    | some xs => match tupsOf xs with
      | some ls => if ls.all (fun l => !l.isEmpty) = true then some (.ref st.length, st ++ [.lst ((sortT ls).map fun l => .tup (l.map .int))]) else none
      | none => none
    | none => none
  | _ => none
theorem tups_split {K : PySem.W.Frag} {H : Hp} : ∀ (vs : List V) (ls : List (List Int)), TupsV K H vs ls → ∃ bs : List (Addr × List Int), vs = bs.map (fun b => V.ref b.1) ∧ ls = bs.map (·.2) ∧ ∀ b ∈ bs, SqN K H b.1 (b.2.map V.int)
  | [], [], _ => ⟨[], rfl, rfl, fun b h => by cases h⟩
  | v :: vs, l :: ls, ⟨⟨a, e, hs⟩, h2⟩ => by
    obtain ⟨bs, h3, h4, h5⟩ := tups_split vs ls h2
    refine ⟨(a, l) :: bs, by rw [e, h3]; rfl, by rw [h4]; rfl, fun b hb => ?_⟩
    rcases List.mem_cons.mp hb with rfl | hb
    · exact hs
    · exact h5 b hb
  | [], _ :: _, h => h.elim
  | _ :: _, [], h => h.elim
theorem tups_join {K : PySem.W.Frag} {H : Hp} : ∀ (bs : List (Addr × List Int)), (∀ b ∈ bs, SqN K H b.1 (b.2.map V.int)) → TupsV K H (bs.map (fun b => V.ref b.1)) (bs.map (·.2))
  | [], _ => trivial
  | b :: bs, h => ⟨⟨b.1, rfl, h b (by simp)⟩, tups_join bs fun x hx => h x (by simp [hx])⟩
theorem each_ref : ∀ (bs : List (Addr × List Int)) (us : List Value), Vals (bs.map (fun b => V.ref b.1)) us → PySem.W.EachIs (fun v b => v = Value.ref b.1) us bs
  | [], _, r => by cases r; exact .nil
  | b :: bs, _, r => by
    cases r with
    | cons r1 r2 => exact .cons r1 (each_ref bs _ r2)
theorem vals_ref : ∀ (us : List Value) (bs : List (Addr × List Int)), PySem.W.EachIs (fun v b => v = Value.ref b.1) us bs → Vals (bs.map (fun b => V.ref b.1)) us
  | _, [], r => by cases r; exact .nil
  | _, b :: bs, r => by
    cases r with
    | cons r1 r2 => exact .cons r1 (vals_ref _ bs r2)
section
variable {X : Cx} {T : List (Addr × Str)} {W : WX}
theorem each_reads {pins : List (Addr × Obj)} {σ : L2.St} {H : Hp} {s : Shared} (I : L2.Inv X pins σ H s) : ∀ (bs : List (Addr × List Int)) (us : List Value), (∀ b ∈ bs, SqN X.K H b.1 (b.2.map V.int)) → Vals (bs.map (fun b => V.ref b.1)) us → PySem.W.EachIs (fun v b => ∃ as, Reads s.heap v (encT b.2) as) us bs
  | [], _, _, r => by cases r; exact .nil
  | b :: bs, _, h, r => by
    cases r with
    | cons r1 r2 =>
      refine .cons ?_ (each_reads I bs _ (fun x hx => h x (by simp [hx])) r2)
      obtain rfl : _ = Value.ref b.1 := r1
      exact ⟨[], reads_tup I (h b (by simp)).sq⟩
theorem cr_sortedTup (hu : X.A.units + 100 < cLine) : CallR X (.builtin "sorted") (fun vs H Q => ∃ (a : Addr) (xs : List V) (ls : List (List Int)), vs = [V.ref a] ∧ SqL X.K H a xs ∧ TupsV X.K H xs ls ∧ (∀ l ∈ ls, l ≠ []) ∧ ∀ p ys, H p = none → TupsV X.K H ys (sortT ls) → Q (.ref p) (upd H p (.lst ys))) := by
  intro pins s σ H vs us Q I rr h
  obtain ⟨a, xs, ls, rfl, hs, ht, hne, q⟩ := h
  obtain ⟨its, rv, hp, hz⟩ := I.list hs
  obtain ⟨bs, rfl, rfl, hb⟩ := tups_split xs ls ht
  rw [Vals.ref1 rr]
  refine PySem.W.sorted_data (β := Addr × List Int) (enc := fun b => encT b.2) (R := fun v b => v = Value.ref b.1) (PlainL.isList hp) (each_ref bs its rv) (each_reads I bs its hb rv) ?_ ?_ (by simpa using hz) (fun b _ => ?_) (fun out ho he => ?_)
  · exact PySem.W.AllAlike.of fun b b' => PySem.W.alike_ints b.2 b'.2
  · refine .inl fun d hd => ?_
    obtain ⟨b, hbm, rfl⟩ := List.mem_map.mp hd
    have := hne b.2 (List.mem_map.mpr ⟨b, hbm, rfl⟩)
    cases hq : b.2 with
    | nil => exact absurd hq this
    | cons x r => exact ⟨.int x, r.map .int, by unfold encT; rfl⟩
  · have : (encT b.2).depth ≤ 1 := by
      unfold encT
      simp only [PyData.depth, dep_ints]
      decide
    omega
  · obtain ⟨ep, he'⟩ := PyProof.Rows.sortedAll_at s.heap its out.toArray
    have hv := vals_ref out _ he
    have hl := hv.length
    have hlen : (bs.mergeSort (PySem.W.dataLe false fun b => encT b.2)).length = bs.length := (List.mergeSort_perm bs _).length_eq
    refine ⟨.ref _, upd H (s.heap.objs.size + 1) (.lst ((bs.mergeSort (PySem.W.dataLe false fun b => encT b.2)).map (fun b => V.ref b.1))), I.laid (t' := s.toks) (fun _ _ => PyProof.Rows.sortedAll_old) (Nat.le_succ _) ⟨by rw [List.length_map, hlen]; simpa using hz, out, ep, hv, he'⟩, rfl, ?_⟩
    refine q _ _ (I.hok.fresh (Nat.le_succ _)) ?_
    have e : (bs.mergeSort (PySem.W.dataLe false fun b => encT b.2)).map (·.2) = sortT (bs.map (·.2)) := by
      unfold sortT
      refine List.map_mergeSort fun x _ y _ => ?_
      rw [W.dataLe_eq]
      simp only [lt_enc, cond_false]
    rw [← e]
    exact tups_join _ fun b hbm => hb b (List.mem_mergeSort.mp hbm)
theorem reps_tups {K : PySem.W.Frag} {H : Hp} {m : List Addr} : ∀ (ls : List (List Int)) (vs : List V), TupsV K H vs ls → Reps K H m (ls.map fun l => .tup (l.map .int)) vs
  | [], [], _ => rfl
  | l :: ls, v :: vs, ⟨⟨a, e, hs⟩, h⟩ => ⟨v, vs, rfl, ⟨a, l.map V.int, e, hs, Reps.of_ints l⟩, reps_tups ls vs h⟩
  | _ :: _, [], h => h.elim
  | [], _ :: _, h => h.elim
theorem cre_sortedT (hu : X.A.units + 100 < cLine) : CallR X (.builtin "sorted") (rN X.K T oSortedT) := cr_of fun ds st m H xs r Q rx ok ho q => by
  match ds, ho, rx with
  | [.ref i], ho, rx =>
    simp only [oSortedT] at ho
    cases hci : cellItems st[i]? with
    | none => rw [hci] at ho; cases ho
    | some es =>
      rw [hci] at ho
      simp only at ho
      cases ht : tupsOf es with
      | none => rw [ht] at ho; cases ho
      | some ls =>
        rw [ht] at ho
        simp only at ho
        by_cases hne : ls.all (fun l => !l.isEmpty) = true
        · rw [if_pos hne] at ho
          cases ho
          obtain ⟨v, r', rfl, ⟨a, hm, rfl⟩, hr⟩ := rx
          obtain ⟨a2, vs, z1, z2, z3⟩ := cellItems_ok ok hci
          rw [hm] at z1
          cases z1
          have : r' = [] := by
            cases r' with
            | nil => rfl
            | cons => exact (show False from by simpa [Reps] using hr).elim
          subst this
          refine ⟨_, cr_sortedTup hu, a, vs, ls, rfl, z2, tups_rep z3 ht, fun l hl => ?_, fun p ys hp hy => deno_lst q ok (reps_tups _ _ hy) p hp⟩
          have := List.all_eq_true.mp hne l hl
          intro e; rw [e] at this; simp at this
        · rw [if_neg hne] at ho; cases ho
  | [.non], ho, _ => cases ho
  | [.bl _], ho, _ => cases ho
  | [.int _], ho, _ => cases ho
  | [.str _], ho, _ => cases ho
  | [.tup _], ho, _ => cases ho
  | [], ho, _ => cases ho
  | _ :: _ :: _, ho, _ => simp [oSortedT] at ho
end
end Mm
namespace Mm
open PySem L2
theorem blkOk_nest {N : List Str} {sc scope : Scope} {own : List (Str × Nat)} (b : decide ((∀ y ∈ scope.names, List.lookup y.1 scope.names = some y.2) ∧ (∀ p ∈ own, N[p.2]? = some p.1) ∧ (∀ y ∈ scope.names, (y.2 = NameKind.local ∨ y.2 = NameKind.cell) → (y.1 ∈ own.map (·.1) ∨ ¬ y.1 ∈ N))) = true) (hk : scope.kind = ScopeKind.function)
    (h : ∀ y ∈ scope.names, y.2 = NameKind.free → List.lookup y.1 sc.names = some NameKind.cell ∨ List.lookup y.1 sc.names = some NameKind.free) : BlkOk N sc scope own := by
  have b := of_decide_eq_true b
  exact ⟨hk, b.1, b.2.1, h, b.2.2⟩
end Mm
namespace Mm
theorem ball_nil {α : Type} {P : α → Prop} : ∀ y ∈ ([] : List α), P y := fun _ h => by cases h
theorem ball_cons {α : Type} {P : α → Prop} {x : α} {xs : List α} (h : P x) (r : ∀ y ∈ xs, P y) : ∀ y ∈ x :: xs, P y := fun y hy => by
  rcases List.mem_cons.mp hy with rfl | hy
  · exact h
  · exact r y hy
end Mm

namespace Mm
open PySem L2 PySem.Spec PyProof.Rows
/-! ### math.lcm of two numbers below 2^4000 -/
def rLcm : List V → Hp → VK → Prop := fun vs H Q => ∃ a b : Int, vs = [.int a, .int b] ∧ a.natAbs < 2 ^ 4000 ∧ b.natAbs < 2 ^ 4000 ∧ Q (.int ((a.natAbs.lcm b.natAbs : Nat) : Int)) H
theorem log_le {n k : Nat} (h : n < 2 ^ k) (hk : 0 < k) : n.log2 < k := by
  by_cases h0 : n = 0
  · rw [h0]; simpa using hk
  · exact (Nat.log2_lt h0).mpr h
section
variable {X : Cx}
theorem cr_lcm : CallR X (.builtin "math.lcm") rLcm := by
  intro pins s σ H vs us Q I rr h
  obtain ⟨a, b, rfl, ha, hb, q⟩ := h
  cases rr with
  | cons r1 rr =>
    cases rr with
    | cons r2 rr =>
      cases rr
      obtain ⟨t, rfl⟩ := r1
      obtain ⟨u, rfl⟩ := r2
      have h1 : ¬ (max 1 a.natAbs).log2 / 30 + 1 > 450 := by
        have : max 1 a.natAbs < 2 ^ 4000 := by
          have : 1 < 2 ^ 4000 := Nat.one_lt_two_pow (by decide)
          omega
        have := log_le this (by decide)
        omega
      have h2 : ¬ (max a.natAbs b.natAbs).log2 / 30 + 1 > 450 := by
        have : max a.natAbs b.natAbs < 2 ^ 4000 := by omega
        have := log_le this (by decide)
        omega
      have e : (Nat.lcm 1 a.natAbs).lcm b.natAbs = a.natAbs.lcm b.natAbs := by rw [show Nat.lcm 1 a.natAbs = a.natAbs by simp [Nat.lcm]]
      have hsz : (((Nat.lcm 1 a.natAbs).lcm b.natAbs : Nat) : Int).natAbs.log2 < bitsLine := by
        rw [e, Int.natAbs_natCast]
        have h3 : a.natAbs.lcm b.natAbs ≤ a.natAbs * b.natAbs := by
          by_cases h0 : a.natAbs * b.natAbs = 0
          · rcases Nat.mul_eq_zero.mp h0 with z | z <;> simp [z]
          · exact Nat.le_of_dvd (by omega) (Nat.lcm_dvd_mul _ _)
        have h4 : a.natAbs * b.natAbs < 2 ^ 8000 := by
          have : (2 : Nat) ^ 8000 = 2 ^ 4000 * 2 ^ 4000 := by rw [← Nat.pow_add]
          rw [this]
          exact Nat.mul_lt_mul'' ha hb
        have := log_le (Nat.lt_of_le_of_lt h3 h4) (by decide)
        have hbl : 8000 < bitsLine := by decide +kernel
        omega
      refine call_function_meets W.MGF.kind_lcm W.MGF.plain_lcm W.MGF.entry_lcm (W.MGF.args_lcm (Value.int a t) (Value.int b u)) (Gives.meets (W.mg_run_lcm a t b u h1 h2 hsz)) ?_
      rw [e]
      exact ⟨.int ((a.natAbs.lcm b.natAbs : Nat) : Int), H, I.kept (t' := s.toks + 1) (fun _ _ h => h), ⟨_, rfl⟩, q⟩
variable {T : List (Addr × Str)}
def lcmTop : Nat := 2 ^ 4000
def oLcm : ON := fun ds st => match ds with
  | [.int i, .int j] => if decide (i.natAbs < lcmTop) && decide (j.natAbs < lcmTop) then some (.int ((i.natAbs.lcm j.natAbs : Nat) : Int), st) else none
  | _ => none
theorem cre_lcm : CallR X (.builtin "math.lcm") (rN X.K T oLcm) := cr_of fun ds st m H xs r Q rx ok ho q => by
  match ds, ho, rx with
  | [x, y], ho, rx =>
    cases x with
    | int i =>
      cases y with
      | int j =>
        simp only [oLcm] at ho
        split at ho
        · rename_i hb
          simp only [Bool.and_eq_true, decide_eq_true_eq] at hb
          cases ho
          obtain ⟨v, r', rfl, h1, v2, r2, rfl, h2, rfl⟩ := rx
          cases h1; cases h2
          exact ⟨_, cr_lcm, i, j, rfl, hb.1, hb.2, deno_val q ok rfl⟩
        · cases ho
      | non | bl _ | str _ | tup _ | ref _ => cases ho
    | non | bl _ | str _ | tup _ | ref _ => cases ho
  | [], ho, _ => cases ho
  | [x], ho, _ => cases x <;> cases ho
  | _ :: _ :: _ :: _, ho, _ => simp [oLcm] at ho
end
end Mm

/-! t.index(n) of a tuple of numbers; the object has no dict of its own -/
namespace Mm
open PySem L2 PySem.Spec PyProof.Rows
/-- the first place of z -/
def ixOf (z : Int) : List Int → Option Nat
  | [] => none
  | y :: ys => if y = z then some 0 else (ixOf z ys).map (· + 1)
theorem ixOf_spec {z : Int} : ∀ {ys : List Int} {j : Nat}, ixOf z ys = some j → ys[j]? = some z ∧ ∀ m, m < j → ys[m]? ≠ some z
  | [], j, h => by cases h
  | y :: ys, j, h => by
    unfold ixOf at h
    by_cases e : y = z
    · rw [if_pos e] at h
      cases h
      exact ⟨by simp [e], fun m hm => absurd hm (Nat.not_lt_zero m)⟩
    · rw [if_neg e] at h
      cases hj : ixOf z ys with
      | none => rw [hj] at h; cases h
      | some k =>
        rw [hj] at h
        cases h
        obtain ⟨h1, h2⟩ := ixOf_spec hj
        have h1 : (y :: ys)[k + 1]? = some z := by simpa using h1
        refine ⟨h1, fun m hm => ?_⟩
        cases m with
        | zero => simpa using e
        | succ m =>
        have hm : m + 1 < k + 1 := hm
        simpa using h2 m (by omega)
def oIndex : O2 := fun x y st => match x, y with
  | .tup xs, .int z => match intsOf xs with
    | some ys => (ixOf z ys).map fun j => (.int (j : Nat), st)
    | none => none
  | _, _ => none
def isTup : D → Bool
  | .tup _ => true
  | _ => false
def eMT (o : O2) (a b : EX) : EX := fun e st => (a e st).bind fun x st1 => if isTup x = true then (b e st1).bind fun y st2 => .of (o x y st2) else .no
section
variable {X : Cx} {T : List (Addr × Str)} {W : WX}
theorem mt_indexI : MtR X "tuple.index" (fun x xs H Q => ∃ (p : Addr) (ys : List Int) (z : Int) (j : Nat), x = .ref p ∧ xs = [.int z] ∧ SqT X.K H p (ys.map V.int) ∧ ixOf z ys = some j ∧ Q (.int (j : Nat)) H) := by
  intro pins s σ H x xs v us Q I rx rs ⟨p, ys, z, j, e1, e2, hq, hj, q⟩
  subst e1 e2
  obtain ⟨h1, h2⟩ := ixOf_spec hj
  cases rx
  obtain ⟨u, rfl, t, rfl⟩ := vals1 rs
  obtain ⟨its, r, ⟨⟨cls, dd, dt, sl⟩, ho, hc, n, hd⟩, hz⟩ := I.tuple hq
  simp only at hc hd
  subst hc hd
  have hl : its.length = ys.length := by rw [← r.length, List.length_map]
  have jl : j < its.length := by rw [hl]; exact (List.getElem?_eq_some_iff.mp h1).1
  have item : ∀ (m : Nat) (hm : m < its.toArray.size), ∃ y t', ys[m]? = some y ∧ its.toArray[m] = Value.int y t' := fun m hm => by
    have hm' : m < ys.length := by rw [← hl]; simpa using hm
    obtain ⟨w, hw, t', ew⟩ := r.get (i := m) (x := .int ys[m]) (by simp [hm'])
    exact ⟨ys[m], t', List.getElem?_eq_getElem hm', by rw [← ew, ← (List.getElem?_eq_some_iff.mp hw).2]; simp⟩
  have flat : (ys.map V.int).all flatV = true := List.all_eq_true.mpr fun w hw => by
    obtain ⟨_, _, rfl⟩ := List.mem_map.mp hw
    rfl
  refine call_meets PySem.F.slot_tuple_index ⟨_, ho, rfl⟩ PySem.F.entry_tuple_index (PySem.F.args_tuple_index_2 _ _)
    (TI.tuple_indexAt p its.toArray n dd sl (.int z t) (eqU (.int z)) j (by simpa using jl) ?_ ?_) ⟨ho, fun w hw => mem_eqAt (x := .int z) ⟨t, rfl⟩ rfl r flat w (by simpa using hw), .int (j : Nat), H, I.tok _, ⟨_, rfl⟩, q⟩
  · obtain ⟨y, t', g1, g2⟩ := item j (by simpa using jl)
    rw [h1] at g1
    cases g1
    rw [g2]
    show decide (z = z) = true
    simp
  · intro m hm hmj
    obtain ⟨y, t', g1, g2⟩ := item m hm
    rw [g2]
    show decide (y = z) = false
    exact decide_eq_false fun e => h2 m hmj (e ▸ g1)
variable {a b : Expr} {fa fb : EX} {name : Str} {apos cpos : Pos} {id : String}
/-- the call of a method of a tuple without a dict of its own -/
theorem pe_tm {to : TE} {t : TA} {r : V → List V → Hp → VK → Prop} (slot : Slot "tuple" name id) (hty : typeOf (.builtin id) = pure (.type "method_descriptor")) (hm : MtR X id r) (ho : PE X a to) (hb : PA X [b] t)
    (hbase : attributeBase a name X.env (eval a X.env) = eval a X.env) (hfew : ((backTo cpos (starEach [b] X.env)).all (fun x => !x.1) && (backToKw cpos (keywordEach [] X.env)).all (fun x => x.1.isSome)
      && decide ([b].length + ([] : List Keyword).length + (if ([] : List Keyword).isEmpty then 0 else 1) < 30)) = true)
    (hline : (apos.endLine == cpos.line) = true) (hs : starEach [b] X.env = (false, eval b X.env) :: starEach [] X.env) (hplain : (backTo cpos (starEach [] X.env)).any (·.1) = false) :
    PE X (.Call (.Attribute a name apos) [b] [] cpos) (fun σ H Q => to σ H fun x H1 => (∃ (p : Addr) (xs : List V), x = .ref p ∧ SqN X.K H1 p xs) ∧ t σ H1 fun ys H2 => r x ys H2 Q) :=
  ⟨fun pins s σ H Q I h => wpAny_Call_method_late hbase hfew hline rfl (thn (ho.run pins s σ H _ I h) fun v s1 ⟨x, H1, I1, r1, ⟨p, xs, ex, hN⟩, q1⟩ => by
    subst ex
    obtain rfl : v = Value.ref p := r1
    have hT := hN.sq
    obtain ⟨its, _, ⟨o, eo, ec, ed⟩, _⟩ := I1.tuple hT
    have hd : ∀ c, Value.ref p = .ref c → ∃ ob, s1.heap.get? c = some ob ∧ ob.dict = none := fun c ec => by
      cases ec
      rcases hN.nd with ⟨o', u, g, d⟩ | ⟨o', g, d⟩
      · exact ⟨o', (I1.hok p _ g).1, d⟩
      · exact ⟨o', I1.kIn p o' g, d⟩
    have hA := hb.run cpos pins s1 σ H1 _ I1 q1
    rw [hs] at hA
    refine ⟨"tuple", id, PySem.F.plainAttrs_tuple, slot, hty, ⟨o, eo, ec⟩, hd, ?_⟩
    rw [hs]
    exact Calls.callWith_builtin (by show (false || (backTo cpos (starEach [] X.env)).any (·.1)) = false; rw [hplain] <;> rfl) (Calls.evalArgs_plain (thn hA fun us s2 ⟨vs, H2, I2, r2, q2⟩ => hm pins s2 σ H2 (.ref p) vs _ us Q I2 rfl r2 q2)))⟩
theorem j_index (ha : J X T W a fa) (hb : J X T W b fb)
    (hbase : attributeBase a "index" X.env (eval a X.env) = eval a X.env := by rfl) (hfew : ((backTo cpos (starEach [b] X.env)).all (fun x => !x.1) && (backToKw cpos (keywordEach [] X.env)).all (fun x => x.1.isSome)
      && decide ([b].length + ([] : List Keyword).length + (if ([] : List Keyword).isEmpty then 0 else 1) < 30)) = true := by rfl)
    (hline : (apos.endLine == cpos.line) = true := by rfl) (hs : starEach [b] X.env = (false, eval b X.env) :: starEach [] X.env := by rfl) (hplain : (backTo cpos (starEach [] X.env)).any (·.1) = false := by rfl) :
    J X T W (.Call (.Attribute a "index" apos) [b] [] cpos) (eMT oIndex fa fb) :=
  pe_weak (pe_tm PySem.F.slot_tuple_index PySem.F.type_tuple_index mt_indexI ha (pa_cons hb pa_nil hs) hbase hfew hline hs hplain) fun s H Q ⟨e, st, m, he, ok, h⟩ =>
    ⟨e, st, m, he, ok, h.bind fun x v st1 H1 m1 _ l1 p1 ok1 rx h1 => by
      cases x with
      | tup xs =>
        have h1 : Den X.K T X.mg W (RD X.K) s H1 m1 ((fb e st1).bind fun y st2 => R.of (oIndex (.tup xs) y st2)) Q := h1
        obtain ⟨p, vs, rfl, hN, hr⟩ := rx
        refine ⟨⟨p, vs, rfl, hN⟩, e, st1, m1, he.mono l1 p1, ok1, h1.bind fun y w st2 H2 m2 _ l2 p2 ok2 ry h2 => ?_⟩
        cases y with
        | int z =>
          cases hi : intsOf xs with
          | none => simp only [oIndex, hi] at h2; exact False.elim h2
          | some ys =>
            cases hj : ixOf z ys with
            | none => simp only [oIndex, hi, hj] at h2; exact False.elim h2
            | some j =>
              simp only [oIndex, hi, hj] at h2
              obtain rfl : w = V.int z := ry
              refine ⟨p, ys, z, j, rfl, rfl, ?_, hj, h2 _ H2 m2 (.refl _) (.refl _) ok2 rfl⟩
              have := reps_ints hr hi
              subst this
              exact l2.sqT hN.sq
        | non | bl _ | str _ | tup _ | ref _ => exact False.elim h2
      | non | bl _ | str _ | int _ | ref _ => exact False.elim h1⟩
end
/-! x += e of numbers -/
def sAug (g : Int → Int → Int) (i : Nat) (f : EX) : SX := fun e st => match e[i]? with
  | some (some (.int a)) => (f e st).st e fun y st1 => match y with
    | .int b => .nx (e.set i (some (.int (g a b)))) st1
    | _ => .no
  | _ => .no
def sAugAdd (i : Nat) (f : EX) : SX := sAug (fun a b => a + b) i f
def sAugSub (i : Nat) (f : EX) : SX := sAug (fun a b => a - b) i f
section
variable {X : Cx} {T : List (Addr × Str)} {W : WX} {a : Expr} {fa : EX} {pos p' : Pos} {i : Nat} {x : Str}
theorem js_augOf {op : Operator} {g : Int → Int → Int} (hN : X.N.Nodup) (hi : X.N[i]? = some x) (hx : Loc X.env.scope x) (ho : PIp X op (ipI g)) (ha : J X T W a fa)
    (hf : X.fn x = true ∨ X.env.scope.names.lookup x = some .local) : JS X T W (.AugAssign (.Name x p') op a pos) (sAug g i fa) :=
  ps_weak (ps_aug hN hi hx ha ho hf) fun F s H ⟨e, st, m, he, ok, h⟩ => by
    unfold sAug at h
    split at h
    · rename_i n hn
      obtain ⟨v, h1, h2⟩ := he.2 i _ hn
      obtain rfl : v = V.int n := h2
      refine ⟨_, h1, e, st, m, he, ok, st_of he h fun y yv st1 H1 m1 _ l p ok1 ry h1 => ?_⟩
      cases y with
      | int b =>
        obtain rfl : yv = V.int b := ry
        exact ⟨n, b, rfl, rfl, h1 _ H1 m1 (.refl H1) (.refl m1) ok1 ((he.mono l p).set i (d := .int (g n b)) rfl)⟩
      | non | bl _ | str _ | tup _ | ref _ => exact False.elim h1
    · exact False.elim h
theorem js_augAdd (hN : X.N.Nodup) (hi : X.N[i]? = some x) (hx : Loc X.env.scope x) (ha : J X T W a fa) (hf : X.fn x = true ∨ X.env.scope.names.lookup x = some .local := by first | exact .inl rfl | exact .inr rfl | assumption) :
    JS X T W (.AugAssign (.Name x p') .Add a pos) (sAugAdd i fa) := js_augOf hN hi hx ip_add ha hf
theorem js_augSub (hN : X.N.Nodup) (hi : X.N[i]? = some x) (hx : Loc X.env.scope x) (ha : J X T W a fa) (hf : X.fn x = true ∨ X.env.scope.names.lookup x = some .local := by first | exact .inl rfl | exact .inr rfl | assumption) :
    JS X T W (.AugAssign (.Name x p') .Sub a pos) (sAugSub i fa) := js_augOf hN hi hx ip_sub ha hf
end
/-! a, b = xs, xs a list -/
def sAsgU (f : EX) (g : List D → Env → Option Env) : SX := fun e st => (f e st).st e fun d st1 => match d with
  | .ref i => match cellItems st1[i]? with
    | some ds => match g ds e with
      | some e1 => .nx e1 st1
      | none => .no
    | none => .no
  | _ => .no
section
variable {X : Cx} {T : List (Addr × Str)} {W : WX} {a : Expr} {fa : EX} {pos tpos : Pos} {us : List Nat} {ts : List Expr} {k n : Nat} {g : List D → Env → Option Env}
theorem js_asgU (hc : X.calm = true) (ha : J X T W a fa) (hg : JGs X T us ts g) (hn : (assignEach ts X.env).length = n := by rfl) (hst : (assignEach ts X.env).findIdx? (·.1) = none := by rfl) (hl : ts.length = n := by rfl)
    (hs : swapsWithSole [.Tuple ts k tpos] a pos.line X.env = pure false := by rfl) (hw : swappedStores [.Tuple ts k tpos] a X.env = pure none := by rfl)
    (h1 : (assignEach [.Tuple ts k tpos] X.env).map (·.2) = [assign (.Tuple ts k tpos) X.env] := by rfl) : JS X T W (.Assign [.Tuple ts k tpos] a pos) (sAsgU fa g) :=
  ps_weak (ps_asg ha (pg_unl (n := n) hc hg.pg hn hst) hs hw h1) fun F s H ⟨e, st, m, he, ok, h⟩ =>
  ⟨e, st, m, he, ok, st_of he h fun x y st1 H1 m1 _ l p ok1 rx h1 => by
    cases x with
    | ref i =>
      cases hci : cellItems st1[i]? with
      | none => simp only [hci] at h1; exact False.elim h1
      | some ds =>
        simp only [hci] at h1
        cases hf : g ds e with
        | none => rw [hf] at h1; exact False.elim h1
        | some e1 =>
          rw [hf] at h1
          obtain ⟨a', hm, rfl⟩ := rx
          obtain ⟨a2, vs, z1, z2, z3⟩ := cellItems_ok ok1 hci
          rw [hm] at z1
          cases z1
          exact ⟨a', vs, rfl, z2, by rw [← Reps.length z3, hg.len ds e e1 hf, hl], ds, e, st1, m1, z3, he.mono l p, ok1, e1, hf, fun s' he' _ => h1 s' H1 m1 (.refl H1) (.refl m1) ok1 he'⟩
    | tup _ => exact False.elim h1
    | non => exact False.elim h1
    | bl _ => exact False.elim h1
    | str _ => exact False.elim h1
    | int _ => exact False.elim h1⟩
end
end Mm

/-! [elt for t in i if c for u in j if d] -/
namespace Mm
open PySem L2
/-- one for inside of another: the inner one is lcL -/
def lcL2 (g : Sto → Bool) (t : TX) (c : BX) (src : IX) (vs : List Nat) (t2 : TX) (c2 : BX) (f : EX) (n : Nat) (e0 : Env) : List D → Sto → RC
  | [], st => if g st = true then .ok st else .no
  | d :: ds, st => if g st = true then match t d e0 with
    | none => .no
    | some e1 => match c e1 st with
      | .ok true st1 => match src e1 st1 with
        | .ok s2 st2 => match lcL s2.ok t2 c2 f n (wipeE e1 vs) s2.items st2 with
          | .ok st3 => lcL2 g t c src vs t2 c2 f n e0 ds st3
          | .no => .no
        | _ => .no
      | .ok false st1 => lcL2 g t c src vs t2 c2 f n e0 ds st1
      | _ => .no
    else .no
def eLc2 (own : List Nat) (src : IX) (t : TX) (c : BX) (src2 : IX) (vs : List Nat) (t2 : TX) (c2 : BX) (f : EX) : EX := fun e st => match src e st with
  | .ok s st1 => match lcL2 s.ok t c src2 vs t2 c2 f st1.length (wipeE e own) s.items (st1 ++ [Cell.lst []]) with
    | .ok st2 => .ok (.ref st1.length) st2
    | .no => .no
  | .ex x st1 => .ex x st1
  | .no => .no
section
variable {K : PySem.W.Frag} {T : List (Addr × Str)} {mg : Str → Option Value}
/-- the inner loop, whose end is known -/
theorem lcl_walk {bb : Bool} {us vs : List Nat} {J1 : It} {s2 : Src} {t : TX} {c : BX} {f : EX} {tt : TT} {n : Nat} {e0 : Env} {σ2 : L2.St} {H4 : Hp} {m4 : List Addr} {st4 stE : Sto} {Dn : Addr} {Nx : Hp → Prop}
    (hu : ∀ i ∈ us, i ∈ vs) (htt : ∀ s H Q, tT K T mg (fun _ _ _ _ => False) c s H Q → tt s H Q) (good : Good bb K T J1 s2 H4 m4) (ok4 : Ok K T H4 m4 st4) (hD : m4[n]? = some Dn) (he0 : EnvOk K H4 m4 (L2.wipe σ2 vs) e0)
    (hl : lcL s2.ok t c f n e0 s2.items st4 = .ok stE) (fin : ∀ H m, Le H4 H → Pre m4 m → Ok K T H m stE → Nx H) :
    ∃ W1 : Nat → Nat → Hp → Prop, (∃ k, W1 0 k H4) ∧ ∀ j k H, W1 j k H → (J1.stop j H ∧ Nx H) ∨ (J1.go j H ∧ ∃ Nx1 : Hp → Prop, (∀ H', Nx1 H' → ∃ k', k' < k ∧ W1 (j + 1) k' H') ∧
      ∀ x H', J1.yld j H x H' → gT bb K T us t x (L2.wipe σ2 vs) H' fun σ3 H5 => L2.wipe σ3 vs = L2.wipe σ2 vs ∧ tt σ3 H5 fun b H6 =>
        if b = true then tE K T mg (fun _ _ _ _ => False) f σ3 H6 (fun y H7 => ∃ acc, H7 Dn = some (.lst acc) ∧ acc.length < sizeLine ∧ Nx1 (upd H7 Dn (.lst (acc ++ [y])))) else Nx1 H6) := by
  refine ⟨fun j k H => ∃ st' m', k = s2.items.length - j ∧ j ≤ s2.items.length ∧ Le H4 H ∧ Pre m4 m' ∧ Ok K T H m' st' ∧ lcL s2.ok t c f n e0 (s2.items.drop j) st' = .ok stE,
    ⟨s2.items.length, st4, m4, by simp, Nat.zero_le _, .refl _, .refl _, ok4, by simpa using hl⟩, ?_⟩
  rintro j k H ⟨st', m', rfl, hle, l1, p1, ok', hd⟩
  by_cases hlt : j < s2.items.length
  · rw [List.drop_eq_getElem_cons hlt, lcL] at hd
    by_cases hg : s2.ok st' = true
    · rw [if_pos hg] at hd
      obtain ⟨gg, gs, gy⟩ := good H m' st' l1 p1 ok' hg
      refine .inr ⟨gg j hlt, fun H2 => ∃ st2 m2, Le H4 H2 ∧ Pre m4 m2 ∧ Ok K T H2 m2 st2 ∧ lcL s2.ok t c f n e0 (s2.items.drop (j + 1)) st2 = .ok stE,
        fun H2 ⟨st2, m2, a1, a2, a3, a4⟩ => ⟨s2.items.length - (j + 1), by omega, st2, m2, rfl, hlt, a1, a2, a3, a4⟩, fun x H2 hy => ?_⟩
      obtain ⟨l2, ok2, d, hdd, rx⟩ := gy j x H2 hlt hy
      rw [List.getElem?_eq_getElem hlt] at hdd
      cases hdd
      cases ht : t s2.items[j] e0 with
      | none => rw [ht] at hd; cases hd
      | some e1 =>
        rw [ht] at hd
        dsimp only at hd
        have l12 := l1.trans l2
        refine ⟨_, e0, st', m', rx, he0.mono l12 p1, ok2, e1, ht, fun s' he' bt => ⟨?_, ?_⟩⟩
        · rw [bt.wipe hu]
          exact But.wipe (ts := vs) ⟨by rw [L2.wipe_length], fun j hj => L2.wipe_out hj⟩ fun i hi => hi
        · refine htt _ _ _ ⟨e1, st', m', he', ok2, ?_⟩
          cases hc : c e1 st' with
          | no => rw [hc] at hd; cases hd
          | ex _ _ => rw [hc] at hd; cases hd
          | ok b st2 =>
            rw [hc] at hd
            refine den_noex fun y H3 m3 l5 p5 ok5 r5 => ?_
            cases r5
            cases b with
            | false =>
              rw [if_neg Bool.false_ne_true]
              exact ⟨st2, m3, l12.trans l5, p1.trans p5, ok5, hd⟩
            | true =>
              rw [if_pos rfl]
              dsimp only at hd
              refine ⟨e1, st2, m3, he'.mono l5 p5, ok5, ?_⟩
              cases hf : f e1 st2 with
              | no => rw [hf] at hd; cases hd
              | ex _ _ => rw [hf] at hd; cases hd
              | ok y st3 =>
                rw [hf] at hd
                dsimp only at hd
                refine den_noex fun yv H4' m4' l6 p6 ok6 r6 => ?_
                cases hls : lstOf st3 (.ref n) with
                | none => rw [hls] at hd; cases hd
                | some acc =>
                  rw [hls] at hd
                  dsimp only at hd
                  have pD := (p1.trans p5).trans p6
                  have hst := lst_get hls
                  obtain ⟨a', ws, q1, q2, q3⟩ := ok6.lst hst
                  rw [pD.get hD] at q1
                  cases q1
                  by_cases hz : acc.length < lim
                  · rw [if_pos hz] at hd
                    exact ⟨ws, q2, by rw [← Reps.length q3]; exact lim_lt (Nat.le_of_lt hz), st3.set n (Cell.lst (acc ++ [y])), m4', ((l12.trans l5).trans l6).trans (Le.set q2), pD, ok6.setCell hst (pD.get hD) q2 (q3.append (Reps.one r6)), hd⟩
                  · rw [if_neg hz] at hd
                    cases hd
    · rw [if_neg hg] at hd
      cases hd
  · have e0 : j = s2.items.length := by omega
    subst e0
    rw [List.drop_length, lcL] at hd
    by_cases hg : s2.ok st' = true
    · rw [if_pos hg] at hd
      obtain ⟨gg, gs, gy⟩ := good H m' st' l1 p1 ok' hg
      cases hd
      exact .inl ⟨gs, fin H m' l1 p1 ok'⟩
    · rw [if_neg hg] at hd
      cases hd
end
section
variable {X : Cx} {T : List (Addr × Str)} {W : WX}
theorem lc2_read {bb b2 : Bool} {us us2 own vs : List Nat} {wi wi2 : TI} {src src2 : IX} {t t2 : TX} {c c2 : BX} {f : EX} {tt tt2 : TT} (hu : ∀ i ∈ us, i ∈ own) (hu2 : ∀ i ∈ us2, i ∈ vs) (hwi : ∀ s H Q, tI bb X.K T X.mg W src s H Q → wi s H Q)
    (hwi2 : ∀ s H Q, tI b2 X.K T X.mg (fun _ _ _ _ => False) src2 s H Q → wi2 s H Q)
    (htt : ∀ s H Q, tT X.K T X.mg (fun _ _ _ _ => False) c s H Q → tt s H Q) (htt2 : ∀ s H Q, tT X.K T X.mg (fun _ _ _ _ => False) c2 s H Q → tt2 s H Q) {s : L2.St} {H : Hp} {Q : VK} (h : tE X.K T X.mg W (eLc2 own src t c src2 vs t2 c2 f) s H Q) :
    tLc2 wi (gT bb X.K T us t) tt wi2 (gT b2 X.K T us2 t2) tt2 (tE X.K T X.mg (fun _ _ _ _ => False) f) own vs s H Q := by
  obtain ⟨e, st, m, he, ok, h⟩ := h
  refine hwi _ _ _ ⟨e, st, m, he, ok, ?_⟩
  unfold eLc2 at h
  revert h
  generalize src e st = r
  intro h
  cases r with
  | no => exact h
  | ex x st1 => exact h
  | ok sr st1 =>
    intro Jw H1 m1 l p ok1 good Dn hD
    cases hL : lcL2 sr.ok t c src2 vs t2 c2 f st1.length (wipeE e own) sr.items (st1 ++ [Cell.lst []]) with
    | no => simp only [hL] at h; exact False.elim h
    | ok stE =>
      simp only [hL] at h
      have ok2 : Ok X.K T (upd H1 Dn (.lst [])) (m1 ++ [Dn]) (st1 ++ [Cell.lst []]) := ok1.newCell hD rfl
      have l2 : Le H1 (upd H1 Dn (.lst [])) := Le.new hD
      have he0 := wipe_env (he.mono l p) own
      have hmD : ∀ m', Pre (m1 ++ [Dn]) m' → m'[st1.length]? = some Dn := fun m' q => q.get (by rw [← ok1.len]; simp)
      refine ⟨fun i n H' => ∃ st' m', n = sr.items.length - i ∧ i ≤ sr.items.length ∧ Le (upd H1 Dn (.lst [])) H' ∧ Pre (m1 ++ [Dn]) m' ∧ Ok X.K T H' m' st' ∧ lcL2 sr.ok t c src2 vs t2 c2 f st1.length (wipeE e own) (sr.items.drop i) st' = .ok stE,
        ⟨sr.items.length, st1 ++ [Cell.lst []], m1 ++ [Dn], by simp, Nat.zero_le _, .refl _, .refl _, ok2, by simpa using hL⟩, ?_⟩
      rintro i n H' ⟨st', m', rfl, hle, l3, p3, ok3, hd⟩
      have p1m : Pre m1 m' := (Pre.add m1 Dn).trans p3
      by_cases hlt : i < sr.items.length
      · rw [List.drop_eq_getElem_cons hlt, lcL2] at hd
        by_cases hg : sr.ok st' = true
        · rw [if_pos hg] at hd
          obtain ⟨gg, gs, gy⟩ := good H' m' st' (l2.trans l3) p1m ok3 hg
          refine .inr ⟨gg i hlt, fun H2 => ∃ st2 m2, Le (upd H1 Dn (.lst [])) H2 ∧ Pre (m1 ++ [Dn]) m2 ∧ Ok X.K T H2 m2 st2 ∧ lcL2 sr.ok t c src2 vs t2 c2 f st1.length (wipeE e own) (sr.items.drop (i + 1)) st2 = .ok stE,
            fun H2 ⟨st2, m2, a1, a2, a3, a4⟩ => ⟨sr.items.length - (i + 1), by omega, st2, m2, rfl, hlt, a1, a2, a3, a4⟩, fun x H2 hy => ?_⟩
          obtain ⟨l4, ok4, d, hdd, rx⟩ := gy i x H2 hlt hy
          rw [List.getElem?_eq_getElem hlt] at hdd
          cases hdd
          cases ht : t sr.items[i] (wipeE e own) with
          | none => rw [ht] at hd; cases hd
          | some e1 =>
            rw [ht] at hd
            dsimp only at hd
            have l34 := l3.trans l4
            refine ⟨_, wipeE e own, st', m', rx, (he0.mono (l2.trans l34) p1m), ok4, e1, ht, fun s' he' bt => ⟨?_, ?_⟩⟩
            · rw [bt.wipe hu]
              exact But.wipe (ts := own) ⟨by rw [L2.wipe_length], fun j hj => L2.wipe_out hj⟩ fun i hi => hi
            · refine htt _ _ _ ⟨e1, st', m', he', ok4, ?_⟩
              cases hc : c e1 st' with
              | no => rw [hc] at hd; cases hd
              | ex _ _ => rw [hc] at hd; cases hd
              | ok b st2 =>
                rw [hc] at hd
                refine den_noex fun y H3 m3 l5 p5 ok5 r5 => ?_
                cases r5
                cases b with
                | false =>
                  rw [if_neg Bool.false_ne_true]
                  exact ⟨st2, m3, l34.trans l5, p3.trans p5, ok5, hd⟩
                | true =>
                  rw [if_pos rfl]
                  dsimp only at hd
                  refine hwi2 _ _ _ ⟨e1, st2, m3, he'.mono l5 p5, ok5, ?_⟩
                  cases hs2 : src2 e1 st2 with
                  | no => rw [hs2] at hd; cases hd
                  | ex _ _ => rw [hs2] at hd; cases hd
                  | ok s2 st3 =>
                    rw [hs2] at hd
                    dsimp only at hd
                    intro J1 H4 m4 l6 p6 ok6 good2
                    cases hin : lcL s2.ok t2 c2 f st1.length (wipeE e1 vs) s2.items st3 with
                    | no => rw [hin] at hd; cases hd
                    | ok st4 =>
                      rw [hin] at hd
                      dsimp only at hd
                      have pD := (p3.trans p5).trans p6
                      exact lcl_walk hu2 htt2 good2 ok6 (hmD _ pD) (wipe_env ((he'.mono l5 p5).mono l6 p6) vs) hin fun H5 m5 l7 p7 ok7 => ⟨st4, m5, ((l34.trans l5).trans l6).trans l7, pD.trans p7, ok7, hd⟩
        · rw [if_neg hg] at hd
          cases hd
      · have e0 : i = sr.items.length := by omega
        subst e0
        rw [List.drop_length, lcL2] at hd
        by_cases hg : sr.ok st' = true
        · rw [if_pos hg] at hd
          obtain ⟨gg, gs, gy⟩ := good H' m' st' (l2.trans l3) p1m ok3 hg
          cases hd
          exact .inl ⟨gs, h _ H' m' (l.trans (l2.trans l3)) (p.trans p1m) ok3 ⟨Dn, hmD _ p3, rfl⟩⟩
        · rw [if_neg hg] at hd
          cases hd
theorem tYes_of {c : L2.St} {H : Hp} {Q : Bool → Hp → Prop} (h : tT X.K T X.mg (fun _ _ _ _ => False) bYes c H Q) : tYes c H Q := by
  obtain ⟨e, st, m, he, ok, h⟩ := h
  exact h true H m (.refl H) (.refl m) ok rfl
variable {elt tg iter tg2 iter2 : Expr} {scope : Scope} {own : List (Str × Nat)} {vs : List Nat} {pos : Pos} {us us2 : List Nat} {src src2 : IX} {t t2 : TX} {f : EX}
/-- [elt for tg in iter for tg2 in iter2] -/
theorem j_lc20 {bb b2 : Bool} (hc : X.calm = true) (hN : X.N.Nodup) (hi : JI bb X T W tg iter src) (ok : BlkOk X.N X.env.scope scope own) (hu : ∀ i ∈ us, i ∈ own.map (·.2)) (hu2 : ∀ i ∈ us2, i ∈ vs) (hv : ∀ i ∈ vs, i ∈ own.map (·.2))
    (hg : ∀ (s : Shared) (H : Hp) (C : Addr) (cl : List (Str × Addr)) (fp : List Addr), JG bb (X.blk s H scope (compEnvC scope cl C X.env) fp) T us tg t)
    (hi2 : ∀ (s : Shared) (H : Hp) (C : Addr) (cl : List (Str × Addr)) (fp : List Addr), JI b2 (X.blk s H scope (compEnvC scope cl C X.env) fp) T (fun _ _ _ _ => False) tg2 iter2 src2)
    (hg2 : ∀ (s : Shared) (H : Hp) (C : Addr) (cl : List (Str × Addr)) (fp : List Addr), JG b2 (X.blk s H scope (compEnvC scope cl C X.env) fp) T us2 tg2 t2)
    (he : ∀ (s : Shared) (H : Hp) (C : Addr) (cl : List (Str × Addr)) (fp : List Addr), J (X.blk s H scope (compEnvC scope cl C X.env) fp) T (fun _ _ _ _ => False) elt f)
    (hs : ∀ x, foldedSetIterable iter X.env x = pure x := by intro _; rfl) (hs2 : ∀ env x, foldedSetIterable iter2 env x = pure x := by intro _ _; rfl) :
    J X T W (.ListComp elt [⟨tg, iter, [], 0⟩, ⟨tg2, iter2, [], 0⟩] scope pos) (eLc2 (own.map (·.2)) src t bYes src2 vs t2 bYes f) :=
  pe_weak (pe_lc2 hc hN hi ok hv hg (fun s H C cl fp => pts_nil) hi2 hg2 (fun s H C cl fp => pts_nil) he hs hs2) fun s H Q => lc2_read hu hu2 (fun _ _ _ h => h) (fun _ _ _ h => h) (fun s H Q h => tYes_of h) (fun s H Q h => tYes_of h)
theorem js_setLc20 {bb b2 : Bool} {i : Nat} {y : Str} {py spos : Pos} (hc : X.calm = true) (hN : X.N.Nodup) (hy : X.N[i]? = some y) (hyl : X.env.scope.names.lookup y = some .local)
    (hsw : swapsWith (.ListComp elt [⟨tg, iter, [], 0⟩, ⟨tg2, iter2, [], 0⟩] scope pos) (some (.Name y py)) spos.line X.env = pure true) (hi : JI bb X T W tg iter src) (ok : BlkOk X.N X.env.scope scope own) (hu : ∀ i ∈ us, i ∈ own.map (·.2)) (hu2 : ∀ i ∈ us2, i ∈ vs) (hv : ∀ i ∈ vs, i ∈ own.map (·.2))
    (hg : ∀ (s : Shared) (H : Hp) (C : Addr) (cl : List (Str × Addr)) (fp : List Addr), JG bb (X.blk s H scope (compEnvC scope cl C X.env) fp) T us tg t)
    (hi2 : ∀ (s : Shared) (H : Hp) (C : Addr) (cl : List (Str × Addr)) (fp : List Addr), JI b2 (X.blk s H scope (compEnvC scope cl C X.env) fp) T (fun _ _ _ _ => False) tg2 iter2 src2)
    (hg2 : ∀ (s : Shared) (H : Hp) (C : Addr) (cl : List (Str × Addr)) (fp : List Addr), JG b2 (X.blk s H scope (compEnvC scope cl C X.env) fp) T us2 tg2 t2)
    (he : ∀ (s : Shared) (H : Hp) (C : Addr) (cl : List (Str × Addr)) (fp : List Addr), J (X.blk s H scope (compEnvC scope cl C X.env) fp) T (fun _ _ _ _ => False) elt f)
    (hs : ∀ x, foldedSetIterable iter X.env x = pure x := by intro _; rfl) (hs2 : ∀ env x, foldedSetIterable iter2 env x = pure x := by intro _ _; rfl) :
    JS X T W (.Assign [.Name y py] (.ListComp elt [⟨tg, iter, [], 0⟩, ⟨tg2, iter2, [], 0⟩] scope pos) spos) (sSet i (eLc2 (own.map (·.2)) src t bYes src2 vs t2 bYes f)) :=
  ps_weak (ps_setLc2 hc hN hy hyl hsw hi ok hv hg (fun s H C cl fp => pts_nil) hi2 hg2 (fun s H C cl fp => pts_nil) he hs hs2) fun F s H ⟨e, st, m, he, ok, h⟩ =>
    lc2_read hu hu2 (fun _ _ _ h => h) (fun _ _ _ h => h) (fun s H Q h => tYes_of h) (fun s H Q h => tYes_of h) ⟨e, st, m, he, ok, st_of he h fun x y st1 H1 m1 _ l p ok1 rx h1 => h1 _ H1 m1 (.refl H1) (.refl m1) ok1 ((he.mono l p).set i rx)⟩
end
end Mm

namespace Mm
open PySem L2 PySem.Spec PyProof.Rows
/-! ### a // b of a great b -/
def CDivG (i j : Int) : Prop := j ≠ 0 ∧ j.natAbs < 2 ^ 4000
section
variable {X : Cx} {T : List (Addr × Str)}
theorem op_fdivG : OpR X (binaryOp .FloorDiv) (rI CDivG fun i j => .int (i.fdiv j)) := opI fun _ _ _ _ _ _ _ hc q => floordiv_int hc.1 q (.inl (PyProof.noPylong_of_log2 (by have := log_le hc.2 (by decide); omega)))
def oDivG : O2 := fun x y st => match x, y with
  | .int i, .int j => if decide (j ≠ 0) && decide (j.natAbs < lcmTop) then some (.int (Int.fdiv i j), st) else none
  | _, _ => none
theorem ope_divG : OpR X (binaryOp .FloorDiv) (r2 X.K T oDivG) := op_of fun dx dy st m H x y r Q rx ry ok ho q => by
  cases dx with
  | int i =>
    cases dy with
    | int j =>
      simp only [oDivG] at ho
      split at ho
      · rename_i hb
        cases ho; cases rx; cases ry
        simp only [Bool.and_eq_true, decide_eq_true_eq] at hb
        exact ⟨_, op_fdivG, i, j, rfl, rfl, hb, deno_val q ok rfl⟩
      · cases ho
    | non | bl _ | str _ | tup _ | ref _ => cases ho
  | non | bl _ | str _ | tup _ | ref _ => cases ho
end
/-! ### running [f for x in xs for y in G x], where nothing else is made -/
theorem lcL_acc {g : Sto → Bool} {t : TX} {f : EX} {e0 : Env} {st : Sto} (F : D → D) (hg : ∀ acc, g (st ++ [Cell.lst acc]) = true) (ds acc : List D) (hl : acc.length + ds.length ≤ lim)
    (h : ∀ d ∈ ds, ∃ e1, t d e0 = some e1 ∧ ∀ acc, f e1 (st ++ [Cell.lst acc]) = .ok (F d) (st ++ [Cell.lst acc])) :
    lcL g t bYes f st.length e0 ds (st ++ [Cell.lst acc]) = .ok (st ++ [Cell.lst (acc ++ ds.map F)]) := by
  have := lcL_pure (c := bYes) (f := f) (t := t) (e0 := e0) (fun _ => true) F hg ds acc hl fun d hd => by
    obtain ⟨e1, h1, h2⟩ := h d hd
    exact ⟨e1, h1, fun _ => rfl, fun _ => h2⟩
  rw [filt_all (fun _ _ => rfl)] at this
  exact this
theorem lcL2_pure {g : Sto → Bool} {t t2 : TX} {f : EX} {src : IX} {vs : List Nat} {e0 : Env} {st : Sto} (I : D → List D) (F : D → D → D) (hg : ∀ acc, g (st ++ [Cell.lst acc]) = true) : ∀ (ds acc : List D), acc.length + (ds.flatMap fun d => I d).length ≤ lim →
    (∀ d ∈ ds, ∃ e1 g2, t d e0 = some e1 ∧ (∀ acc, src e1 (st ++ [Cell.lst acc]) = .ok ⟨I d, g2⟩ (st ++ [Cell.lst acc])) ∧ (∀ acc, g2 (st ++ [Cell.lst acc]) = true) ∧ ∀ u ∈ I d, ∃ e2, t2 u (wipeE e1 vs) = some e2 ∧ ∀ acc, f e2 (st ++ [Cell.lst acc]) = .ok (F d u) (st ++ [Cell.lst acc])) →
    lcL2 g t bYes src vs t2 bYes f st.length e0 ds (st ++ [Cell.lst acc]) = .ok (st ++ [Cell.lst (acc ++ ds.flatMap fun d => (I d).map (F d))])
  | [], acc, _, _ => by rw [lcL2, if_pos (hg acc)]; simp
  | d :: ds, acc, hl, h => by
    obtain ⟨e1, g2, h1, h2, h3, h4⟩ := h d (by simp)
    simp only [List.flatMap_cons, List.length_append] at hl
    have h5 := lcL_acc (F d) h3 (I d) acc (by omega) h4
    have h6 := lcL2_pure I F hg ds (acc ++ (I d).map (F d)) (by rw [List.length_append, List.length_map]; omega) (fun x hx => h x (by simp [hx]))
    rw [lcL2, if_pos (hg acc), h1]
    simp only [show bYes e1 (st ++ [Cell.lst acc]) = .ok true (st ++ [Cell.lst acc]) from rfl, h2 acc]
    rw [h5]
    simp only
    rw [h6]
    simp [List.flatMap_cons]
theorem lc2_pure {own : List Nat} {src0 : IX} {t t2 : TX} {f : EX} {src : IX} {vs : List Nat} {e : Env} {st : Sto} {ds : List D} {g : Sto → Bool} (I : D → List D) (F : D → D → D) (hs : src0 e st = .ok ⟨ds, g⟩ st) (hg : ∀ acc, g (st ++ [Cell.lst acc]) = true) (hl : (ds.flatMap fun d => I d).length ≤ lim)
    (h : ∀ d ∈ ds, ∃ e1 g2, t d (wipeE e own) = some e1 ∧ (∀ acc, src e1 (st ++ [Cell.lst acc]) = .ok ⟨I d, g2⟩ (st ++ [Cell.lst acc])) ∧ (∀ acc, g2 (st ++ [Cell.lst acc]) = true) ∧ ∀ u ∈ I d, ∃ e2, t2 u (wipeE e1 vs) = some e2 ∧ ∀ acc, f e2 (st ++ [Cell.lst acc]) = .ok (F d u) (st ++ [Cell.lst acc])) :
    eLc2 own src0 t bYes src vs t2 bYes f e st = .ok (.ref st.length) (st ++ [Cell.lst (ds.flatMap fun d => (I d).map (F d))]) := by
  unfold eLc2
  rw [hs]
  simp only
  rw [lcL2_pure I F hg ds [] (by simpa using hl) h]
  simp
end Mm

/-! ### set of a list of numbers -/
namespace Mm
open PySem L2 PySem.Spec PyProof.Rows
/-- a set just made -/
abbrev bare0 (w : World) : Obj := { cls := .type "set", dict := none, data := .set #[] 0 (.fresh 0 0 (!PySem.Params.followText (PySem.World.params w) "set-order")) }
section
variable {P : Program} {w : World} {A : Around} {E : Value → Shared → Prop} {s : Shared}
theorem set_of_list {lp : Addr} {its : Array Value} (ks : List Int) {Q : Value → Shared → Prop} (calm : A.handled = none) (isl : s.heap.IsList lp its) (hnt : IntsAre its.toList ks) (few : ks.length + 1 < scanBound)
    (q : ∀ (hp : Heap) (tk n : Nat), SetR w hp s.heap.objs.size (fun j => decide (j ∈ ks)) n → n ≤ ks.length → (∀ b u, s.heap.get? b = some u → hp.get? b = some u) → Q (.ref s.heap.objs.size) { s with heap := hp, toks := tk }) : wpAny (model P w) A (call (.type "set") [.ref lp]) Q E s := by
  have size : its.size = ks.length := by simpa [Array.length_toList] using IntsAre.length hnt
  obtain ⟨⟨c, tl, mro⟩, made, sub, nt, cc, ct⟩ := And.intro F.called_set.mro (And.intro F.called_set.made (And.intro F.called_set.sub (And.intro F.called_set.notType (And.intro F.called_set.canCreate (F.typeCall_set_1 (.ref lp))))))
  refine wpAny_call (codeAny_of_tree (show wpAny _ _ (callAny (.type "set") _) _ _ _ from wpAny_pure (And.intro (Code.quiet_builtin _ (by decide +kernel)) (codeAny_builtin F.entry_type_call ?_))))
  rw [Around.under_plain (weight_type_call_type "set" [.ref lp] []) rfl]
  repeat (any_goals (first | assumption | wp_step))
  refine codeAny_mono (code_set_led1 (.ref lp) (E := E) (Q₁ := fun v s1 => v = .ref s.heap.objs.size ∧ s1 = { s with heap := s.heap.push (bare0 w) }) ⟨rfl, rfl⟩) fun res s1 h1 => ?_
  match res, h1 with
  | .error _, h1 => exact h1
  | .ok .next, h1 => exact h1.elim
  | .ok .brk, h1 => exact h1.elim
  | .ok .cont, h1 => exact h1.elim
  | .ok (.ret v), h1 =>
    obtain ⟨rfl, rfl⟩ := h1
    have here : (s.heap.push (bare0 w)).get? s.heap.objs.size = some (bare0 w) := Heap.get?_push_size _ rfl
    have ty : Shared.TypeIs { s with heap := s.heap.push (bare0 w) } (.ref s.heap.objs.size) "set" := ⟨_, here, rfl⟩
    obtain ⟨look, bind⟩ := And.intro F.called_set.init.lookup (F.called_set.init.bind (.ref s.heap.objs.size))
    repeat (any_goals (first | assumption | wp_step))
    refine codeAny_mono (codeAny_call_builtin (R := wants (fun v s2 => v = .none ∧ ∃ hp tk n, s2 = { s with heap := hp, toks := tk } ∧ SetR w hp s.heap.objs.size (fun j => decide (j ∈ ks)) n ∧ n ≤ ks.length ∧ ∀ b u, s.heap.get? b = some u → hp.get? b = some u) E) F.called_set.init.plain F.entry_set_init (check_set_init_1 ty ?_)) fun res2 s2 h2 => ?_
    · obtain ⟨⟨c0, d0, t0, sl0⟩, got, hc, n0, hd⟩ := isl
      dsimp only at hc hd
      subst hc hd
      have got1 : (s.heap.push (bare0 w)).get? lp = some { cls := .type "list", dict := d0, data := .seq its n0, slots := sl0 } := Heap.get?_push_of_some _ got
      obtain ⟨sb1, sb2, sb3⟩ := And.intro F.sub_list_set (And.intro F.sub_list_frozenset (show (Value.type "list" == Value.type "dict") = false by decide))
      have isl1 : (s.heap.push (bare0 w)).IsList lp its := ⟨_, got1, rfl, n0, rfl⟩
      unfold Builtin.«set.__init__» noKeywords Builtin.Frozenset.updateFrom
      generalize ePI : pyIter = PI
      wp_walk
      subst ePI
      refine wpAny_pyIter_list isl1 (wpAny_bind (wpAny_runValue ?_))
      have lo : lp < s.heap.objs.size := Heap.lt_size got
      have sz : (s.heap.push (bare0 w)).objs.size = s.heap.objs.size + 1 := Heap.size_push ..
      have ne1 : lp ≠ (s.heap.push (bare0 w)).objs.size := by rw [sz]; exact Nat.ne_of_lt (Nat.lt_succ_of_lt lo)
      have out : s.heap.objs.size ∉ [(s.heap.push (bare0 w)).objs.size, lp] := fun z => by
        rcases List.mem_cons.mp z with z | z
        · rw [sz] at z; exact absurd z (Nat.ne_of_lt (Nat.lt_succ_self _))
        · exact absurd (List.mem_singleton.mp z) (Nat.ne_of_gt lo)
      have vals : ∀ (i : Nat) (v : Value), its[i]? = some v → ∃ k t, ks[i]? = some k ∧ v = .int k t := fun i v hv => by
        have li : i < ks.length := size ▸ (Array.getElem?_eq_some_iff.mp hv).1
        obtain ⟨t, e⟩ := IntsAre.int_at hnt i v (Array.getElem?_toList .. ▸ hv)
        exact ⟨ks[i], t, List.getElem?_eq_getElem li, by simp [e, List.getD_eq_getElem?_getD, List.getElem?_eq_getElem li]⟩
      have W := (Walks.list (prog := P) (w := w) (A := A.in1.in1.in1) (by simp [calm]) (s.heap.push (bare0 w)).objs.size lp ne1 its).toS
      refine set_update_ints W s.heap.objs.size out ks size few vals its.size 0 _ rfl (Nat.zero_le _) ⟨⟨_, Heap.get?_push_size _ rfl, rfl, rfl⟩, isl1.push _⟩ ⟨0, Nat.le_refl 0, setR_new_at (Heap.get?_push_of_some _ here)⟩ fun s3 n mv le R3 => ?_
      have same : s3 = { s with heap := s3.heap, toks := s3.toks } := by
        have g1 := mv.gens
        have g2 := mv.drawn
        have g3 := mv.os
        cases s3
        simp only at g1 g2 g3
        simp [g1, g2, g3]
      show wpAny _ _ _ _ _ _
      refine wpAny_pure (show wpAny _ _ (ret Value.none) _ _ _ from wpAny_pure ⟨rfl, s3.heap, s3.toks, n, same, R3, size ▸ le, fun b u hb => ?_⟩)
      have lb : b < s.heap.objs.size := Heap.lt_size hb
      refine mv.heap b u (fun z => ?_) (Heap.get?_push_of_some _ (Heap.get?_push_of_some _ hb))
      rcases List.mem_cons.mp z with z | z
      · exact absurd z (Nat.ne_of_lt lb)
      · have z := List.mem_singleton.mp z
        rw [sz] at z
        exact absurd z (Nat.ne_of_lt (Nat.lt_succ_of_lt lb))
    · match res2, h2 with
      | .error _, h2 => exact h2
      | .ok .next, h2 => exact h2.elim
      | .ok .brk, h2 => exact h2.elim
      | .ok .cont, h2 => exact h2.elim
      | .ok (.ret v), h2 =>
        obtain ⟨rfl, hp, tk, n, rfl, R3, le, kp⟩ := h2
        repeat (any_goals (first | assumption | wp_step))
        exact q hp tk n R3 le kp
end
end Mm

/-! ### sorted(set(xs)) of a list of numbers -/
namespace Mm
open PySem L2 PySem.Spec PyProof.Rows
def insU (k : Int) : List Int → List Int
  | [] => [k]
  | x :: r => if k < x then k :: x :: r else if k = x then x :: r else x :: insU k r
def uniL : List Int → List Int
  | [] => []
  | k :: r => insU k (uniL r)
theorem insU_mem (k j : Int) : ∀ l : List Int, j ∈ insU k l ↔ j = k ∨ j ∈ l
  | [] => by simp [insU]
  | x :: r => by
    have h := insU_mem k j r
    unfold insU
    split
    · simp
    · split
      · rename_i e; subst e; simp
      · simp only [List.mem_cons, h]
        constructor
        · rintro (h | h | h)
          · exact .inr (.inl h)
          · exact .inl h
          · exact .inr (.inr h)
        · rintro (h | h | h)
          · exact .inr (.inl h)
          · exact .inl h
          · exact .inr (.inr h)
theorem insU_srt (k : Int) : ∀ l : List Int, l.Pairwise (· < ·) → (insU k l).Pairwise (· < ·)
  | [], _ => by simp [insU]
  | x :: r, h => by
    have h1 := List.pairwise_cons.mp h
    unfold insU
    split
    · rename_i lt
      refine List.pairwise_cons.mpr ⟨fun y hy => ?_, h⟩
      rcases List.mem_cons.mp hy with rfl | hy
      · exact lt
      · exact Int.lt_trans lt (h1.1 y hy)
    · split
      · exact h
      · rename_i a b
        refine List.pairwise_cons.mpr ⟨fun y hy => ?_, insU_srt k r h1.2⟩
        rcases (insU_mem k y r).mp hy with rfl | hy
        · omega
        · exact h1.1 y hy
theorem uniL_mem (j : Int) : ∀ l : List Int, j ∈ uniL l ↔ j ∈ l
  | [] => by simp [uniL]
  | k :: r => by rw [uniL, insU_mem, uniL_mem j r, List.mem_cons]
theorem uniL_srt : ∀ l : List Int, (uniL l).Pairwise (· < ·)
  | [] => .nil
  | k :: r => insU_srt k _ (uniL_srt r)
theorem srt_nodup {l : List Int} (h : l.Pairwise (· < ·)) : l.Nodup := h.imp fun a => Int.ne_of_lt a
theorem srt_one : ∀ {a b : List Int}, a.Pairwise (· < ·) → b.Pairwise (· < ·) → (∀ k, k ∈ a ↔ k ∈ b) → a = b
  | [], [], _, _, _ => rfl
  | [], y :: b, _, _, h => absurd ((h y).mpr (by simp)) (by simp)
  | x :: a, [], _, _, h => absurd ((h x).mp (by simp)) (by simp)
  | x :: a, y :: b, ha, hb, h => by
    have a1 := List.pairwise_cons.mp ha
    have b1 := List.pairwise_cons.mp hb
    have e : x = y := by
      have p := (h x).mp (by simp)
      have q := (h y).mpr (by simp)
      rcases List.mem_cons.mp p with p | p
      · exact p
      · rcases List.mem_cons.mp q with q | q
        · exact q.symm
        · have := a1.1 y q; have := b1.1 x p; omega
    subst e
    have : a = b := srt_one a1.2 b1.2 fun k => by
      have hk := h k
      simp only [List.mem_cons] at hk
      constructor
      · intro m
        have lt := a1.1 k m
        rcases hk.mp (.inr m) with z | z
        · omega
        · exact z
      · intro m
        have lt := b1.1 k m
        rcases hk.mpr (.inr m) with z | z
        · omega
        · exact z
    rw [this]
theorem setR_num {w : World} {h : Heap} {a : Addr} {S : Int → Bool} {n : Nat} {us : List Int} (R : SetR w h a S n) (nd : us.Nodup) (hm : ∀ k, S k = true ↔ k ∈ us) : n = us.length := by
  obtain ⟨o, es, ep, t, _, _, _, _, nk, mk, _, _, sz, _⟩ := R
  have p : (es.toList.map keyOf).Perm us := (List.perm_ext_iff_of_nodup nk nd).mpr fun k => (mk k).symm.trans (hm k)
  have := p.length_eq
  rw [List.length_map, Array.length_toList] at this
  omega
def rSetI (K : PySem.W.Frag) (w : World) : List V → Hp → VK → Prop := fun xs H Q => ∃ (l : Addr) (ns : List Int), xs = [V.ref l] ∧ SqL K H l (ns.map V.int) ∧ ns.length ≤ 4000 ∧
  ∀ a, H a = none → Q (.ref a) (upd H a (SetO w a (fun j => decide (j ∈ ns)) (uniL ns).length))
def oSSet : ON := fun ds st => match ds with
  | [.ref i] => match (cellItems st[i]?).bind intsOf with
    | some ns => if decide (ns.length ≤ 4000) && decide ((uniL ns).length < 64) then some (.ref st.length, st ++ [.lst ((uniL ns).map .int)]) else none
    | none => none
  | _ => none
section
variable {X : Cx} {T : List (Addr × Str)} {W : WX} {e : Expr} {es : List Expr} {fr : AX} {p p2 pos pos2 : Pos}
theorem cr_setI (hc : X.calm = true) : CallR X (.type "set") (rSetI X.K X.w) := by
  intro pins s σ H xs us Q I r h
  obtain ⟨l, ns, rfl, hl, few, q⟩ := h
  rw [Vals.ref1 r]
  obtain ⟨its, rv, pl, hz⟩ := I.list hl
  refine set_of_list (P := X.prog) (w := X.w) ns (I.ok.hd hc) pl.isList (by simpa using ints_of_vals rv) (by unfold scanBound; omega) fun hp tk n R le kp => ?_
  have e := setR_num R (srt_nodup (uniL_srt ns)) (fun k => by rw [decide_eq_true_eq, uniL_mem])
  subst e
  exact ⟨.ref s.heap.objs.size, _, I.laid (t' := tk) kp (Nat.le_refl _) (setO_new R), rfl, q _ (I.hok.fresh (Nat.le_refl _))⟩
/-- sorted(set(xs)) -/
theorem j_sset (hc : X.calm = true) (hg : Gl X "sorted") (hm : X.mg "sorted" = none) (hg2 : Gl X "set") (hm2 : X.mg "set" = none) (ha : JA X T W [e] fr)
    (hs : starEach (e :: []) X.env = (false, eval e X.env) :: starEach [] X.env := by rfl)
    (hs2 : starEach [Expr.Call (.Name "set" p2) [e] [] pos2] X.env = (false, eval (.Call (.Name "set" p2) [e] [] pos2) X.env) :: starEach [] X.env := by rfl) :
    J X T W (.Call (.Name "sorted" p) [.Call (.Name "set" p2) [e] [] pos2] [] pos) (eN oSSet fr) := by
  have inner : PE X (.Call (.Name "set" p2) [e] [] pos2) (tCB (rSetI X.K X.w) (tA X.K T X.mg W fr)) := pe_callTy (cr_setI hc) hg2 hm2 rfl ha.pa (by decide) (by decide) hs (by rfl)
  refine pe_weak (pe_callB (cr_sortedSet hc) hg hm rfl (pa_cons inner pa_nil hs2) (by decide) (by decide) hs2 (by rfl)) fun s H Q ⟨en, st, m, he, ok, h⟩ => ⟨en, st, m, he, ok, h.bind fun ds xs st1 H1 m1 _ l1 p1 ok1 rs h1 => ?_⟩
  have h1 := den_of h1
  match ds, rs, h1 with
  | [.ref i], rs, h1 =>
    simp only [oSSet] at h1
    cases hn : (cellItems st1[i]?).bind intsOf with
    | none => rw [hn] at h1; exact h1.elim
    | some ns =>
      rw [hn] at h1
      simp only at h1
      by_cases hb : (decide (ns.length ≤ 4000) && decide ((uniL ns).length < 64)) = true
      · rw [if_pos hb] at h1
        simp only [Bool.and_eq_true, decide_eq_true_eq] at hb
        obtain ⟨ys, hy, hi⟩ := Option.bind_eq_some_iff.mp hn
        obtain ⟨a, vs, z1, z2, z3⟩ := cellItems_ok ok1 hy
        have z4 := reps_ints z3 hi
        subst z4
        obtain ⟨v, r', e1, ⟨a2, z5, e2⟩, e3⟩ := rs
        rw [z5] at z1
        cases z1
        subst e2
        have e4 : r' = [] := e3
        subst e4
        refine ⟨a, ns, e1, z2, hb.1, fun b hbn => ?_⟩
        refine ⟨b, fun j => decide (j ∈ ns), (uniL ns).length, rfl, upd_same, hb.2, fun out q srt mem len hq => ?_⟩
        have : out = uniL ns := srt_one srt (uniL_srt ns) fun k => by rw [mem k, decide_eq_true_eq, uniL_mem]
        subst this
        exact h1 _ _ (m1 ++ [q]) ((Le.new hbn).trans (Le.new hq)) (.add m1 q) ((ok1.new hbn).newCell hq (Reps.of_ints _)) ⟨q, by rw [← ok1.len]; simp, rfl⟩
      · rw [if_neg hb] at h1
        exact h1.elim
  | [], rs, h1 => exact h1.elim
  | [.non], rs, h1 => exact h1.elim
  | [.bl _], rs, h1 => exact h1.elim
  | [.int _], rs, h1 => exact h1.elim
  | [.str _], rs, h1 => exact h1.elim
  | [.tup _], rs, h1 => exact h1.elim
  | x :: y :: z, rs, h1 => cases x <;> exact h1.elim
end
end Mm

/-! ### {elt for tg in iter for tg2 in iter2}, of numbers -/
namespace Mm
open PySem L2 PySem.Spec PyProof.Rows
section
variable (elt ta ia tb ib : Expr) (sc : Scope) (ps : Pos)
/-- the comprehension with two clauses and no tests -/
def two : Expr := .SetComp elt [⟨ta, ia, [], 0⟩, ⟨tb, ib, [], 0⟩] sc ps
theorem turn_a (it D : Value) (env : PySem.Env) : compTurn (two elt ta ia tb ib sc ps) 0 it D env = standAt ia.pos >>= fun _ => pyNext it >>= fun r => match r with
    | none => pure (.done .next)
    | some v => letOwnedTupleGo ta it v >>= fun _ => assign ta env v >>= fun _ => eval ib env >>= fun x => standAt ib.pos >>= fun _ => foldedSetIterable ib env x >>= fun x => holding [x] (pyIter x) >>= fun j =>
        runOwn (.compStart (two elt ta ia tb ib sc ps) 1 j D env) env >>= fun _ => again (.compLoop (two elt ta ia tb ib sc ps) 0 it D env) := by
  rfl
theorem turn_b (it D : Value) (env : PySem.Env) : compTurn (two elt ta ia tb ib sc ps) 1 it D env = standAt ib.pos >>= fun _ => pyNext it >>= fun r => match r with
    | none => pure (.done .next)
    | some v => letOwnedTupleGo tb it v >>= fun _ => assign tb env v >>= fun _ => (eval elt env >>= fun x => standAt elt.pos >>= fun _ => call (.builtin "set.add") [D, x] >>= fun _ => pure PUnit.unit) >>= fun _ =>
        again (.compLoop (two elt ta ia tb ib sc ps) 1 it D env) := by
  rfl
end
/-- a set of numbers grows -/
def grown (w : World) (D : Addr) (S : Int → Bool) (n : Nat) (k : Int) : HO := SetO w D (fun j => S j || decide (j = k)) (if S k = true then n else n + 1)
/-- what the inner clause must do, from one turn of the outer one -/
def InW (w : World) (D : Addr) (J1 : It) (g1 : TG) (te : TE) (vs1 : List Nat) (σ2 : L2.St) (H4 : Hp) (Nx : Hp → Prop) : Prop :=
  ∃ V : Nat → Nat → Hp → Prop, (∃ m, V 0 m H4) ∧ ∀ j m H, V j m H → (J1.stop j H ∧ Nx H) ∨ (J1.go j H ∧ ∃ N1 : Hp → Prop, (∀ H', N1 H' → ∃ m', m' < m ∧ V (j + 1) m' H') ∧
    ∀ x H', J1.yld j H x H' → g1 x (wipe σ2 vs1) H' fun σ3 H5 => wipe σ3 vs1 = wipe σ2 vs1 ∧ te σ3 H5 fun y H7 => ∃ k S n, y = .int k ∧ H7 D = some (SetO w D S n) ∧ n + 1 < scanBound ∧ N1 (upd H7 D (grown w D S n k)))
def tTwo (w : World) (wi : TI) (g : TG) (wi1 : TI) (g1 : TG) (te : TE) (vs vs1 : List Nat) : TE := fun σ H Q => wi σ H fun J H1 => ∀ D, H1 D = none →
  ∃ V : Nat → Nat → Hp → Prop, (∃ m, V 0 m (upd H1 D (SetO w D (fun _ => false) 0))) ∧ ∀ i m H, V i m H → (J.stop i H ∧ Q (.ref D) H) ∨ (J.go i H ∧ ∃ N : Hp → Prop, (∀ H', N H' → ∃ m', m' < m ∧ V (i + 1) m' H') ∧
    ∀ x H', J.yld i H x H' → g x (wipe σ vs) H' fun σ2 H2 => wipe σ2 vs = wipe σ vs ∧ wi1 σ2 H2 fun J1 H4 => InW w D J1 g1 te vs1 σ2 H4 N)
section
variable {elt ta ia tb ib : Expr} {sc : Scope} {ps : Pos}
/-- a clause begins -/
theorem begin_two {P : Program} {w : World} {A : Around} {R : Result → Shared → Prop} {s : Shared} {D it : Value} {env : PySem.Env} (n : Nat) (hn : n = 0 ∨ n = 1)
    (go : codeAny (model P w) A (.compLoop (two elt ta ia tb ib sc ps) n it D env) R s)
    (own : wpAny (model P w) A (pyIter it) (fun j s' => codeAny (model P w) A (.compLoop (two elt ta ia tb ib sc ps) n j D env) R s') (fun _ _ => False) s) : codeAny (model P w) A (.compStart (two elt ta ia tb ib sc ps) n it D env) R s := by
  have own2 : ∀ E, wpAny (model P w) A (pyIter it) (fun j s' => codeAny (model P w) A (.compLoop (two elt ta ia tb ib sc ps) n j D env) R s') E s := fun E => thnF own fun _ _ h => h
  refine codeAny_of_tree (show wpAny _ _ (Sem.onRaise (compStart (two elt ta ia tb ib sc ps) n it D env) fun x => do noteFrame x env; standAt theWindowsPlace) _ _ s from wpAny_notedAt ?_)
  unfold compStart two
  rcases hn with rfl | rfl
  · refine (show wpAny _ _ (ask >>= _) _ _ s from wpAny_bind (wpAny_askSetting (wpAny_ite ?_)))
    split
    · first
        | exact wpAny_pure ⟨rfl, go⟩
        | exact wpAny_bind (wpAny_pure (wpAny_pure ⟨rfl, go⟩))
    · refine wpAny_bind (wpAny_rule (show wpAny _ _ (standAt ia.pos >>= _) _ _ s from wpAny_bind (wpAny_standAt (wpAny_bind (thn (own2 _) fun j s' h' => wpAny_pure ⟨rfl, h'⟩)))))
  · refine (show wpAny _ _ (ask >>= _) _ _ s from wpAny_bind (wpAny_askSetting (wpAny_ite ?_)))
    split
    · first
        | exact wpAny_pure ⟨rfl, go⟩
        | exact wpAny_bind (wpAny_pure (wpAny_pure ⟨rfl, go⟩))
    · refine wpAny_bind (wpAny_rule (show wpAny _ _ (standAt ib.pos >>= _) _ _ s from wpAny_bind (wpAny_standAt (wpAny_bind (thn (own2 _) fun j s' h' => wpAny_pure ⟨rfl, h'⟩)))))
variable {Y : Cx}
theorem grows {pins : List (Addr × Obj)} {σ : L2.St} {H : Hp} {s : Shared} {E : Value → Shared → Prop} {D : Addr} {S : Int → Bool} {n : Nat} {k : Int} {tk : Tok} {Q : Value → Shared → Prop} (I : Inv Y pins σ H s) (hD : H D = some (SetO Y.w D S n)) (room : n + 1 < scanBound)
    (q : ∀ v s', Inv Y pins σ (upd H D (grown Y.w D S n k)) s' → Q v s') : wpAny (model Y.prog Y.w) Y.A (call (.builtin "set.add") [.ref D, .int k tk]) Q E s := by
  refine setR_add (setO_get I hD) room fun hp sb R => ?_
  obtain ⟨o, _, _, _, ho, _⟩ := id R
  exact q _ _ (I.write (e := D) (t' := s.toks + 1) (by rw [hD]; trivial) (.inl rfl) (fun b u hb hu => (sb.2 b hb).trans hu) ⟨o, ho⟩ (setO_new R))
/-- the inner clause, in the block -/
theorem inner_two (calm : Y.calm = true) {g1 : TG} {te : TE} {vs1 : List Nat} {J1 : It} {fp1 : List Addr} {it1 : Addr} {tn1 : Nat → Heap → Prop} (T1 : Turn Y.prog Y.w Y.K tb J1 fp1 it1 tn1) (pg : PG Y tb g1) (pe : PE Y elt te)
    {pinA : List (Addr × Obj)} {σ2 : L2.St} {H4 : Hp} {s4 : Shared} {D : Addr} {R : Result → Shared → Prop} {Nx : Hp → Prop} (I4 : Inv Y pinA σ2 H4 s4) (t4 : tn1 0 s4.heap) (f4 : ∀ b ∈ fp1, FpOk Y pinA H4 b) (hw : InW Y.w D J1 g1 te vs1 σ2 H4 Nx) (noE : ∀ e s', ¬ Y.xe e s')
    (fin : ∀ s' H', Inv Y pinA (wipe σ2 vs1) H' s' → Nx H' → R (.ok .next) s') : codeAny (model Y.prog Y.w) Y.A (.compStart (two elt ta ia tb ib sc ps) 1 (.ref it1) (.ref D) Y.env) R s4 := by
  obtain ⟨V, ⟨m0, v0⟩, step⟩ := hw
  have fk : ∀ H', (∀ b ∈ fp1, H' b = none) → ∀ b ∈ fp1, FpOk Y pinA H' b := fun H' hn b hb => ⟨hn b hb, (f4 b hb).2⟩
  have noF : ∀ {α : Type} {t : Sem α} {Q : α → Shared → Prop} {s : Shared} {A : Around}, wpAny (model Y.prog Y.w) A t Q Y.xe s → wpAny (model Y.prog Y.w) A t Q (fun _ _ => False) s := fun h => wpAny_mono h (fun _ _ q => q) fun e s' q => noE e s' q
  have loop : codeAny (model Y.prog Y.w) Y.A (.compLoop (two elt ta ia tb ib sc ps) 1 (.ref it1) (.ref D) Y.env) R s4 := by
    refine codeAny_loop rfl (fun m s' => ∃ j H', Inv Y pinA (wipe σ2 vs1) H' s' ∧ tn1 j s'.heap ∧ (∀ b ∈ fp1, H' b = none) ∧ V j m H') (fun m s5 hI => ?_) m0 ⟨0, H4, I4.weak (wipe_length _ _) (fun j v e => (wipe_some e).1), t4, fun b hb => (f4 b hb).1, v0⟩
    obtain ⟨j, H5, I5, t5, n5, v5⟩ := hI
    refine (show wpAny _ Y.A (Sem.onRaise (compTurn (two elt ta ia tb ib sc ps) 1 (.ref it1) (.ref D) Y.env) fun x => do noteFrame x Y.env; theTreesLotGoes x) _ _ s5 from wpAny_noted ?_)
    rw [turn_b]
    refine wpAny_bind (wpAny_standAt ?_)
    rcases step j m H5 v5 with ⟨stop, nx⟩ | ⟨go, N1, hN1, turn⟩
    · refine wpAny_bind (thnF (T1.done Y rfl rfl rfl calm j _ s5 (wipe σ2 vs1) H5 (fun _ _ => False) I5 (fk H5 n5) t5 stop) fun r s6 ⟨e, I6⟩ => ?_)
      subst e
      exact wpAny_pure (fin s6 H5 I6 nx)
    · refine wpAny_bind (thnF (T1.item Y rfl rfl rfl calm j _ s5 (wipe σ2 vs1) H5 (fun _ _ => False) I5 (fk H5 n5) t5 go) fun r s6 ⟨u, e, h6⟩ => ?_)
      subst e
      refine wpAny_bind (thnF h6 fun _ s7 ⟨x, H7, I7, rx, yx, t7, n7⟩ => ?_)
      have P7 := I7.pinned (fk H7 n7) (T1.obj _ _ t7)
      refine wpAny_bind (thnF (noF (pg.run _ s7 (wipe σ2 vs1) H7 x u _ P7 rx (turn x H7 yx))) fun _ s8 ⟨σ8, H8, I8, w8, q8⟩ => ?_)
      refine wpAny_bind (wpAny_bind (thnF (noF (pe.run _ s8 σ8 H8 _ I8 q8)) fun y s9 ⟨yv, H9, I9, ry, k, S, n, ey, hD, room, nx⟩ => ?_))
      subst ey
      obtain ⟨tk, rfl⟩ : ∃ t, y = Value.int k t := ry
      refine wpAny_bind (wpAny_standAt (wpAny_bind (grows I9 hD room fun v s10 I10 => wpAny_pure (wpAny_pure ⟨rfl, ?_⟩))))
      obtain ⟨m', lt, v'⟩ := hN1 _ nx
      have kept : ∀ b ∈ fp1, ∀ o, s7.heap.get? b = some o → s10.heap.get? b = some o ∧ (upd H9 D (grown Y.w D S n k)) b = none := fun b hb o e => by
        have z := I10.pin (b, o) (List.mem_append_right _ (List.mem_append_right _ (mem_pinsAt hb e)))
        exact ⟨z.1, z.2.1⟩
      refine ⟨m', lt, j + 1, _, I10.unpinned.weak (by rw [← w8, wipe_length]) (fun i v e => ?_), T1.keep _ _ _ t7 fun b hb o e => (kept b hb o e).1, fun b hb => ?_, v'⟩
      · rw [← w8] at e
        exact (wipe_some e).1
      · obtain ⟨o, e, _⟩ := T1.obj _ _ t7 b hb
        exact (kept b hb o e).2
  exact begin_two 1 (.inr rfl) loop (T1.self Y.A 0 _ _ _ t4 loop)
/-- the whole set, as a value -/
theorem pe_two {X : Cx} {own : List (Str × Nat)} {vs1 : List Nat} {wi wi1 : TI} {g g1 : TG} {te : TE} (calm : X.calm = true) (nodup : X.N.Nodup) (src : PI X ta ia wi) (blk : BlkOk X.N X.env.scope sc own) (inn : ∀ i ∈ vs1, i ∈ own.map (·.2))
    (pg : ∀ (s : Shared) (H : Hp) (C : Addr) (cl : List (Str × Addr)) (fp : List Addr), PG (X.blk s H sc (compEnvC sc cl C X.env) fp) ta g)
    (src1 : ∀ (s : Shared) (H : Hp) (C : Addr) (cl : List (Str × Addr)) (fp : List Addr), PI (X.blk s H sc (compEnvC sc cl C X.env) fp) tb ib wi1)
    (pg1 : ∀ (s : Shared) (H : Hp) (C : Addr) (cl : List (Str × Addr)) (fp : List Addr), PG (X.blk s H sc (compEnvC sc cl C X.env) fp) tb g1)
    (pe : ∀ (s : Shared) (H : Hp) (C : Addr) (cl : List (Str × Addr)) (fp : List Addr), PE (X.blk s H sc (compEnvC sc cl C X.env) fp) elt te)
    (f0 : ∀ x, foldedSetIterable ia X.env x = pure x) (f1 : ∀ env x, foldedSetIterable ib env x = pure x) : PE X (two elt ta ia tb ib sc ps) (tTwo X.w wi g wi1 g1 te (own.map (·.2)) vs1) := by
  refine ⟨fun pins s σ H Q I h => ?_⟩
  have free : ∀ y ∈ sc.names, y.2 = .free → ∃ c, X.env.cells.lookup y.1 = some c := fun y hy e => (blk.free y hy e).elim (fun k => I.ok.has _ (.inl k)) fun k => I.ok.has _ (.inr k)
  show wpAny _ X.A (comprehension (two elt ta ia tb ib sc ps) sc X.env (firstIterPos _ ps) (newSet (.type "set")) false (eval ia X.env) none) _ _ s
  refine wpAny_comprehension_free rfl f0 (closure_ok free) blk.kind (fun y hy e => by rw [blk.uniq y hy, e]) (thn (src.run pins s σ H _ I h) fun xv s1 h1 => thn h1 fun itv s2 h2 => ?_)
  obtain ⟨it, fp, tn, J, H2, rfl, I2, T, t2, fp2, q⟩ := h2
  refine PpSet.newSet_ok (newEnv_comp ?_)
  obtain ⟨D, hD⟩ : ∃ D, s2.heap.objs.size = D := ⟨_, rfl⟩
  have dn : H2 D = none := I2.hok.fresh (Nat.le_of_eq hD)
  obtain ⟨V, ⟨m0, v0⟩, step⟩ := q D dn
  rw [hD]
  obtain ⟨s3, hs3⟩ : ∃ s3 : Shared, s3 = { s2 with heap := s2.heap.push { cls := .type "set", dict := none, data := .set #[] 0 (.fresh 0 0 (!X.w.params.followText "set-order")) } } := ⟨_, rfl⟩
  rw [← hs3]
  obtain ⟨H3, hH3⟩ : ∃ H3 : Hp, H3 = upd H2 D (SetO X.w D (fun _ => false) 0) := ⟨_, rfl⟩
  rw [← hH3] at v0
  have I3 : Inv X pins σ H3 s3 := by
    subst hs3 hH3 hD
    exact I2.laid (t' := s2.toks) (fun b o e => Heap.get?_push_of_some _ e) (Nat.le_refl _) (setO_new (setR_fresh X.w))
  have k3 : ∀ b o, s2.heap.get? b = some o → s3.heap.get? b = some o := fun b o e => by subst hs3; exact Heap.get?_push_of_some _ e
  have fp3 : ∀ b ∈ fp, FpOk X pins H3 b ∧ b < s3.heap.objs.size := fun b hb => by
    obtain ⟨o, e, _⟩ := T.obj _ _ t2 b hb
    have lt := Heap.lt_size e
    refine ⟨⟨by rw [hH3, upd_ne (by rw [← hD]; exact Nat.ne_of_lt lt)]; exact (fp2 b hb).1, (fp2 b hb).2⟩, Heap.lt_size (k3 b o e)⟩
  have t3 : tn 0 s3.heap := T.keep _ _ _ t2 fun b _ o e => k3 b o e
  have I4 := block_start I3 blk nodup fp3
  have n3 : ∀ b ∈ fp, H3 b = none := fun b hb => (fp3 b hb).1.1
  have pg := pg s3 H3 s3.heap.objs.size (cellsFrom (s3.heap.objs.size + 1) sc.names (cloFrom X.env.cells sc.names [])) fp
  have src1 := src1 s3 H3 s3.heap.objs.size (cellsFrom (s3.heap.objs.size + 1) sc.names (cloFrom X.env.cells sc.names [])) fp
  have pg1 := pg1 s3 H3 s3.heap.objs.size (cellsFrom (s3.heap.objs.size + 1) sc.names (cloFrom X.env.cells sc.names [])) fp
  have pe := pe s3 H3 s3.heap.objs.size (cellsFrom (s3.heap.objs.size + 1) sc.names (cloFrom X.env.cells sc.names [])) fp
  obtain ⟨ce, hce⟩ : ∃ ce, ce = compEnvC sc (cellsFrom (s3.heap.objs.size + 1) sc.names (cloFrom X.env.cells sc.names [])) s3.heap.objs.size X.env := ⟨_, rfl⟩
  rw [← hce] at I4 pg src1 pg1 pe
  have loc : ce.locals = s3.heap.objs.size := by rw [hce]; rfl
  obtain ⟨s4, hs4⟩ : ∃ s4 : Shared, s4 = { s3 with heap := pushCells (s3.heap.push { cls := .type "dict", data := .dict #[] }) sc.names } := ⟨_, rfl⟩
  show codeAny _ _ (.compStart (two elt ta ia tb ib sc ps) 0 (.ref it) (.ref D) (compEnvC sc (cellsFrom (s3.heap.objs.size + 1) sc.names (cloFrom X.env.cells sc.names [])) s3.heap.objs.size X.env)) (compPost (model X.prog X.w) X.A X.xe none (EP X pins σ Q) (.ref D) s3.heap.objs.size) { s3 with heap := pushCells (s3.heap.push { cls := .type "dict", data := .dict #[] }) sc.names }
  rw [← hce, ← hs4]
  rw [← hs4] at I4
  have t4 : tn 0 s4.heap := T.keep _ _ _ t3 fun b _ o e => by subst hs4; exact pushCells_keeps _ _ _ _ (Heap.get?_push_of_some _ e)
  obtain ⟨Y, hY⟩ : ∃ Y, Y = X.blk s3 H3 sc ce fp := ⟨_, rfl⟩
  rw [← hY] at I4 pg src1 pg1 pe
  have yc : Y.calm = true := by rw [hY]; exact calm
  have ye : ∀ e s', ¬ Y.xe e s' := by subst hY; exact fun _ _ h => h
  have fk : ∀ {σ' : L2.St} {H' : Hp} {s' : Shared}, Inv Y [] σ' H' s' → (∀ b ∈ fp, H' b = none) → ∀ b ∈ fp, FpOk Y [] H' b := by
    subst hY
    exact fun {σ' H' s'} I' hn b hb => ⟨hn b hb, (I'.ok.exf b hb).1, I'.ok.exfs b hb, .inl hb, fun x c e => (I'.ok.exf b hb).2 x c e, fun p hp => by simp at hp⟩
  subst hY
  have loop : codeAny (model X.prog X.w) X.A (.compLoop (two elt ta ia tb ib sc ps) 0 (.ref it) (.ref D) ce) (compPost (model X.prog X.w) X.A X.xe none (EP X pins σ Q) (.ref D) s3.heap.objs.size) s4 := by
    refine codeAny_loop rfl (fun m s' => ∃ i H', Inv (X.blk s3 H3 sc ce fp) [] (wipe σ (own.map (·.2))) H' s' ∧ tn i s'.heap ∧ (∀ b ∈ fp, H' b = none) ∧ V i m H') (fun m s5 hI => ?_) m0 ⟨0, H3, I4, t4, n3, v0⟩
    obtain ⟨i, H5, I5, t5, n5, v5⟩ := hI
    refine (show wpAny _ X.A (Sem.onRaise (compTurn (two elt ta ia tb ib sc ps) 0 (.ref it) (.ref D) ce) fun x => do noteFrame x ce; theTreesLotGoes x) _ _ s5 from wpAny_noted ?_)
    rw [turn_a]
    refine wpAny_bind (wpAny_standAt ?_)
    rcases step i m H5 v5 with ⟨stop, qq⟩ | ⟨go, N, hN, turn⟩
    · refine wpAny_bind (thnF (T.done (X.blk s3 H3 sc ce fp) rfl rfl rfl calm i [] s5 _ H5 (fun _ _ => False) I5 (fk I5 n5) t5 stop) fun r s6 ⟨e, I6⟩ => ?_)
      subst e
      have back : Inv X pins σ H5 s6 := I3.call' (ch := fp) I6.os I6.base I6.hok I6.bare fun b hb => let z := (fp3 b hb).1; ⟨z.2.2.2.1, z.2.1, z.2.2.2.2.1, z.2.2.2.2.2⟩
      have fr : H5 s3.heap.objs.size = none := by rw [← loc]; exact I6.free
      obtain ⟨mm, hn, _⟩ := I6.loc
      replace hn : s6.heap.Ns ce.locals mm := hn
      rw [loc] at hn
      obtain ⟨a0, a1, a2, a3, a4, a5⟩ := I3.fpOk (Nat.le_refl _) fr
      exact wpAny_pure ⟨mm, hn, fun hp sb => ⟨.ref D, H5, back.turned (t' := s6.toks) (fun b o hb e => (sb.2 b hb).trans e) a0 a1 a3 a4 a5, rfl, qq⟩⟩
    · refine wpAny_bind (thnF (T.item (X.blk s3 H3 sc ce fp) rfl rfl rfl calm i [] s5 _ H5 (fun _ _ => False) I5 (fk I5 n5) t5 go) fun r s6 ⟨u, e, h6⟩ => ?_)
      subst e
      refine wpAny_bind (thnF h6 fun _ s7 ⟨x, H7, I7, rx, yx, t7, n7⟩ => ?_)
      have P7 := I7.pinned (fk I7 n7) (T.obj _ _ t7)
      refine wpAny_bind (thnF (pg.run _ s7 _ H7 x u _ P7 rx (turn x H7 yx)) fun _ s8 ⟨σ8, H8, I8, w8, q8⟩ => ?_)
      refine wpAny_bind (thnF (src1.run _ s8 σ8 H8 _ I8 q8) fun xv s9 h9 => wpAny_bind (wpAny_standAt (wpAny_bind (wpAny_of_eq (f1 ce xv) (wpAny_bind (wpAny_holding (thnF h9 fun jv s10 h10 => ?_)))))))
      obtain ⟨it1, fp1, tn1, J1, H10, rfl, I10, T1, t10, fp10, inw⟩ := h10
      refine wpAny_bind (wpAny_runOwn ?_)
      rw [Around.mark_none]
      have len8 : (wipe σ (own.map (·.2))).length = (wipe σ8 vs1).length := by rw [wipe_length σ8, ← wipe_length σ8 (own.map (·.2)), w8]
      have low : ∀ (j : Nat) v, (wipe σ (own.map (·.2)))[j]? = some (some v) → (wipe σ8 vs1)[j]? = some (some v) := fun j v e => by
        rw [← w8] at e
        have z := wipe_some e
        rw [L2.wipe_out fun q => z.2 (inn j q)]
        exact z.1
      refine codeAny_mono (inner_two (Y := X.blk s3 H3 sc ce fp) (R := fun r s' => ∃ f, r = .ok f ∧ ∃ m', m' < m ∧ ∃ i H', Inv (X.blk s3 H3 sc ce fp) [] (wipe σ (own.map (·.2))) H' s' ∧ tn i s'.heap ∧ (∀ b ∈ fp, H' b = none) ∧ V i m' H') yc T1 pg1 pe I10 t10 fp10 inw ye fun s' H' I' nx => ?_) fun r s' hr => ?_
      · obtain ⟨m', lt, v'⟩ := hN H' nx
        have kept : ∀ b ∈ fp, ∀ o, s7.heap.get? b = some o → s'.heap.get? b = some o ∧ H' b = none := fun b hb o e => by
          have z := I'.pin (b, o) (List.mem_append_right _ (List.mem_append_right _ (mem_pinsAt hb e)))
          exact ⟨z.1, z.2.1⟩
        refine ⟨.next, rfl, m', lt, i + 1, H', (I'.unpinned (pins := [])).weak len8 low, T.keep _ _ _ t7 fun b hb o e => (kept b hb o e).1, fun b hb => ?_, v'⟩
        obtain ⟨o, e, _⟩ := T.obj _ _ t7 b hb
        exact (kept b hb o e).2
      · obtain ⟨f, rfl, hr⟩ := hr
        exact wpAny_pure ⟨rfl, hr⟩
  exact begin_two 0 (.inl rfl) loop (T.self X.A 0 _ _ _ t4 loop)
end
end Mm

/-! ### sorted({v for t in xs for v in range(a, b + c)}) -/
namespace Mm
open PySem L2 PySem.Spec PyProof.Rows
def rng (a : Int) (n : Nat) : List Int := (List.range n).map fun (i : Nat) => a + (i : Int)
theorem rng_succ (a : Int) (n : Nat) : rng a (n + 1) = rng a n ++ [a + (n : Int)] := by simp [rng, List.range_succ]
def spanL (t : TX) (i j kv : Nat) (c : Int) (e0 : Env) : List D → List Int → Option (List Int)
  | [], acc => some acc
  | d :: ds, acc => match t d e0 with
    | none => none
    | some e1 => match e1[i]?, e1[j]? with
      | some (some (.int a)), some (some (.int b)) => if (bigR a && bigR (b + c) && decide (kv < e1.length) && decide (acc.length + (b + c - a).toNat ≤ 4000)) = true then spanL t i j kv c e0 ds (acc ++ rng a (b + c - a).toNat) else none
      | _, _ => none
def eSpans (own : List Nat) (fa : EX) (t : TX) (i j kv : Nat) (c : Int) : EX := fun e st => (fa e st).bind fun x st1 => match x with
  | .ref r => match cellItems st1[r]? with
    | some ds => match spanL t i j kv c (wipeE e own) ds [] with
      | some acc => if decide ((uniL acc).length < 64) = true then .ok (.ref st1.length) (st1 ++ [.lst ((uniL acc).map .int)]) else .no
      | none => .no
    | none => .no
  | _ => .no
theorem insU_new {k : Int} : ∀ {l : List Int}, k ∉ l → (insU k l).length = l.length + 1
  | [], _ => rfl
  | x :: r, h => by
    have h1 : k ≠ x := fun e => h (by simp [e])
    have h2 : k ∉ r := fun m => h (by simp [m])
    unfold insU
    split
    · rfl
    · first
        | rw [if_neg h1, List.length_cons, insU_new h2, List.length_cons]
        | rw [List.length_cons, insU_new h2, List.length_cons]
theorem uniL_add (acc : List Int) (k : Int) : (uniL (acc ++ [k])).length = if k ∈ acc then (uniL acc).length else (uniL acc).length + 1 := by
  by_cases h : k ∈ acc
  · rw [if_pos h, srt_one (uniL_srt (acc ++ [k])) (uniL_srt acc) fun j => by
      rw [uniL_mem, uniL_mem, List.mem_append, List.mem_singleton]
      exact ⟨fun q => q.elim id fun e => e ▸ h, .inl⟩]
  · rw [if_neg h, srt_one (uniL_srt (acc ++ [k])) (insU_srt k _ (uniL_srt acc)) fun j => by
      rw [uniL_mem, insU_mem, uniL_mem, List.mem_append, List.mem_singleton]
      exact Or.comm]
    exact insU_new (by rw [uniL_mem]; exact h)
theorem uniL_le : ∀ l : List Int, (uniL l).length ≤ l.length
  | [] => Nat.le_refl 0
  | k :: r => by
    have h := uniL_le r
    have h2 : ∀ l : List Int, (insU k l).length ≤ l.length + 1 := by
      intro l
      induction l with
      | nil => exact Nat.le_refl 1
      | cons x l ih =>
        unfold insU
        split
        · exact Nat.le_refl _
        · split
          · simp
          · simp only [List.length_cons]; omega
    have := h2 (uniL r)
    simp only [uniL, List.length_cons]
    omega
def ofL (w : World) (D : Addr) (acc : List Int) : HO := SetO w D (fun j => decide (j ∈ acc)) (uniL acc).length
theorem ofL_nil (w : World) (D : Addr) : SetO w D (fun _ => false) 0 = ofL w D [] := by
  unfold ofL
  congr 1
theorem ofL_add (w : World) (D : Addr) (acc : List Int) (k : Int) : grown w D (fun j => decide (j ∈ acc)) (uniL acc).length k = ofL w D (acc ++ [k]) := by
  unfold ofL grown
  rw [uniL_add]
  congr 1
  · funext j
    rw [Bool.eq_iff_iff]
    simp
  · simp
theorem big_ok {i : Int} (h : bigR i = true) : -(2 ^ 62) ≤ i ∧ i < 2 ^ 62 := by
  unfold bigR at h
  simp only [decide_eq_true_eq] at h
  omega
section
variable {X : Cx} {T : List (Addr × Str)} {W : WX} {tg a : Expr} {fa : EX} {t : TX} {sc : Scope} {ps p p3 px py pv1 pv2 pr pb pc pos : Pos} {own : List (Str × Nat)} {us vs : List Nat} {i j kv : Nat} {c : Int} {x y v : Str} {kc : Nat}
theorem j_spans (hc : X.calm = true) (hN : X.N.Nodup) (hg : Gl X "sorted") (hm : X.mg "sorted" = none) (hg2 : ∀ (s : Shared) (H : Hp) (C : Addr) (cl : List (Str × Addr)) (fp : List Addr), Gl (X.blk s H sc (compEnvC sc cl C X.env) fp) "range") (hm2 : X.mg "range" = none)
    (ha : J X T W a fa) (blk : BlkOk X.N X.env.scope sc own) (hu : ∀ k ∈ us, k ∈ own.map (·.2)) (hv : ∀ k ∈ vs, k ∈ own.map (·.2)) (hkv : kv ∈ vs)
    (jg : ∀ (s : Shared) (H : Hp) (C : Addr) (cl : List (Str × Addr)) (fp : List Addr), JG false (X.blk s H sc (compEnvC sc cl C X.env) fp) T us tg t)
    (ex : ∀ (s : Shared) (H : Hp) (C : Addr) (cl : List (Str × Addr)) (fp : List Addr), PE (X.blk s H sc (compEnvC sc cl C X.env) fp) (.Name x px) (tVar i))
    (ey : ∀ (s : Shared) (H : Hp) (C : Addr) (cl : List (Str × Addr)) (fp : List Addr), PE (X.blk s H sc (compEnvC sc cl C X.env) fp) (.Name y py) (tVar j))
    (ev : ∀ (s : Shared) (H : Hp) (C : Addr) (cl : List (Str × Addr)) (fp : List Addr), PE (X.blk s H sc (compEnvC sc cl C X.env) fp) (.Name v pv1) (tVar kv))
    (gv : ∀ (s : Shared) (H : Hp) (C : Addr) (cl : List (Str × Addr)) (fp : List Addr), PG (X.blk s H sc (compEnvC sc cl C X.env) fp) (.Name v pv2) (gName kv))
    (f0 : ∀ z, foldedSetIterable a X.env z = pure z := by intro _; rfl)
    (hs : starEach [two (.Name v pv1) tg a (.Name v pv2) (.Call (.Name "range" p3) [.Name x px, .BinOp (.Name y py) .Add (.Constant (.int c) kc pc) pb] [] pr) sc ps] X.env = (false, eval (two (.Name v pv1) tg a (.Name v pv2) (.Call (.Name "range" p3) [.Name x px, .BinOp (.Name y py) .Add (.Constant (.int c) kc pc) pb] [] pr) sc ps) X.env) :: starEach [] X.env := by rfl) :
    J X T W (.Call (.Name "sorted" p) [two (.Name v pv1) tg a (.Name v pv2) (.Call (.Name "range" p3) [.Name x px, .BinOp (.Name y py) .Add (.Constant (.int c) kc pc) pb] [] pr) sc ps] [] pos) (eSpans (own.map (·.2)) fa t i j kv c) := by
  have inner := pe_two (elt := .Name v pv1) (ta := tg) (ia := a) (tb := .Name v pv2) (ib := .Call (.Name "range" p3) [.Name x px, .BinOp (.Name y py) .Add (.Constant (.int c) kc pc) pb] [] pr) (sc := sc) (ps := ps) (vs1 := vs) (g := gT false X.K T us t) hc hN (pi_list (tg := tg) ha) blk hv (fun s H C cl fp => jg s H C cl fp)
    (fun s H C cl fp => pi_range2 (hg2 s H C cl fp) hm2 (pa_cons (ex s H C cl fp) (pa_cons (pe_op op_add (ey s H C cl fp) pe_int) pa_nil (by rfl)) (by rfl)) (by rfl) (by rfl)) gv ev f0 (fun _ _ => rfl)
  refine pe_weak (pe_callB (cr_sortedSet hc) hg hm rfl (pa_cons inner pa_nil hs) (by decide) (by decide) hs (by rfl)) fun s H Q ⟨e, st, m, he, ok, h⟩ => ⟨e, st, m, he, ok, h.bind fun d vd st1 H1 m1 _ l1 p1 ok1 rd h1 => ?_⟩
  match d, rd, h1 with
  | .ref r, rd, h1 =>
    cases hci : cellItems st1[r]? with
    | none => simp only [hci] at h1; exact h1.elim
    | some ds =>
      simp only [hci] at h1
      cases hsp : spanL t i j kv c (wipeE e (own.map (·.2))) ds [] with
      | none => simp only [hsp] at h1; exact h1.elim
      | some accE =>
        simp only [hsp] at h1
        by_cases h64 : (uniL accE).length < 64
        · rw [if_pos (decide_eq_true h64)] at h1
          obtain ⟨al, hml, rfl⟩ := rd
          obtain ⟨al', vl, z1, z2, z3⟩ := cellItems_ok ok1 hci
          rw [hml] at z1
          cases z1
          refine ⟨al, rfl, ⟨vl, z2⟩, fun D dn => ?_⟩
          have okD : ∀ acc, Ok X.K T (upd H1 D (ofL X.w D acc)) m1 st1 := fun acc => ok1.new dn
          have leD : ∀ acc, Le H1 (upd H1 D (ofL X.w D acc)) := fun acc => Le.new dn
          have sqD : ∀ acc, SqL X.K (upd H1 D (ofL X.w D acc)) al vl := fun acc => by
            rcases z2 with (q | ⟨o, q⟩) | q
            · exact .inl (.inl (by rw [upd_ne (ne_of_none q dn)]; exact q))
            · exact .inl (.inr ⟨o, by rw [upd_ne (ne_of_none q dn)]; exact q⟩)
            · exact .inr q
          refine ⟨fun n k H' => ∃ acc, k = ds.length - n ∧ n ≤ ds.length ∧ H' = upd H1 D (ofL X.w D acc) ∧ acc.length ≤ 4000 ∧ spanL t i j kv c (wipeE e (own.map (·.2))) (ds.drop n) acc = some accE, ⟨ds.length, [], by simp, Nat.zero_le _, by rw [ofL_nil], by simp, by simpa using hsp⟩, ?_⟩
          rintro n k H' ⟨acc, rfl, hle, rfl, hla, hd⟩
          by_cases hlt : n < ds.length
          · rw [List.drop_eq_getElem_cons hlt, spanL] at hd
            obtain ⟨xv, hx1, hx2⟩ := Reps.get (z3.mono (leD acc) (.refl m1)) (List.getElem?_eq_getElem hlt)
            cases ht : t ds[n] (wipeE e (own.map (·.2))) with
            | none => rw [ht] at hd; cases hd
            | some e1 =>
              rw [ht] at hd
              dsimp only at hd
              split at hd
              · rename_i av bv hi hj
                by_cases hb : (bigR av && bigR (bv + c) && decide (kv < e1.length) && decide (acc.length + (bv + c - av).toNat ≤ 4000)) = true
                · rw [if_pos hb] at hd
                  simp only [Bool.and_eq_true, decide_eq_true_eq] at hb
                  obtain ⟨⟨⟨b1, b2⟩, b3⟩, b4⟩ := hb
                  generalize hcnt : (bv + c - av).toNat = cnt at *
                  refine .inr ⟨⟨vl, xv, sqD acc, hx1⟩, fun H2 => H2 = upd H1 D (ofL X.w D (acc ++ rng av cnt)), fun H2 e2 => ⟨ds.length - (n + 1), by omega, acc ++ rng av cnt, rfl, hlt, e2, by simp [rng]; omega, hd⟩, fun x2 H2 hy => ?_⟩
                  obtain ⟨rfl, hy⟩ := hy
                  have hx3 := hy vl (sqD acc)
                  rw [hx1] at hx3
                  cases hx3
                  refine ⟨ds[n], wipeE e (own.map (·.2)), st1, m1, Rep.b hx2, wipe_env ((he.mono l1 p1).mono (leD acc) (.refl m1)) _, okD acc, e1, ht, fun s' he' bt => ⟨?_, ?_⟩⟩
                  · rw [bt.wipe hu]
                    exact But.wipe (ts := own.map (·.2)) ⟨by rw [L2.wipe_length], fun j hj => L2.wipe_out hj⟩ fun i hi => hi
                  · obtain ⟨u1, q1, q2⟩ := he'.2 i _ hi
                    obtain ⟨u2, q3, q4⟩ := he'.2 j _ hj
                    cases (show u1 = V.int av from q2)
                    cases (show u2 = V.int bv from q4)
                    have c1 := big_ok b1
                    have c2 := big_ok b2
                    have hk : kv < s'.length := he'.1 ▸ b3
                    refine ⟨.int av, q1, .int bv, q3, bv, c, rfl, rfl, av, bv + c, rfl, ⟨c1.1, c1.2, c2.1, c2.2⟩, ?_⟩
                    rw [hcnt]
                    refine ⟨fun n2 k2 H3 => k2 = cnt - n2 ∧ n2 ≤ cnt ∧ H3 = upd H1 D (ofL X.w D (acc ++ rng av n2)), ⟨cnt, by simp, Nat.zero_le _, by simp [rng]⟩, ?_⟩
                    rintro n2 k2 H3 ⟨rfl, hle2, rfl⟩
                    by_cases h2 : n2 < cnt
                    · refine .inr ⟨h2, fun H4 => H4 = upd H1 D (ofL X.w D (acc ++ rng av (n2 + 1))), fun H4 e4 => ⟨cnt - (n2 + 1), by omega, rfl, h2, e4⟩, fun x4 H4 hy4 => ?_⟩
                      obtain ⟨rfl, rfl⟩ := hy4
                      have hw : kv < (L2.wipe s' vs).length := by rw [L2.wipe_length]; exact hk
                      have hr := uniL_le (acc ++ rng av n2)
                      have hrl : (acc ++ rng av n2).length = acc.length + n2 := by simp [rng]
                      refine ⟨?_, .int (av + (n2 : Int)), List.getElem?_set_self hw, av + (n2 : Int), _, _, rfl, upd_same, by unfold scanBound; omega, ?_⟩
                      · rw [show L2.wipe ((L2.wipe s' vs).set kv (some (V.int (av + (n2 : Int))))) vs = L2.wipe (L2.wipe s' vs) vs from But.wipe (ts := [kv]) ⟨by simp, fun j hj => by rw [List.getElem?_set_ne (fun z => hj (by simp [z]))]⟩ (fun i hi => by rw [List.mem_singleton.mp hi]; exact hkv)]
                        exact But.wipe (ts := vs) ⟨by rw [L2.wipe_length], fun j hj => L2.wipe_out hj⟩ fun i hi => hi
                      · rw [upd_upd, ofL_add, rng_succ, List.append_assoc]
                    · have : n2 = cnt := by omega
                      subst this
                      exact .inl ⟨Nat.le_refl _, rfl⟩
                · rw [if_neg hb] at hd
                  cases hd
              · cases hd
          · have : n = ds.length := by omega
            subst this
            rw [List.drop_length, spanL] at hd
            cases hd
            refine .inl ⟨⟨vl, sqD accE, by rw [← z3.length]; exact Nat.le_refl _⟩, ?_⟩
            refine ⟨D, fun j => decide (j ∈ accE), (uniL accE).length, rfl, upd_same, h64, fun out q srt mem len hq => ?_⟩
            have : out = uniL accE := srt_one srt (uniL_srt accE) fun k => by rw [mem k, decide_eq_true_eq, uniL_mem]
            subst this
            exact h1 _ _ (m1 ++ [q]) ((leD accE).trans (Le.new hq)) (.add m1 q) ((okD accE).newCell hq (Reps.of_ints _)) ⟨q, by rw [← ok1.len]; simp, rfl⟩
        · rw [if_neg (by simpa using h64)] at h1
          exact h1.elim
  | .non, rd, h1 => exact h1.elim
  | .bl _, rd, h1 => exact h1.elim
  | .int _, rd, h1 => exact h1.elim
  | .str _, rd, h1 => exact h1.elim
  | .tup _, rd, h1 => exact h1.elim
end
end Mm

/-! ### x in l, x not in l: data in a list -/
namespace Mm
open PySem L2 PySem.Spec PyProof.Rows
def inD (x y : D) (st : Sto) : Option Bool := match pyS st x, pyS st y with
  | some d, some (.list ds) => if (SeqAt.shaped d && SeqAt.shaped (.list ds)) = true then some (ds.any fun z => PyData.eqv z d) else none
  | _, _ => none
def oIn : O2 := fun x y st => (inD x y st).map fun b => (.bl b, st)
def oNotIn : O2 := fun x y st => (inD x y st).map fun b => (.bl (!b), st)
section
variable {X : Cx} {T : List (Addr × Str)}
theorem inD_ok {x y : D} {st : Sto} {b : Bool} (h : inD x y st = some b) : ∃ d ds, pyS st x = some d ∧ pyS st y = some (.list ds) ∧ SeqAt.shaped d = true ∧ SeqAt.shaped (.list ds) = true ∧ (ds.any fun z => PyData.eqv z d) = b := by
  unfold inD at h
  split at h
  · rename_i d ds h1 h2
    split at h
    · rename_i hb
      cases h
      have hb := Bool.and_eq_true_iff.mp hb
      exact ⟨d, ds, h1, h2, hb.1, hb.2, rfl⟩
    · cases h
  · cases h
theorem ope_in (hu : X.A.units + 100 < cLine) : OpR X (compareOp .In) (r2 X.K T oIn) := op_of fun dx dy st m H x y r Q rx ry ok ho q => by
  simp only [oIn, Option.map_eq_some_iff] at ho
  obtain ⟨b, hb, rfl⟩ := ho
  obtain ⟨d, ds, h1, h2, h3, h4, h5⟩ := inD_ok hb
  refine ⟨_, op_inD (by omega), d, ds, dpS_of ok rx h1, dpS_of ok ry h2, h3, h4, ?_⟩
  rw [h5]
  exact deno_val q ok rfl
theorem ope_notin (hu : X.A.units + 100 < cLine) : OpR X (compareOp .NotIn) (r2 X.K T oNotIn) := op_of fun dx dy st m H x y r Q rx ry ok ho q => by
  simp only [oNotIn, Option.map_eq_some_iff] at ho
  obtain ⟨b, hb, rfl⟩ := ho
  obtain ⟨d, ds, h1, h2, h3, h4, h5⟩ := inD_ok hb
  refine ⟨_, op_notInD (by omega), d, ds, dpS_of ok rx h1, dpS_of ok ry h2, h3, h4, ?_⟩
  rw [h5]
  exact deno_val q ok rfl
end
end Mm

/-! the defs of the law undertwo_k05_places_of_dots over data, and that each does so -/
namespace Gk05
open PySem L2 Mm
def topS (i : Nat) : Stmt := PySem.Challenge.pw_undertwo_k05_places_of_dots.main.body.getD i (.Pass ⟨0, 0, 0, 0⟩)
def mnames : List Str := ["BadK", "BadRow"]
def mtab : Str → Str → Option Bool := mtOf []
def s_is_number : List D → Sto → R D := fnS 1
  (sRet (eAndT (e1 (oIsi "int") (eV 0)) (eNotT (e1 (oIsi "bool") (eV 0)))))
def s_is_within : List D → Sto → R D := fnS 3
  (sRet (eAndT (eCall s_is_number (aC (eV 0) aN)) (eCh oLe oLe (eV 1) (eV 0) (eV 2))))
def s_made_k : List D → Sto → R D := fnS 1
  (sSeq (sIf (bNot (bTru (eCall s_is_within (aC (eV 0) (aC (eC (.int 1)) (aC (eC (.int 60)) aN)))))) (sRaise "BadK" (aC (eC (.int 0)) aN)) sNx)
    (sRet (eV 0)))
def L1_wrong_at : SX := (sIf (bNot (bTru (eCall s_is_within (aC (eV 6) (aC (eV 3) (aC (eV 4) aN)))))) (sRet (eV 5)) sNx)
theorem L1_wrong_at_ap (e : Mm.Env) (st : Sto) : L1_wrong_at e st = ((sIf (bNot (bTru (eCall s_is_within (aC (eV 6) (aC (eV 3) (aC (eV 4) aN)))))) (sRet (eV 5)) sNx) : SX) e st := rfl
def s_wrong_at : List D → Sto → R D := fnS 7
  (sSeq (sIf (bOr (bNot (bTru (e1 (oIsi "tuple") (eV 0)))) (bNot (bB (eCh oLe oLe (eV 1) (eN oLen (aC (eV 0) aN)) (eV 2))))) (sRet (e1 oNeg (eC (.int 1)))) sNx)
    (sSeq (sFor (iEn (eV 0)) (tgTup (tgCons (tgN 5) (tgCons (tgN 6) tgNil))) L1_wrong_at)
    (sRet (eC .non))))
def s_made_row : List D → Sto → R D := fnS 2
  (sSeq (sSet 1 (eCall s_wrong_at (aC (eV 0) (aC (eC (.int 0)) (aC (eC (.int 24)) (aC (eC (.int 1)) (aC (eC (.int 99)) aN)))))))
    (sSeq (sIf (bB (e2 oIsN (eV 1) (eC .non))) (sRaise "BadRow" (aC (eV 1) aN)) sNx)
    (sRet (eV 0))))
def L1_owned : SX := (sSeq (sSet 5 (e2 oIx (eV 1) (e2 oSub (eV 3) (eC (.int 1)))))
    (sSeq (sSet 6 (eN oMax (aC (eC (.int 1)) (aC (e2 oSub (e2 oAdd (eV 0) (eC (.int 1))) (eV 4)) aN))))
    (sSeq (sSet 7 (eN oMin (aC (eV 0) (aC (eV 5) aN))))
    (sEx (eM1 oApp (eV 2) (eIf (bB (e2 oLe (eV 6) (eV 7))) (eTup (aC (eV 6) (aC (eV 7) aN))) (eC .non)))))))
theorem L1_owned_ap (e : Mm.Env) (st : Sto) : L1_owned e st = ((sSeq (sSet 5 (e2 oIx (eV 1) (e2 oSub (eV 3) (eC (.int 1)))))
    (sSeq (sSet 6 (eN oMax (aC (eC (.int 1)) (aC (e2 oSub (e2 oAdd (eV 0) (eC (.int 1))) (eV 4)) aN))))
    (sSeq (sSet 7 (eN oMin (aC (eV 0) (aC (eV 5) aN))))
    (sEx (eM1 oApp (eV 2) (eIf (bB (e2 oLe (eV 6) (eV 7))) (eTup (aC (eV 6) (aC (eV 7) aN))) (eC .non))))))) : SX) e st := rfl
def s_owned : List D → Sto → R D := fnS 8
  (sSeq (sEx (eCall s_made_k (aC (eV 0) aN)))
    (sSeq (sEx (eCall s_made_row (aC (eV 1) aN)))
    (sSeq (sSet 2 (eLst aN))
    (sSeq (sFor (iEn (eV 1)) (tgTup (tgCons (tgN 3) (tgCons (tgN 4) tgNil))) L1_owned)
    (sRet (eN oTupOf (aC (eV 2) aN)))))))
def I1_alone : BX := (bB (e2 oIsN (eV 3) (eC .non)))
theorem I1_alone_ap (e : Mm.Env) (st : Sto) : I1_alone e st = ((bB (e2 oIsN (eV 3) (eC .non))) : BX) e st := rfl
def E1_alone : EX := (eV 3)
theorem E1_alone_ap (e : Mm.Env) (st : Sto) : E1_alone e st = ((eV 3) : EX) e st := rfl
def s_alone : List D → Sto → R D := fnS 7
  (sSeq (sSet 2 (eLc [3] (iSeq (eCall s_owned (aC (eV 0) (aC (eV 1) aN)))) (tgN 3) I1_alone E1_alone))
    (sRet (eN oTupOf (aC (eSpans [4, 5, 6] (eV 2) (tgTup (tgCons (tgN 4) (tgCons (tgN 5) tgNil))) 4 5 6 1) aN))))
def s__law_pool : List D → Sto → R D := fnS 3
  (sSeq (sSet 1 (eIf (bB (e2 oGt (eN oLen (aC (eV 0) aN)) (eC (.int 0)))) (eN oInt (aC (e2 oIx (eV 0) (eC (.int 0))) aN)) (eC (.int 0))))
    (sSeq (sSet 2 (eIf (bB (e2 oGe (eV 1) (eC (.int 0)))) (e2 oMul (eC (.int 2)) (eV 1)) (e2 oSub (e1 oNeg (eC (.int 1))) (e2 oMul (eC (.int 2)) (eV 1)))))
    (sRet (eLst (aC (eIf (bB (e2 oGe (eV 2) (e2 oPow (eC (.int 10)) (eC (.int 18))))) (eV 2) (eC (.int 0))) (aC (e2 oAdd (e2 oMod (eN oInt (aC (e2 oAdd (e2 oMul (eV 2) (eC (.int 48271))) (eC (.int 1009))) aN)) (eC (.int 2147483629))) (eC (.int 3))) (aC (eN oListOf (aC (eSl (eV 0) (some (eC (.int 1))) none) aN)) aN)))))))
def L1__law_row_cells : SX := (sSet 3 (e2 oAdd (e2 oAdd (eV 3) (eLst (aC (eC (.int 1)) aN))) (e2 oMul (eLst (aC (eC (.int 0)) aN)) (e2 oSub (eV 4) (eC (.int 1))))))
theorem L1__law_row_cells_ap (e : Mm.Env) (st : Sto) : L1__law_row_cells e st = ((sSet 3 (e2 oAdd (e2 oAdd (eV 3) (eLst (aC (eC (.int 1)) aN))) (e2 oMul (eLst (aC (eC (.int 0)) aN)) (e2 oSub (eV 4) (eC (.int 1)))))) : SX) e st := rfl
def E1__law_row_cells : EX := (eIf (bB (e2 oNe (eV 3) (eLst aN))) (e2 oIx (eV 3) (e2 oMod (eN oInt (aC (e2 oAdd (eV 1) (eV 5)) aN)) (eN oLen (aC (eV 3) aN)))) (eC (.int 0)))
theorem E1__law_row_cells_ap (e : Mm.Env) (st : Sto) : E1__law_row_cells e st = ((eIf (bB (e2 oNe (eV 3) (eLst aN))) (e2 oIx (eV 3) (e2 oMod (eN oInt (aC (e2 oAdd (eV 1) (eV 5)) aN)) (eN oLen (aC (eV 3) aN)))) (eC (.int 0))) : EX) e st := rfl
def s__law_row_cells : List D → Sto → R D := fnS 6
  (sSeq (sSet 3 (eLst aN))
    (sSeq (sFor (iSeq (eV 0)) (tgN 4) L1__law_row_cells)
    (sRet (eN oTupOf (aC (eLc [5] (iR1 (aC (eV 2) aN)) (tgN 5) bYes E1__law_row_cells) aN)))))
def L1__law_row_views : SX := (sSeq (sSet 6 (eSl (eV 4) (some (eV 5)) (some (e2 oAdd (eV 5) (eV 0)))))
    (sIf (bB (e2 oNotIn (eV 6) (eV 3))) (sEx (eM1 oApp (eV 3) (eV 6))) sNx))
theorem L1__law_row_views_ap (e : Mm.Env) (st : Sto) : L1__law_row_views e st = ((sSeq (sSet 6 (eSl (eV 4) (some (eV 5)) (some (e2 oAdd (eV 5) (eV 0)))))
    (sIf (bB (e2 oNotIn (eV 6) (eV 3))) (sEx (eM1 oApp (eV 3) (eV 6))) sNx)) : SX) e st := rfl
def s__law_row_views : List D → Sto → R D := fnS 7
  (sSeq (sPar 2 3 (eN oMax (aC (eN oSum (aC (eV 1) aN)) (aC (eC (.int 1)) aN))) (eLst aN))
    (sSeq (sSet 4 (eCall s__law_row_cells (aC (eV 1) (aC (eC (.int 0)) (aC (e2 oAdd (eV 2) (eV 0)) aN)))))
    (sSeq (sFor (iR1 (aC (eV 2) aN)) (tgN 5) L1__law_row_views)
    (sRet (eV 3)))))
def L1__law_row_alone : SX := (sIf (bB (e2 oEq (eN oSum (aC (eV 3) aN)) (eC (.int 1)))) (sEx (eM1 oApp (eV 2) (e2 oAdd (eMT oIndex (eV 3) (eC (.int 1))) (eC (.int 1))))) sNx)
theorem L1__law_row_alone_ap (e : Mm.Env) (st : Sto) : L1__law_row_alone e st = ((sIf (bB (e2 oEq (eN oSum (aC (eV 3) aN)) (eC (.int 1)))) (sEx (eM1 oApp (eV 2) (e2 oAdd (eMT oIndex (eV 3) (eC (.int 1))) (eC (.int 1))))) sNx) : SX) e st := rfl
def s__law_row_alone : List D → Sto → R D := fnS 4
  (sSeq (sSet 2 (eLst aN))
    (sSeq (sFor (iSeq (eCall s__law_row_views (aC (eV 0) (aC (eV 1) aN)))) (tgN 3) L1__law_row_alone)
    (sRet (eN oSSet (aC (eV 2) aN)))))
def s__law_draw : List D → Sto → R D := fnS 5
  (sSeq (sIf (bAnd (bB (e2 oEq (e2 oIx (eV 0) (eC (.int 0))) (eC (.int 0)))) (bB (e2 oNe (e2 oIx (eV 0) (eC (.int 2))) (eLst aN)))) (sSeq (sSet 2 (eN oInt (aC (eM1 oPopAt (e2 oIx (eV 0) (eC (.int 2))) (eC (.int 0))) aN)))
    (sSeq (sSet 3 (eIf (bB (e2 oGe (eV 2) (eC (.int 0)))) (e2 oMul (eC (.int 2)) (eV 2)) (e2 oSub (e1 oNeg (eC (.int 1))) (e2 oMul (eC (.int 2)) (eV 2)))))
    (sSeq (sStore (eV 0) (eC (.int 0)) (eIf (bB (e2 oGe (eV 3) (e2 oPow (eC (.int 10)) (eC (.int 18))))) (eV 3) (eC (.int 0))))
    (sStore (eV 0) (eC (.int 1)) (e2 oAdd (e2 oMod (eN oInt (aC (e2 oAdd (e2 oIx (eV 0) (eC (.int 1))) (e2 oMul (eV 3) (eC (.int 69621)))) aN)) (eC (.int 2147483629))) (eC (.int 3))))))) sNx)
    (sSeq (sIf (bB (e2 oGt (e2 oIx (eV 0) (eC (.int 0))) (eC (.int 0)))) (sSeq (sSet 4 (e2 oMod (eN oInt (aC (e2 oIx (eV 0) (eC (.int 0))) aN)) (eV 1)))
    (sSeq (sStore (eV 0) (eC (.int 0)) (e2 oDiv (e2 oIx (eV 0) (eC (.int 0))) (eV 1)))
    (sRet (eV 4)))) sNx)
    (sSeq (sStore (eV 0) (eC (.int 1)) (e2 oMod (eN oInt (aC (e2 oAdd (e2 oMul (e2 oIx (eV 0) (eC (.int 1))) (eC (.int 48271))) (eC (.int 11))) aN)) (eC (.int 2147483647))))
    (sRet (e2 oMod (e2 oDiv (e2 oMod (eN oInt (aC (e2 oMul (e2 oIx (eV 0) (eC (.int 1))) (e2 oIx (eV 0) (eC (.int 1)))) aN)) (eC (.int 2147483629))) (eC (.int 32))) (eV 1))))))
def s__law_pick : List D → Sto → R D := fnS 2
  (sRet (e2 oIx (eV 1) (eCall s__law_draw (aC (eV 0) (aC (eN oLen (aC (eV 1) aN)) aN)))))
def L1__law_row_drawn : SX := (sEx (eM1 oApp (eV 4) (e2 oAdd (eC (.int 1)) (eCall s__law_draw (aC (eV 0) (aC (eIf (bAnd (bB (e2 oEq (eV 3) (eC (.int 1)))) (bB (e2 oEq (eV 5) (eC (.int 0))))) (eC (.int 99)) (eV 2)) aN))))))
theorem L1__law_row_drawn_ap (e : Mm.Env) (st : Sto) : L1__law_row_drawn e st = ((sEx (eM1 oApp (eV 4) (e2 oAdd (eC (.int 1)) (eCall s__law_draw (aC (eV 0) (aC (eIf (bAnd (bB (e2 oEq (eV 3) (eC (.int 1)))) (bB (e2 oEq (eV 5) (eC (.int 0))))) (eC (.int 99)) (eV 2)) aN)))))) : SX) e st := rfl
def s__law_row_drawn : List D → Sto → R D := fnS 7
  (sSeq (sPar 3 4 (eCall s__law_draw (aC (eV 0) (aC (eC (.int 12)) aN))) (eLst aN))
    (sSeq (sIf (bB (e2 oEq (eV 3) (eC (.int 0)))) (sRet (eTup aN)) sNx)
    (sSeq (sFor (iR1 (aC (e2 oAdd (eC (.int 1)) (eCall s__law_draw (aC (eV 0) (aC (eV 1) aN)))) aN)) (tgN 5) L1__law_row_drawn)
    (sSeq (sSet 6 (eN oTupOf (aC (eV 4) aN)))
    (sRet (eIf (bAnd (bB (e2 oEq (eV 3) (eC (.int 2)))) (bB (e2 oLt (eN oLen (aC (eV 6) aN)) (eC (.int 13))))) (e2 oAdd (eV 6) (eV 6)) (eV 6)))))))
def s__law_scene : List D → Sto → R D := fnS 3
  (sSeq (sSet 1 (eIf (bB (e2 oGt (eCall s__law_draw (aC (eV 0) (aC (eC (.int 12)) aN))) (eC (.int 0)))) (eCall s__law_pick (aC (eV 0) (aC (eLst (aC (eC (.int 1)) (aC (eC (.int 2)) (aC (eC (.int 3)) (aC (eC (.int 3)) (aC (eC (.int 4)) (aC (eC (.int 5)) (aC (eC (.int 6)) (aC (eC (.int 7)) (aC (e2 oAdd (eC (.int 2)) (eCall s__law_draw (aC (eV 0) (aC (eC (.int 11)) aN)))) aN)))))))))) aN))) (e2 oAdd (eC (.int 13)) (eCall s__law_draw (aC (eV 0) (aC (eC (.int 48)) aN))))))
    (sSeq (sSet 2 (eCall s__law_draw (aC (eV 0) (aC (eC (.int 5)) aN))))
    (sSeq (sIf (bB (e2 oEq (eV 2) (eC (.int 0)))) (sRet (eTup (aC (eV 1) (aC (e2 oAdd (eTup (aC (eV 1) aN)) (eCall s__law_row_drawn (aC (eV 0) (aC (eC (.int 3)) (aC (eV 1) aN))))) aN)))) sNx)
    (sSeq (sIf (bB (e2 oEq (eV 2) (eC (.int 1)))) (sRet (eTup (aC (eV 1) (aC (e2 oAdd (eCall s__law_row_drawn (aC (eV 0) (aC (eC (.int 3)) (aC (eV 1) aN)))) (eTup (aC (eN oMin (aC (e2 oAdd (eV 1) (eC (.int 1))) (aC (eC (.int 99)) aN))) aN))) aN)))) sNx)
    (sRet (eTup (aC (eV 1) (aC (eCall s__law_row_drawn (aC (eV 0) (aC (eC (.int 8)) (aC (eV 1) aN)))) aN))))))))
def I1__law_places : BX := (bB (e2 oEq (eN oSum (aC (eSl (eV 6) (some (e2 oSub (e2 oAdd (eV 8) (eC (.int 1))) (eV 10))) (some (e2 oAdd (e2 oSub (e2 oAdd (eV 8) (eC (.int 1))) (eV 10)) (eV 0)))) aN)) (eC (.int 1))))
theorem I1__law_places_ap (e : Mm.Env) (st : Sto) : I1__law_places e st = ((bB (e2 oEq (eN oSum (aC (eSl (eV 6) (some (e2 oSub (e2 oAdd (eV 8) (eC (.int 1))) (eV 10))) (some (e2 oAdd (e2 oSub (e2 oAdd (eV 8) (eC (.int 1))) (eV 10)) (eV 0)))) aN)) (eC (.int 1)))) : BX) e st := rfl
def E1__law_places : EX := (eV 10)
theorem E1__law_places_ap (e : Mm.Env) (st : Sto) : E1__law_places e st = ((eV 10) : EX) e st := rfl
def L1__law_places : SX := (sSeq (sSet 8 (e2 oAdd (e2 oMul (eV 5) (eV 4)) (eV 3)))
    (sSeq (sSet 9 (eLc [10] (iR2 (aC (eC (.int 1)) (aC (e2 oAdd (eV 0) (eC (.int 1))) aN))) (tgN 10) I1__law_places E1__law_places))
    (sSeq (sEx (eM1 oApp (eV 2) (eV 9)))
    (sSet 3 (e2 oAdd (eV 3) (eV 7))))))
theorem L1__law_places_ap (e : Mm.Env) (st : Sto) : L1__law_places e st = ((sSeq (sSet 8 (e2 oAdd (e2 oMul (eV 5) (eV 4)) (eV 3)))
    (sSeq (sSet 9 (eLc [10] (iR2 (aC (eC (.int 1)) (aC (e2 oAdd (eV 0) (eC (.int 1))) aN))) (tgN 10) I1__law_places E1__law_places))
    (sSeq (sEx (eM1 oApp (eV 2) (eV 9)))
    (sSet 3 (e2 oAdd (eV 3) (eV 7)))))) : SX) e st := rfl
def s__law_places : List D → Sto → R D := fnS 11
  (sSeq (sPar3 2 3 4 (eLst aN) (eC (.int 0)) (eN oSum (aC (eV 1) aN)))
    (sSeq (sSet 5 (eIf (bB (e2 oGt (eV 4) (eC (.int 0)))) (e2 oAdd (e2 oDiv (eV 0) (eV 4)) (eC (.int 1))) (eC (.int 0))))
    (sSeq (sSet 6 (eCall s__law_row_cells (aC (eV 1) (aC (eC (.int 0)) (aC (e2 oAdd (e2 oAdd (e2 oMul (eV 5) (eV 4)) (eV 4)) (eV 0)) aN)))))
    (sSeq (sFor (iSeq (eV 1)) (tgN 7) L1__law_places)
    (sRet (eV 2))))))
def E1_law : EX := (eIf (bB (e2 oNe (eV 7) (eLst aN))) (eTup (aC (e2 oIx (eV 7) (eC (.int 0))) (aC (e2 oIx (eV 7) (e1 oNeg (eC (.int 1)))) aN))) (eC .non))
theorem E1_law_ap (e : Mm.Env) (st : Sto) : E1_law e st = ((eIf (bB (e2 oNe (eV 7) (eLst aN))) (eTup (aC (e2 oIx (eV 7) (eC (.int 0))) (aC (e2 oIx (eV 7) (e1 oNeg (eC (.int 1)))) aN))) (eC .non)) : EX) e st := rfl
def I1_law : BX := (bAnd (bB (e2 oNe (eV 7) (eLst aN))) (bB (e2 oNe (eN oLen (aC (eV 7) aN)) (e2 oAdd (e2 oSub (e2 oIx (eV 7) (e1 oNeg (eC (.int 1)))) (e2 oIx (eV 7) (eC (.int 0)))) (eC (.int 1))))))
theorem I1_law_ap (e : Mm.Env) (st : Sto) : I1_law e st = ((bAnd (bB (e2 oNe (eV 7) (eLst aN))) (bB (e2 oNe (eN oLen (aC (eV 7) aN)) (e2 oAdd (e2 oSub (e2 oIx (eV 7) (e1 oNeg (eC (.int 1)))) (e2 oIx (eV 7) (eC (.int 0)))) (eC (.int 1)))))) : BX) e st := rfl
def E2_law : EX := (eV 7)
theorem E2_law_ap (e : Mm.Env) (st : Sto) : E2_law e st = ((eV 7) : EX) e st := rfl
def L1_law : SX := (sSeq (sAsg (eCall s__law_scene (aC (eV 1) aN)) (tgTup (tgCons (tgN 3) (tgCons (tgN 4) tgNil))))
    (sSeq (sSet 5 (eCall s__law_places (aC (eV 3) (aC (eV 4) aN))))
    (sSeq (sSet 6 (eN oTupOf (aC (eLc [7] (iSeq (eV 5)) (tgN 7) bYes E1_law) aN)))
    (sSeq (sIf (bB (e2 oNe (eN oRepr (aC (eCall s_owned (aC (eV 3) (aC (eV 4) aN))) aN)) (eN oRepr (aC (eV 6) aN)))) (sRet (eC (.bl false))) sNx)
    (sSeq (sIf (bB (e2 oNe (eLc [7] (iSeq (eV 5)) (tgN 7) I1_law E2_law) (eLst aN))) (sRet (eC (.bl false))) sNx)
    (sIf (bB (e2 oNe (eN oRepr (aC (eCall s_alone (aC (eV 3) (aC (eV 4) aN))) aN)) (eN oRepr (aC (eN oTupOf (aC (eCall s__law_row_alone (aC (eV 3) (aC (eV 4) aN))) aN)) aN)))) (sRet (eC (.bl false))) sNx))))))
theorem L1_law_ap (e : Mm.Env) (st : Sto) : L1_law e st = ((sSeq (sAsg (eCall s__law_scene (aC (eV 1) aN)) (tgTup (tgCons (tgN 3) (tgCons (tgN 4) tgNil))))
    (sSeq (sSet 5 (eCall s__law_places (aC (eV 3) (aC (eV 4) aN))))
    (sSeq (sSet 6 (eN oTupOf (aC (eLc [7] (iSeq (eV 5)) (tgN 7) bYes E1_law) aN)))
    (sSeq (sIf (bB (e2 oNe (eN oRepr (aC (eCall s_owned (aC (eV 3) (aC (eV 4) aN))) aN)) (eN oRepr (aC (eV 6) aN)))) (sRet (eC (.bl false))) sNx)
    (sSeq (sIf (bB (e2 oNe (eLc [7] (iSeq (eV 5)) (tgN 7) I1_law E2_law) (eLst aN))) (sRet (eC (.bl false))) sNx)
    (sIf (bB (e2 oNe (eN oRepr (aC (eCall s_alone (aC (eV 3) (aC (eV 4) aN))) aN)) (eN oRepr (aC (eN oTupOf (aC (eCall s__law_row_alone (aC (eV 3) (aC (eV 4) aN))) aN)) aN)))) (sRet (eC (.bl false))) sNx)))))) : SX) e st := rfl
def s_law : List D → Sto → R D := fnS 8
  (sSeq (sSet 1 (eCall s__law_pool (aC (eV 0) aN)))
    (sSeq (sIf (bOr (bB (e2 oNe (eCall s_owned (aC (eC (.int 6)) (aC (eTup (aC (eC (.int 6)) (aC (eC (.int 2)) aN))) aN))) (eTup (aC (eTup (aC (eC (.int 1)) (aC (eC (.int 2)) aN))) (aC (eTup (aC (eC (.int 5)) (aC (eC (.int 6)) aN))) aN))))) (bOr (bB (e2 oNe (eCall s_alone (aC (eC (.int 6)) (aC (eTup (aC (eC (.int 6)) (aC (eC (.int 2)) aN))) aN))) (eTup (aC (eC (.int 1)) (aC (eC (.int 2)) (aC (eC (.int 5)) (aC (eC (.int 6)) aN))))))) (bB (e2 oNe (eCall s_owned (aC (eC (.int 3)) (aC (eTup (aC (eC (.int 1)) (aC (eC (.int 1)) aN))) aN))) (eTup (aC (eC .non) (aC (eC .non) aN))))))) (sRet (eC (.bl false))) sNx)
    (sSeq (sIf (bOr (bB (e2 oNe (eCall s_owned (aC (eC (.int 3)) (aC (eTup aN) aN))) (eTup aN))) (bOr (bB (e2 oNe (eCall s_alone (aC (eC (.int 3)) (aC (eTup aN) aN))) (eTup aN))) (bB (e2 oNe (eCall s_owned (aC (eC (.int 3)) (aC (eTup (aC (eC (.int 9)) aN)) aN))) (eTup (aC (eTup (aC (eC (.int 1)) (aC (eC (.int 3)) aN))) aN)))))) (sRet (eC (.bl false))) sNx)
    (sSeq (sFor (iR1 (aC (eC (.int 4)) aN)) (tgN 2) L1_law)
    (sRet (eC (.bl true)))))))
abbrev N_is_number : List Str := ["thing"]
theorem sc_is_number : FnScope N_is_number ["thing"] (defScope (topS 5)) := ⟨rfl, rfl, rfl, by decide +kernel, rfl, by decide +kernel, by decide +kernel⟩
abbrev N_is_within : List Str := ["thing", "low", "high"]
theorem sc_is_within : FnScope N_is_within ["thing", "low", "high"] (defScope (topS 6)) := ⟨rfl, rfl, rfl, by decide +kernel, rfl, by decide +kernel, by decide +kernel⟩
abbrev N_made_k : List Str := ["thing"]
theorem sc_made_k : FnScope N_made_k ["thing"] (defScope (topS 12)) := ⟨rfl, rfl, rfl, by decide +kernel, rfl, by decide +kernel, by decide +kernel⟩
abbrev N_wrong_at : List Str := ["thing", "fewest", "greatest", "low", "high", "at", "item"]
theorem sc_wrong_at : FnScope N_wrong_at ["thing", "fewest", "greatest", "low", "high"] (defScope (topS 7)) := ⟨rfl, rfl, rfl, by decide +kernel, rfl, by decide +kernel, by decide +kernel⟩
abbrev N_made_row : List Str := ["thing", "wrong"]
theorem sc_made_row : FnScope N_made_row ["thing"] (defScope (topS 13)) := ⟨rfl, rfl, rfl, by decide +kernel, rfl, by decide +kernel, by decide +kernel⟩
abbrev N_owned : List Str := ["k", "row", "found", "at", "right", "left", "first", "last"]
theorem sc_owned : FnScope N_owned ["k", "row"] (defScope (topS 15)) := ⟨rfl, rfl, rfl, by decide +kernel, rfl, by decide +kernel, by decide +kernel⟩
abbrev N_alone : List Str := ["k", "row", "spans", "span", "first", "last", "place"]
theorem sc_alone : FnScope N_alone ["k", "row"] (defScope (topS 16)) := ⟨rfl, rfl, rfl, by decide +kernel, rfl, by decide +kernel, by decide +kernel⟩
abbrev N__law_pool : List Str := ["script", "first", "size"]
theorem sc__law_pool : FnScope N__law_pool ["script"] (defScope (topS 18)) := ⟨rfl, rfl, rfl, by decide +kernel, rfl, by decide +kernel, by decide +kernel⟩
abbrev N__law_row_cells : List Str := ["row", "start", "many", "cells", "gap", "at"]
theorem sc__law_row_cells : FnScope N__law_row_cells ["row", "start", "many"] (defScope (topS 21)) := ⟨rfl, rfl, rfl, by decide +kernel, rfl, by decide +kernel, by decide +kernel⟩
abbrev N__law_row_views : List Str := ["k", "row", "size", "found", "cells", "at", "view"]
theorem sc__law_row_views : FnScope N__law_row_views ["k", "row"] (defScope (topS 22)) := ⟨rfl, rfl, rfl, by decide +kernel, rfl, by decide +kernel, by decide +kernel⟩
abbrev N__law_row_alone : List Str := ["k", "row", "found", "view"]
theorem sc__law_row_alone : FnScope N__law_row_alone ["k", "row"] (defScope (topS 23)) := ⟨rfl, rfl, rfl, by decide +kernel, rfl, by decide +kernel, by decide +kernel⟩
abbrev N__law_draw : List Str := ["pool", "many", "cell", "size", "found"]
theorem sc__law_draw : FnScope N__law_draw ["pool", "many"] (defScope (topS 19)) := ⟨rfl, rfl, rfl, by decide +kernel, rfl, by decide +kernel, by decide +kernel⟩
abbrev N__law_pick : List Str := ["pool", "things"]
theorem sc__law_pick : FnScope N__law_pick ["pool", "things"] (defScope (topS 20)) := ⟨rfl, rfl, rfl, by decide +kernel, rfl, by decide +kernel, by decide +kernel⟩
abbrev N__law_row_drawn : List Str := ["pool", "gaps", "top", "way", "found", "turn", "row"]
theorem sc__law_row_drawn : FnScope N__law_row_drawn ["pool", "gaps", "top"] (defScope (topS 24)) := ⟨rfl, rfl, rfl, by decide +kernel, rfl, by decide +kernel, by decide +kernel⟩
abbrev N__law_scene : List Str := ["pool", "k", "way"]
theorem sc__law_scene : FnScope N__law_scene ["pool"] (defScope (topS 25)) := ⟨rfl, rfl, rfl, by decide +kernel, rfl, by decide +kernel, by decide +kernel⟩
abbrev N__law_places : List Str := ["k", "row", "found", "here", "size", "rounds", "far", "gap", "spot", "places", "place"]
theorem sc__law_places : FnScope N__law_places ["k", "row"] (defScope (topS 26)) := ⟨rfl, rfl, rfl, by decide +kernel, rfl, by decide +kernel, by decide +kernel⟩
abbrev N_law : List Str := ["script", "pool", "turn", "k", "row", "places", "due", "some"]
theorem sc_law : FnScope N_law ["script"] (defScope (topS 27)) := ⟨rfl, rfl, rfl, by decide +kernel, rfl, by decide +kernel, by decide +kernel⟩
structure Top (K : PySem.W.Frag) (mg : Str → Option Value) where
  a_is_number : Addr
  d_is_number : FuncData
  g_is_number : mg "is_number" = some (.ref a_is_number)
  F_is_number : Fun K "is_number" "is_number" (topS 5) a_is_number d_is_number
  b_is_number : Binds K d_is_number ["thing"] []
  a_is_within : Addr
  d_is_within : FuncData
  g_is_within : mg "is_within" = some (.ref a_is_within)
  F_is_within : Fun K "is_within" "is_within" (topS 6) a_is_within d_is_within
  b_is_within : Binds K d_is_within ["thing", "low", "high"] []
  a_made_k : Addr
  d_made_k : FuncData
  g_made_k : mg "made_k" = some (.ref a_made_k)
  F_made_k : Fun K "made_k" "made_k" (topS 12) a_made_k d_made_k
  b_made_k : Binds K d_made_k ["thing"] []
  a_wrong_at : Addr
  d_wrong_at : FuncData
  g_wrong_at : mg "wrong_at" = some (.ref a_wrong_at)
  F_wrong_at : Fun K "wrong_at" "wrong_at" (topS 7) a_wrong_at d_wrong_at
  b_wrong_at : Binds K d_wrong_at ["thing", "fewest", "greatest", "low", "high"] []
  a_made_row : Addr
  d_made_row : FuncData
  g_made_row : mg "made_row" = some (.ref a_made_row)
  F_made_row : Fun K "made_row" "made_row" (topS 13) a_made_row d_made_row
  b_made_row : Binds K d_made_row ["thing"] []
  a_owned : Addr
  d_owned : FuncData
  g_owned : mg "owned" = some (.ref a_owned)
  F_owned : Fun K "owned" "owned" (topS 15) a_owned d_owned
  b_owned : Binds K d_owned ["k", "row"] []
  a_alone : Addr
  d_alone : FuncData
  g_alone : mg "alone" = some (.ref a_alone)
  F_alone : Fun K "alone" "alone" (topS 16) a_alone d_alone
  b_alone : Binds K d_alone ["k", "row"] []
  a__law_pool : Addr
  d__law_pool : FuncData
  g__law_pool : mg "_law_pool" = some (.ref a__law_pool)
  F__law_pool : Fun K "_law_pool" "_law_pool" (topS 18) a__law_pool d__law_pool
  b__law_pool : Binds K d__law_pool ["script"] []
  a__law_row_cells : Addr
  d__law_row_cells : FuncData
  g__law_row_cells : mg "_law_row_cells" = some (.ref a__law_row_cells)
  F__law_row_cells : Fun K "_law_row_cells" "_law_row_cells" (topS 21) a__law_row_cells d__law_row_cells
  b__law_row_cells : Binds K d__law_row_cells ["row", "start", "many"] []
  a__law_row_views : Addr
  d__law_row_views : FuncData
  g__law_row_views : mg "_law_row_views" = some (.ref a__law_row_views)
  F__law_row_views : Fun K "_law_row_views" "_law_row_views" (topS 22) a__law_row_views d__law_row_views
  b__law_row_views : Binds K d__law_row_views ["k", "row"] []
  a__law_row_alone : Addr
  d__law_row_alone : FuncData
  g__law_row_alone : mg "_law_row_alone" = some (.ref a__law_row_alone)
  F__law_row_alone : Fun K "_law_row_alone" "_law_row_alone" (topS 23) a__law_row_alone d__law_row_alone
  b__law_row_alone : Binds K d__law_row_alone ["k", "row"] []
  a__law_draw : Addr
  d__law_draw : FuncData
  g__law_draw : mg "_law_draw" = some (.ref a__law_draw)
  F__law_draw : Fun K "_law_draw" "_law_draw" (topS 19) a__law_draw d__law_draw
  b__law_draw : Binds K d__law_draw ["pool", "many"] []
  a__law_pick : Addr
  d__law_pick : FuncData
  g__law_pick : mg "_law_pick" = some (.ref a__law_pick)
  F__law_pick : Fun K "_law_pick" "_law_pick" (topS 20) a__law_pick d__law_pick
  b__law_pick : Binds K d__law_pick ["pool", "things"] []
  a__law_row_drawn : Addr
  d__law_row_drawn : FuncData
  g__law_row_drawn : mg "_law_row_drawn" = some (.ref a__law_row_drawn)
  F__law_row_drawn : Fun K "_law_row_drawn" "_law_row_drawn" (topS 24) a__law_row_drawn d__law_row_drawn
  b__law_row_drawn : Binds K d__law_row_drawn ["pool", "gaps", "top"] []
  a__law_scene : Addr
  d__law_scene : FuncData
  g__law_scene : mg "_law_scene" = some (.ref a__law_scene)
  F__law_scene : Fun K "_law_scene" "_law_scene" (topS 25) a__law_scene d__law_scene
  b__law_scene : Binds K d__law_scene ["pool"] []
  a__law_places : Addr
  d__law_places : FuncData
  g__law_places : mg "_law_places" = some (.ref a__law_places)
  F__law_places : Fun K "_law_places" "_law_places" (topS 26) a__law_places d__law_places
  b__law_places : Binds K d__law_places ["k", "row"] []
  a_law : Addr
  d_law : FuncData
  g_law : mg "law" = some (.ref a_law)
  F_law : Fun K "law" "law" (topS 27) a_law d_law
  b_law : Binds K d_law ["script"] []
  m_ValueError : mg "ValueError" = none
  m_bool : mg "bool" = none
  m_enumerate : mg "enumerate" = none
  m_int : mg "int" = none
  m_isinstance : mg "isinstance" = none
  m_len : mg "len" = none
  m_list : mg "list" = none
  m_max : mg "max" = none
  m_min : mg "min" = none
  m_range : mg "range" = none
  m_repr : mg "repr" = none
  m_set : mg "set" = none
  m_sorted : mg "sorted" = none
  m_sum : mg "sum" = none
  m_tuple : mg "tuple" = none
  k_GREATEST_GAP : Tok
  c_GREATEST_GAP : mg "GREATEST_GAP" = some (.int (99) k_GREATEST_GAP)
  k_GREATEST_K : Tok
  c_GREATEST_K : mg "GREATEST_K" = some (.int (60) k_GREATEST_K)
  k_MOST_GAPS : Tok
  c_MOST_GAPS : mg "MOST_GAPS" = some (.int (24) k_MOST_GAPS)
  fI : Addr
  d_init : FuncData
  F_init : Fun K "__init__" "Refused.__init__" (inClass (topS 1) 0) fI d_init
  b_init : Binds K d_init ["self", "what"] []
  tI : PySem.W.typeIn K (.ref fI) = some (.type "function")
  vV : PySem.W.findCls K (.type "ValueError") (.type "type") "__init__" = some (.val (.builtin "ValueError.__init__"))
  C_BadK : Addr
  q_BadK : mg "BadK" = some (.ref C_BadK)
  C_BadRow : Addr
  q_BadRow : mg "BadRow" = some (.ref C_BadRow)
  E_BadK : ExcC K mg "BadK" C_BadK fI
  E_BadRow : ExcC K mg "BadRow" C_BadRow fI
section
variable {P : Program} {w : World} {K : PySem.W.Frag} {mg : Str → Option Value} {base : Heap}
theorem sc_init : FnScope ["self", "what"] ["self", "what"] (defScope (inClass (topS 1) 0)) := ⟨rfl, rfl, rfl, by decide +kernel, rfl, by decide +kernel, by decide +kernel⟩
theorem ok_init (t : Top K mg) : FnOk P w K mg base (L2.CX P w) 1 t.fI t.d_init ["self", "what"] (spInit K) :=
  Fun.okX t.F_init sc_init (fun vs H Q E h => by obtain ⟨a, C, x, rfl, _⟩ := h; rfl) fun cdv A outer s H vs Q E hr h => by
    obtain ⟨a, C, x, rfl, hT, hX, hn, ha, hno, hnk, h⟩ := h
    refine ⟨tInit K, ?_, init_reads hT hX hn ha hno hnk h⟩
    exact pss_cons (ps_expr (pe_veinit (by rfl) t.m_ValueError t.vV (pa_cons (pv 0) pa_nil))) (pss_cons (ps_ost (pv 0) (pv 1)) (pss_one (ps_ost (pv 0) (pe_ename (pv 0)))))
theorem ok_is_number (t : Top K mg) : FnG P w K mg base (L2.CX P w) 1 t.a_is_number t.d_is_number ["thing"] (SpG K [] mg 1 s_is_number) :=
  fnG_ok t.F_is_number sc_is_number fun cdv hcdv A outer s H E hgd hr tk => by
    exact (js_one (js_ret (j_and (j_isi (j_var (pv 0)) (by rfl) t.m_isinstance (by rfl) t.m_int (by decide +kernel)) (j_one (j_not (j_isi (j_var (pv 0)) (by rfl) t.m_isinstance (by rfl) t.m_bool (by decide +kernel)))))))
theorem ok_is_within (t : Top K mg) : FnG P w K mg base (L2.CX P w) 2 t.a_is_within t.d_is_within ["thing", "low", "high"] (SpG K [] mg 3 s_is_within) :=
  fnG_ok t.F_is_within sc_is_within fun cdv hcdv A outer s H E hgd hr tk => by
    exact (js_one (js_ret (j_and (j_call (ok_is_number t) hgd (hr.mono (by decide)) tk (by rfl) t.g_is_number t.F_is_number.kp t.b_is_number (ja_cons (j_var (pv 0)) ja_nil)) (j_one (j_chain ope_le ope_le (j_var (pv 1)) (j_var (pv 0)) (j_var (pv 2)))))))
theorem ok_made_k (t : Top K mg) : FnG P w K mg base (L2.CX P w) 3 t.a_made_k t.d_made_k ["thing"] (SpG K [] mg 1 s_made_k) :=
  fnG_ok t.F_made_k sc_made_k fun cdv hcdv A outer s H E hgd hr tk => by
    exact (js_cons (js_if (jt_not (jt_tru (j_call (ok_is_within t) hgd (hr.mono (by decide)) tk (by rfl) t.g_is_within t.F_is_within.kp t.b_is_within (ja_cons (j_var (pv 0)) (ja_cons j_int (ja_cons (j_c (pe_glob (v := (.int 60)) (by rfl) t.c_GREATEST_K ⟨_, rfl⟩) fun _ _ => rfl) ja_nil)))))) (js_one (js_raise rfl tk t.E_BadK t.tI (ok_init t) (hr.mono (by decide)) t.b_init (by rfl) (ja_cons j_int ja_nil))) js_nil)
    (js_one (js_ret (j_var (pv 0)))))
theorem ok_wrong_at (t : Top K mg) : FnG P w K mg base (L2.CX P w) 3 t.a_wrong_at t.d_wrong_at ["thing", "fewest", "greatest", "low", "high"] (SpG K [] mg 5 s_wrong_at) :=
  fnG_ok t.F_wrong_at sc_wrong_at fun cdv hcdv A outer s H E hgd hr tk => by
    exact (js_cons (js_if (jt_w (jw_or (jt_not (jt_tru (j_isi (j_var (pv 0)) (by rfl) t.m_isinstance (by rfl) t.m_tuple (by decide +kernel)))) (jw_or1 (jt_not (jt_chain ope_le ope_le (j_var (pv 1)) (j_bi cre_len (by rfl) t.m_len (by decide +kernel) (ja_cons (j_var (pv 0)) ja_nil)) (j_var (pv 2))))))) (js_one (js_ret (j_un une_neg j_int))) js_nil)
    (js_cons (js_for (passes_of rfl) rfl (ji_enum (by rfl) t.m_enumerate (j_var (pv 0))) (jg_tup rfl (jgs_cons (jg_name (i := 5) sc_wrong_at.nd rfl (by first | exact Or.inl rfl | exact Or.inr rfl)) (jgs_cons (jg_name (i := 6) sc_wrong_at.nd rfl (by first | exact Or.inl rfl | exact Or.inr rfl)) jgs_nil))) (js_one (js_if (jt_not (jt_tru (j_call (ok_is_within t) hgd (hr.mono (by decide)) tk (by rfl) t.g_is_within t.F_is_within.kp t.b_is_within (ja_cons (j_var (pv 6)) (ja_cons (j_var (pv 3)) (ja_cons (j_var (pv 4)) ja_nil)))))) (js_one (js_ret (j_var (pv 5)))) js_nil)))
    (js_one (js_ret j_non))))
theorem ok_made_row (t : Top K mg) : FnG P w K mg base (L2.CX P w) 4 t.a_made_row t.d_made_row ["thing"] (SpG K [] mg 1 s_made_row) :=
  fnG_ok t.F_made_row sc_made_row fun cdv hcdv A outer s H E hgd hr tk => by
    exact (js_cons (js_set (i := 1) sc_made_row.nd rfl (by first | exact Or.inl rfl | exact Or.inr rfl) (j_call (ok_wrong_at t) hgd (hr.mono (by decide)) tk (by rfl) t.g_wrong_at t.F_wrong_at.kp t.b_wrong_at (ja_cons (j_var (pv 0)) (ja_cons j_int (ja_cons (j_c (pe_glob (v := (.int 24)) (by rfl) t.c_MOST_GAPS ⟨_, rfl⟩) fun _ _ => rfl) (ja_cons j_int (ja_cons (j_c (pe_glob (v := (.int 99)) (by rfl) t.c_GREATEST_GAP ⟨_, rfl⟩) fun _ _ => rfl) ja_nil)))))))
    (js_cons (js_if (jt_cmp ope_isN (j_var (pv 1)) j_non (nomark _)) (js_one (js_raise rfl tk t.E_BadRow t.tI (ok_init t) (hr.mono (by decide)) t.b_init (by rfl) (ja_cons (j_var (pv 1)) ja_nil))) js_nil)
    (js_one (js_ret (j_var (pv 0))))))
theorem ok_owned (t : Top K mg) : FnG P w K mg base (L2.CX P w) 5 t.a_owned t.d_owned ["k", "row"] (SpG K [] mg 2 s_owned) :=
  fnG_ok t.F_owned sc_owned fun cdv hcdv A outer s H E hgd hr tk => by
    have hu100 : (CxB P w K mg base N_owned "owned" (topS 15) t.a_owned cdv A outer s H E).A.units + 100 < cLine := by have := hr.un; omega
    exact (js_cons (js_ex (j_call (ok_made_k t) hgd (hr.mono (by decide)) tk (by rfl) t.g_made_k t.F_made_k.kp t.b_made_k (ja_cons (j_var (pv 0)) ja_nil)))
    (js_cons (js_ex (j_call (ok_made_row t) hgd (hr.mono (by decide)) tk (by rfl) t.g_made_row t.F_made_row.kp t.b_made_row (ja_cons (j_var (pv 1)) ja_nil)))
    (js_cons (js_set (i := 2) sc_owned.nd rfl (by first | exact Or.inl rfl | exact Or.inr rfl) (j_lst ja_nil))
    (js_cons (js_for (passes_of rfl) rfl (ji_enum (by rfl) t.m_enumerate (j_var (pv 1))) (jg_tup rfl (jgs_cons (jg_name (i := 3) sc_owned.nd rfl (by first | exact Or.inl rfl | exact Or.inr rfl)) (jgs_cons (jg_name (i := 4) sc_owned.nd rfl (by first | exact Or.inl rfl | exact Or.inr rfl)) jgs_nil))) (js_cons (js_set (i := 5) sc_owned.nd rfl (by first | exact Or.inl rfl | exact Or.inr rfl) (j_ix ixe (j_var (pv 1)) (j_bin ope_sub (j_var (pv 3)) j_int) (fun _ _ => rfl)))
    (js_cons (js_set (i := 6) sc_owned.nd rfl (by first | exact Or.inl rfl | exact Or.inr rfl) (j_bi (cre_max rfl hu100) (by rfl) t.m_max (by decide +kernel) (ja_cons j_int (ja_cons (j_bin ope_sub (j_bin ope_add (j_var (pv 0)) j_int) (j_var (pv 4))) ja_nil))))
    (js_cons (js_set (i := 7) sc_owned.nd rfl (by first | exact Or.inl rfl | exact Or.inr rfl) (j_bi (cre_min rfl hu100) (by rfl) t.m_min (by decide +kernel) (ja_cons (j_var (pv 0)) (ja_cons (j_var (pv 5)) ja_nil))))
    (js_one (js_ex (j_append (j_var (pv 2)) (j_if (jt_cmp ope_le (j_var (pv 6)) (j_var (pv 7)) (nomark _)) (j_tup (ja_cons (j_var (pv 6)) (ja_cons (j_var (pv 7)) ja_nil))) j_non))))))))
    (js_one (js_ret (j_ty cre_tuple (by rfl) t.m_tuple (by decide +kernel) (ja_cons (j_var (pv 2)) ja_nil))))))))
theorem ok_alone (t : Top K mg) : FnG P w K mg base (L2.CX P w) 6 t.a_alone t.d_alone ["k", "row"] (SpG K [] mg 2 s_alone) :=
  fnG_ok t.F_alone sc_alone fun cdv hcdv A outer s H E hgd hr tk => by
    exact (js_cons (js_setLc1 (own := [("span", 3)]) (i := 2) rfl sc_alone.nd rfl rfl (sw_true rfl rfl rfl (by decide +kernel)) (ji_seq (j_call (ok_owned t) hgd (hr.mono (by decide)) tk (by rfl) t.g_owned t.F_owned.kp t.b_owned (ja_cons (j_var (pv 0)) (ja_cons (j_var (pv 1)) ja_nil)))) (blkOk_by (own := [("span", 3)]) (N := N_alone) (sc := defScope (topS 16)) (by decide +kernel)) (by decide) (fun _ _ _ _ _ => (jg_name (i := 3) sc_alone.nd rfl (by first | exact Or.inl rfl | exact Or.inr rfl))) (fun _ _ _ _ _ => (jt_cmp ope_isN (j_var (pv 3)) j_non (nomark _))) (fun _ _ _ _ _ => (j_var (pv 3))))
    (js_one (js_ret (j_ty cre_tuple (by rfl) t.m_tuple (by decide +kernel) (ja_cons (j_spans (own := [("first", 4), ("last", 5), ("place", 6)]) (vs := [6]) rfl sc_alone.nd (by rfl) t.m_sorted (fun _ _ _ _ _ => by rfl) t.m_range (j_var (pv 2)) (blkOk_by (own := [("first", 4), ("last", 5), ("place", 6)]) (N := N_alone) (sc := defScope (topS 16)) (by decide +kernel)) (by decide) (by decide) (by decide) (fun _ _ _ _ _ => (jg_tup rfl (jgs_cons (jg_name (i := 4) sc_alone.nd rfl (by first | exact Or.inl rfl | exact Or.inr rfl)) (jgs_cons (jg_name (i := 5) sc_alone.nd rfl (by first | exact Or.inl rfl | exact Or.inr rfl)) jgs_nil)))) (fun _ _ _ _ _ => (pv 4)) (fun _ _ _ _ _ => (pv 5)) (fun _ _ _ _ _ => (pv 6)) (fun _ _ _ _ _ => (pg_name (i := 6) sc_alone.nd rfl (by first | exact Or.inl rfl | exact Or.inr rfl)))) ja_nil)))))
theorem ok__law_pool (t : Top K mg) : FnG P w K mg base (L2.CX P w) 1 t.a__law_pool t.d__law_pool ["script"] (SpG K [] mg 1 s__law_pool) :=
  fnG_ok t.F__law_pool sc__law_pool fun cdv hcdv A outer s H E hgd hr tk => by
    exact (js_cons (js_set (i := 1) sc__law_pool.nd rfl (by first | exact Or.inl rfl | exact Or.inr rfl) (j_if (jt_cmp ope_gt (j_bi cre_len (by rfl) t.m_len (by decide +kernel) (ja_cons (j_var (pv 0)) ja_nil)) j_int (nomark _)) (j_ty cre_int (by rfl) t.m_int (by decide +kernel) (ja_cons (j_ix ixe (j_var (pv 0)) j_int (fun _ _ => rfl)) ja_nil)) j_int))
    (js_cons (js_set (i := 2) sc__law_pool.nd rfl (by first | exact Or.inl rfl | exact Or.inr rfl) (j_if (jt_cmp ope_ge (j_var (pv 1)) j_int (nomark _)) (j_bin ope_mul j_int (j_var (pv 1))) (j_bin ope_sub (j_un une_neg j_int) (j_bin ope_mul j_int (j_var (pv 1))))))
    (js_one (js_ret (j_lst (ja_cons (j_if (jt_cmp ope_ge (j_var (pv 2)) (j_bin ope_pow j_int j_int) (nomark _)) (j_var (pv 2)) j_int) (ja_cons (j_bin ope_add (j_bin ope_mod (j_ty cre_int (by rfl) t.m_int (by decide +kernel) (ja_cons (j_bin ope_add (j_bin ope_mul (j_var (pv 2)) j_int) j_int) ja_nil)) j_int) j_int) (ja_cons (j_ty cre_list (by rfl) t.m_list (by decide +kernel) (ja_cons (j_sl (j_var (pv 0)) (jo_some j_int) jo_none) ja_nil)) ja_nil))))))))
theorem ok__law_row_cells (t : Top K mg) : FnG P w K mg base (L2.CX P w) 1 t.a__law_row_cells t.d__law_row_cells ["row", "start", "many"] (SpG K [] mg 3 s__law_row_cells) :=
  fnG_ok t.F__law_row_cells sc__law_row_cells fun cdv hcdv A outer s H E hgd hr tk => by
    have hu64 : (CxB P w K mg base N__law_row_cells "_law_row_cells" (topS 21) t.a__law_row_cells cdv A outer s H E).A.units + 64 < cLine := by have := hr.un; omega
    exact (js_cons (js_set (i := 3) sc__law_row_cells.nd rfl (by first | exact Or.inl rfl | exact Or.inr rfl) (j_lst ja_nil))
    (js_cons (js_for (passes_of rfl) rfl (ji_seq (j_var (pv 0))) (jg_name (i := 4) sc__law_row_cells.nd rfl (by first | exact Or.inl rfl | exact Or.inr rfl)) (js_one (js_set (i := 3) sc__law_row_cells.nd rfl (by first | exact Or.inl rfl | exact Or.inr rfl) (j_bin ope_add (j_bin ope_add (j_var (pv 3)) (j_lst (ja_cons j_int ja_nil))) (j_bin ope_mul (j_lst (ja_cons j_int ja_nil)) (j_bin ope_sub (j_var (pv 4)) j_int))))))
    (js_one (js_ret (j_ty cre_tuple (by rfl) t.m_tuple (by decide +kernel) (ja_cons (j_lc0 (own := [("at", 5)])  rfl sc__law_row_cells.nd (ji_r1 (by rfl) t.m_range (ja_cons (j_var (pv 2)) ja_nil)) (blkOk_by (own := [("at", 5)]) (N := N__law_row_cells) (sc := defScope (topS 21)) (by decide +kernel)) (by decide) (fun _ _ _ _ _ => (jg_name (i := 5) sc__law_row_cells.nd rfl (by first | exact Or.inl rfl | exact Or.inr rfl))) (fun _ _ _ _ _ => (j_if (jt_cmp (ope_ne hu64) (j_var (pv 3)) (j_lst ja_nil) (nomark _)) (j_ix ixe (j_var (pv 3)) (j_bin ope_mod (j_ty cre_int (by rfl) t.m_int (by decide +kernel) (ja_cons (j_bin ope_add (j_var (pv 1)) (j_var (pv 5))) ja_nil)) (j_bi cre_len (by rfl) t.m_len (by decide +kernel) (ja_cons (j_var (pv 3)) ja_nil))) (fun _ _ => rfl)) j_int))) ja_nil))))))
theorem ok__law_row_views (t : Top K mg) : FnG P w K mg base (L2.CX P w) 2 t.a__law_row_views t.d__law_row_views ["k", "row"] (SpG K [] mg 2 s__law_row_views) :=
  fnG_ok t.F__law_row_views sc__law_row_views fun cdv hcdv A outer s H E hgd hr tk => by
    have hu100 : (CxB P w K mg base N__law_row_views "_law_row_views" (topS 22) t.a__law_row_views cdv A outer s H E).A.units + 100 < cLine := by have := hr.un; omega
    exact (js_cons (js_par rfl sc__law_row_views.nd rfl rfl (by decide) rfl rfl (j_bi (cre_max rfl hu100) (by rfl) t.m_max (by decide +kernel) (ja_cons (j_bi (cre_sum rfl) (by rfl) t.m_sum (by decide +kernel) (ja_cons (j_var (pv 1)) ja_nil)) (ja_cons j_int ja_nil))) (j_lst ja_nil))
    (js_cons (js_set (i := 4) sc__law_row_views.nd rfl (by first | exact Or.inl rfl | exact Or.inr rfl) (j_call (ok__law_row_cells t) hgd (hr.mono (by decide)) tk (by rfl) t.g__law_row_cells t.F__law_row_cells.kp t.b__law_row_cells (ja_cons (j_var (pv 1)) (ja_cons j_int (ja_cons (j_bin ope_add (j_var (pv 2)) (j_var (pv 0))) ja_nil)))))
    (js_cons (js_for (passes_of rfl) rfl (ji_r1 (by rfl) t.m_range (ja_cons (j_var (pv 2)) ja_nil)) (jg_name (i := 5) sc__law_row_views.nd rfl (by first | exact Or.inl rfl | exact Or.inr rfl)) (js_cons (js_set (i := 6) sc__law_row_views.nd rfl (by first | exact Or.inl rfl | exact Or.inr rfl) (j_sl (j_var (pv 4)) (jo_some (j_var (pv 5))) (jo_some (j_bin ope_add (j_var (pv 5)) (j_var (pv 0))))))
    (js_one (js_if (jt_cmp (ope_notin hu100) (j_var (pv 6)) (j_var (pv 3)) (by rfl)) (js_one (js_ex (j_append (j_var (pv 3)) (j_var (pv 6))))) js_nil))))
    (js_one (js_ret (j_var (pv 3)))))))
theorem ok__law_row_alone (t : Top K mg) : FnG P w K mg base (L2.CX P w) 3 t.a__law_row_alone t.d__law_row_alone ["k", "row"] (SpG K [] mg 2 s__law_row_alone) :=
  fnG_ok t.F__law_row_alone sc__law_row_alone fun cdv hcdv A outer s H E hgd hr tk => by
    have hu64 : (CxB P w K mg base N__law_row_alone "_law_row_alone" (topS 23) t.a__law_row_alone cdv A outer s H E).A.units + 64 < cLine := by have := hr.un; omega
    exact (js_cons (js_set (i := 2) sc__law_row_alone.nd rfl (by first | exact Or.inl rfl | exact Or.inr rfl) (j_lst ja_nil))
    (js_cons (js_for (passes_of rfl) rfl (ji_seq (j_call (ok__law_row_views t) hgd (hr.mono (by decide)) tk (by rfl) t.g__law_row_views t.F__law_row_views.kp t.b__law_row_views (ja_cons (j_var (pv 0)) (ja_cons (j_var (pv 1)) ja_nil)))) (jg_name (i := 3) sc__law_row_alone.nd rfl (by first | exact Or.inl rfl | exact Or.inr rfl)) (js_one (js_if (jt_cmp (ope_eq hu64) (j_bi (cre_sum rfl) (by rfl) t.m_sum (by decide +kernel) (ja_cons (j_var (pv 3)) ja_nil)) j_int (nomark _)) (js_one (js_ex (j_append (j_var (pv 2)) (j_bin ope_add (j_index (j_var (pv 3)) j_int) j_int)))) js_nil)))
    (js_one (js_ret (j_sset rfl (by rfl) t.m_sorted (by rfl) t.m_set (ja_cons (j_var (pv 2)) ja_nil))))))
theorem ok__law_draw (t : Top K mg) : FnG P w K mg base (L2.CX P w) 1 t.a__law_draw t.d__law_draw ["pool", "many"] (SpG K [] mg 2 s__law_draw) :=
  fnG_ok t.F__law_draw sc__law_draw fun cdv hcdv A outer s H E hgd hr tk => by
    have hu64 : (CxB P w K mg base N__law_draw "_law_draw" (topS 19) t.a__law_draw cdv A outer s H E).A.units + 64 < cLine := by have := hr.un; omega
    exact (js_cons (js_if (jt_w (jw_and (jt_cmp (ope_eq hu64) (j_ix ixe (j_var (pv 0)) j_int (fun _ _ => rfl)) j_int (nomark _)) (jw_and1 (jt_cmp (ope_ne hu64) (j_ix ixe (j_var (pv 0)) j_int (fun _ _ => rfl)) (j_lst ja_nil) (nomark _))))) (js_cons (js_set (i := 2) sc__law_draw.nd rfl (by first | exact Or.inl rfl | exact Or.inr rfl) (j_ty cre_int (by rfl) t.m_int (by decide +kernel) (ja_cons (j_popAt (j_ix ixe (j_var (pv 0)) j_int (fun _ _ => rfl)) j_int) ja_nil)))
    (js_cons (js_set (i := 3) sc__law_draw.nd rfl (by first | exact Or.inl rfl | exact Or.inr rfl) (j_if (jt_cmp ope_ge (j_var (pv 2)) j_int (nomark _)) (j_bin ope_mul j_int (j_var (pv 2))) (j_bin ope_sub (j_un une_neg j_int) (j_bin ope_mul j_int (j_var (pv 2))))))
    (js_cons (js_store (j_var (pv 0)) j_int (j_if (jt_cmp ope_ge (j_var (pv 3)) (j_bin ope_pow j_int j_int) (nomark _)) (j_var (pv 3)) j_int))
    (js_one (js_store (j_var (pv 0)) j_int (j_bin ope_add (j_bin ope_mod (j_ty cre_int (by rfl) t.m_int (by decide +kernel) (ja_cons (j_bin ope_add (j_ix ixe (j_var (pv 0)) j_int (fun _ _ => rfl)) (j_bin ope_mul (j_var (pv 3)) j_int)) ja_nil)) j_int) j_int)))))) js_nil)
    (js_cons (js_if (jt_cmp ope_gt (j_ix ixe (j_var (pv 0)) j_int (fun _ _ => rfl)) j_int (nomark _)) (js_cons (js_set (i := 4) sc__law_draw.nd rfl (by first | exact Or.inl rfl | exact Or.inr rfl) (j_bin ope_mod (j_ty cre_int (by rfl) t.m_int (by decide +kernel) (ja_cons (j_ix ixe (j_var (pv 0)) j_int (fun _ _ => rfl)) ja_nil)) (j_var (pv 1))))
    (js_cons (js_store (j_var (pv 0)) j_int (j_bin ope_div (j_ix ixe (j_var (pv 0)) j_int (fun _ _ => rfl)) (j_var (pv 1))))
    (js_one (js_ret (j_var (pv 4)))))) js_nil)
    (js_cons (js_store (j_var (pv 0)) j_int (j_bin ope_mod (j_ty cre_int (by rfl) t.m_int (by decide +kernel) (ja_cons (j_bin ope_add (j_bin ope_mul (j_ix ixe (j_var (pv 0)) j_int (fun _ _ => rfl)) j_int) j_int) ja_nil)) j_int))
    (js_one (js_ret (j_bin ope_mod (j_bin ope_div (j_bin ope_mod (j_ty cre_int (by rfl) t.m_int (by decide +kernel) (ja_cons (j_bin ope_mul (j_ix ixe (j_var (pv 0)) j_int (fun _ _ => rfl)) (j_ix ixe (j_var (pv 0)) j_int (fun _ _ => rfl))) ja_nil)) j_int) j_int) (j_var (pv 1))))))))
theorem ok__law_pick (t : Top K mg) : FnG P w K mg base (L2.CX P w) 2 t.a__law_pick t.d__law_pick ["pool", "things"] (SpG K [] mg 2 s__law_pick) :=
  fnG_ok t.F__law_pick sc__law_pick fun cdv hcdv A outer s H E hgd hr tk => by
    exact (js_one (js_ret (j_ix ixe (j_var (pv 1)) (j_call (ok__law_draw t) hgd (hr.mono (by decide)) tk (by rfl) t.g__law_draw t.F__law_draw.kp t.b__law_draw (ja_cons (j_var (pv 0)) (ja_cons (j_bi cre_len (by rfl) t.m_len (by decide +kernel) (ja_cons (j_var (pv 1)) ja_nil)) ja_nil))) (fun _ _ => rfl))))
theorem ok__law_row_drawn (t : Top K mg) : FnG P w K mg base (L2.CX P w) 2 t.a__law_row_drawn t.d__law_row_drawn ["pool", "gaps", "top"] (SpG K [] mg 3 s__law_row_drawn) :=
  fnG_ok t.F__law_row_drawn sc__law_row_drawn fun cdv hcdv A outer s H E hgd hr tk => by
    have hu64 : (CxB P w K mg base N__law_row_drawn "_law_row_drawn" (topS 24) t.a__law_row_drawn cdv A outer s H E).A.units + 64 < cLine := by have := hr.un; omega
    exact (js_cons (js_par rfl sc__law_row_drawn.nd rfl rfl (by decide) rfl rfl (j_call (ok__law_draw t) hgd (hr.mono (by decide)) tk (by rfl) t.g__law_draw t.F__law_draw.kp t.b__law_draw (ja_cons (j_var (pv 0)) (ja_cons j_int ja_nil))) (j_lst ja_nil))
    (js_cons (js_if (jt_cmp (ope_eq hu64) (j_var (pv 3)) j_int (nomark _)) (js_one (js_ret (j_tup ja_nil))) js_nil)
    (js_cons (js_for (passes_of rfl) rfl (ji_r1 (by rfl) t.m_range (ja_cons (j_bin ope_add j_int (j_call (ok__law_draw t) hgd (hr.mono (by decide)) tk (by rfl) t.g__law_draw t.F__law_draw.kp t.b__law_draw (ja_cons (j_var (pv 0)) (ja_cons (j_var (pv 1)) ja_nil)))) ja_nil)) (jg_name (i := 5) sc__law_row_drawn.nd rfl (by first | exact Or.inl rfl | exact Or.inr rfl)) (js_one (js_ex (j_append (j_var (pv 4)) (j_bin ope_add j_int (j_call (ok__law_draw t) hgd (hr.mono (by decide)) tk (by rfl) t.g__law_draw t.F__law_draw.kp t.b__law_draw (ja_cons (j_var (pv 0)) (ja_cons (j_if (jt_w (jw_and (jt_cmp (ope_eq hu64) (j_var (pv 3)) j_int (nomark _)) (jw_and1 (jt_cmp (ope_eq hu64) (j_var (pv 5)) j_int (nomark _))))) j_int (j_var (pv 2))) ja_nil))))))))
    (js_cons (js_set (i := 6) sc__law_row_drawn.nd rfl (by first | exact Or.inl rfl | exact Or.inr rfl) (j_ty cre_tuple (by rfl) t.m_tuple (by decide +kernel) (ja_cons (j_var (pv 4)) ja_nil)))
    (js_one (js_ret (j_if (jt_w (jw_and (jt_cmp (ope_eq hu64) (j_var (pv 3)) j_int (nomark _)) (jw_and1 (jt_cmp ope_lt (j_bi cre_len (by rfl) t.m_len (by decide +kernel) (ja_cons (j_var (pv 6)) ja_nil)) j_int (nomark _))))) (j_bin ope_add (j_var (pv 6)) (j_var (pv 6))) (j_var (pv 6)))))))))
theorem ok__law_scene (t : Top K mg) : FnG P w K mg base (L2.CX P w) 3 t.a__law_scene t.d__law_scene ["pool"] (SpG K [] mg 1 s__law_scene) :=
  fnG_ok t.F__law_scene sc__law_scene fun cdv hcdv A outer s H E hgd hr tk => by
    have hu64 : (CxB P w K mg base N__law_scene "_law_scene" (topS 25) t.a__law_scene cdv A outer s H E).A.units + 64 < cLine := by have := hr.un; omega
    have hu100 : (CxB P w K mg base N__law_scene "_law_scene" (topS 25) t.a__law_scene cdv A outer s H E).A.units + 100 < cLine := by have := hr.un; omega
    exact (js_cons (js_set (i := 1) sc__law_scene.nd rfl (by first | exact Or.inl rfl | exact Or.inr rfl) (j_if (jt_cmp ope_gt (j_call (ok__law_draw t) hgd (hr.mono (by decide)) tk (by rfl) t.g__law_draw t.F__law_draw.kp t.b__law_draw (ja_cons (j_var (pv 0)) (ja_cons j_int ja_nil))) j_int (nomark _)) (j_call (ok__law_pick t) hgd (hr.mono (by decide)) tk (by rfl) t.g__law_pick t.F__law_pick.kp t.b__law_pick (ja_cons (j_var (pv 0)) (ja_cons (j_lst (ja_cons j_int (ja_cons j_int (ja_cons j_int (ja_cons j_int (ja_cons j_int (ja_cons j_int (ja_cons j_int (ja_cons j_int (ja_cons (j_bin ope_add j_int (j_call (ok__law_draw t) hgd (hr.mono (by decide)) tk (by rfl) t.g__law_draw t.F__law_draw.kp t.b__law_draw (ja_cons (j_var (pv 0)) (ja_cons j_int ja_nil)))) ja_nil)))))))))) ja_nil))) (j_bin ope_add j_int (j_call (ok__law_draw t) hgd (hr.mono (by decide)) tk (by rfl) t.g__law_draw t.F__law_draw.kp t.b__law_draw (ja_cons (j_var (pv 0)) (ja_cons j_int ja_nil))))))
    (js_cons (js_set (i := 2) sc__law_scene.nd rfl (by first | exact Or.inl rfl | exact Or.inr rfl) (j_call (ok__law_draw t) hgd (hr.mono (by decide)) tk (by rfl) t.g__law_draw t.F__law_draw.kp t.b__law_draw (ja_cons (j_var (pv 0)) (ja_cons j_int ja_nil))))
    (js_cons (js_if (jt_cmp (ope_eq hu64) (j_var (pv 2)) j_int (nomark _)) (js_one (js_ret (j_tup (ja_cons (j_var (pv 1)) (ja_cons (j_bin ope_add (j_tup (ja_cons (j_var (pv 1)) ja_nil)) (j_call (ok__law_row_drawn t) hgd (hr.mono (by decide)) tk (by rfl) t.g__law_row_drawn t.F__law_row_drawn.kp t.b__law_row_drawn (ja_cons (j_var (pv 0)) (ja_cons j_int (ja_cons (j_var (pv 1)) ja_nil))))) ja_nil))))) js_nil)
    (js_cons (js_if (jt_cmp (ope_eq hu64) (j_var (pv 2)) j_int (nomark _)) (js_one (js_ret (j_tup (ja_cons (j_var (pv 1)) (ja_cons (j_bin ope_add (j_call (ok__law_row_drawn t) hgd (hr.mono (by decide)) tk (by rfl) t.g__law_row_drawn t.F__law_row_drawn.kp t.b__law_row_drawn (ja_cons (j_var (pv 0)) (ja_cons j_int (ja_cons (j_var (pv 1)) ja_nil)))) (j_tup (ja_cons (j_bi (cre_min rfl hu100) (by rfl) t.m_min (by decide +kernel) (ja_cons (j_bin ope_add (j_var (pv 1)) j_int) (ja_cons j_int ja_nil))) ja_nil))) ja_nil))))) js_nil)
    (js_one (js_ret (j_tup (ja_cons (j_var (pv 1)) (ja_cons (j_call (ok__law_row_drawn t) hgd (hr.mono (by decide)) tk (by rfl) t.g__law_row_drawn t.F__law_row_drawn.kp t.b__law_row_drawn (ja_cons (j_var (pv 0)) (ja_cons j_int (ja_cons (j_var (pv 1)) ja_nil)))) ja_nil)))))))))
theorem ok__law_places (t : Top K mg) : FnG P w K mg base (L2.CX P w) 2 t.a__law_places t.d__law_places ["k", "row"] (SpG K [] mg 2 s__law_places) :=
  fnG_ok t.F__law_places sc__law_places fun cdv hcdv A outer s H E hgd hr tk => by
    have hu64 : (CxB P w K mg base N__law_places "_law_places" (topS 26) t.a__law_places cdv A outer s H E).A.units + 64 < cLine := by have := hr.un; omega
    exact (js_cons (js_par3 rfl sc__law_places.nd rfl rfl rfl (by decide) (by decide) (by decide) rfl rfl rfl (j_lst ja_nil) j_int (j_bi (cre_sum rfl) (by rfl) t.m_sum (by decide +kernel) (ja_cons (j_var (pv 1)) ja_nil)))
    (js_cons (js_set (i := 5) sc__law_places.nd rfl (by first | exact Or.inl rfl | exact Or.inr rfl) (j_if (jt_cmp ope_gt (j_var (pv 4)) j_int (nomark _)) (j_bin ope_add (j_bin ope_div (j_var (pv 0)) (j_var (pv 4))) j_int) j_int))
    (js_cons (js_set (i := 6) sc__law_places.nd rfl (by first | exact Or.inl rfl | exact Or.inr rfl) (j_call (ok__law_row_cells t) hgd (hr.mono (by decide)) tk (by rfl) t.g__law_row_cells t.F__law_row_cells.kp t.b__law_row_cells (ja_cons (j_var (pv 1)) (ja_cons j_int (ja_cons (j_bin ope_add (j_bin ope_add (j_bin ope_mul (j_var (pv 5)) (j_var (pv 4))) (j_var (pv 4))) (j_var (pv 0))) ja_nil)))))
    (js_cons (js_for (passes_of rfl) rfl (ji_seq (j_var (pv 1))) (jg_name (i := 7) sc__law_places.nd rfl (by first | exact Or.inl rfl | exact Or.inr rfl)) (js_cons (js_set (i := 8) sc__law_places.nd rfl (by first | exact Or.inl rfl | exact Or.inr rfl) (j_bin ope_add (j_bin ope_mul (j_var (pv 5)) (j_var (pv 4))) (j_var (pv 3))))
    (js_cons (js_setLc1 (own := [("place", 10)]) (i := 9) rfl sc__law_places.nd rfl rfl (sw_true rfl rfl rfl (by decide +kernel)) (ji_r2 (by rfl) t.m_range (ja_cons j_int (ja_cons (j_bin ope_add (j_var (pv 0)) j_int) ja_nil))) (blkOk_by (own := [("place", 10)]) (N := N__law_places) (sc := defScope (topS 26)) (by decide +kernel)) (by decide) (fun _ _ _ _ _ => (jg_name (i := 10) sc__law_places.nd rfl (by first | exact Or.inl rfl | exact Or.inr rfl))) (fun _ _ _ _ _ => (jt_cmp (ope_eq hu64) (j_bi (cre_sum rfl) (by rfl) t.m_sum (by decide +kernel) (ja_cons (j_sl (j_var (pv 6)) (jo_some (j_bin ope_sub (j_bin ope_add (j_var (pv 8)) j_int) (j_var (pv 10)))) (jo_some (j_bin ope_add (j_bin ope_sub (j_bin ope_add (j_var (pv 8)) j_int) (j_var (pv 10))) (j_var (pv 0))))) ja_nil)) j_int (nomark _))) (fun _ _ _ _ _ => (j_var (pv 10))))
    (js_cons (js_ex (j_append (j_var (pv 2)) (j_var (pv 9))))
    (js_one (js_set (i := 3) sc__law_places.nd rfl (by first | exact Or.inl rfl | exact Or.inr rfl) (j_bin ope_add (j_var (pv 3)) (j_var (pv 7)))))))))
    (js_one (js_ret (j_var (pv 2))))))))
theorem ok_law (t : Top K mg) : FnG P w K mg base (L2.CX P w) 7 t.a_law t.d_law ["script"] (SpG K [] mg 1 s_law) :=
  fnG_ok t.F_law sc_law fun cdv hcdv A outer s H E hgd hr tk => by
    have hu64 : (CxB P w K mg base N_law "law" (topS 27) t.a_law cdv A outer s H E).A.units + 64 < cLine := by have := hr.un; omega
    have hu100 : (CxB P w K mg base N_law "law" (topS 27) t.a_law cdv A outer s H E).A.units + 100 < cLine := by have := hr.un; omega
    exact (js_cons (js_set (i := 1) sc_law.nd rfl (by first | exact Or.inl rfl | exact Or.inr rfl) (j_call (ok__law_pool t) hgd (hr.mono (by decide)) tk (by rfl) t.g__law_pool t.F__law_pool.kp t.b__law_pool (ja_cons (j_var (pv 0)) ja_nil)))
    (js_cons (js_if (jt_w (jw_or (jt_cmp (ope_ne hu64) (j_call (ok_owned t) hgd (hr.mono (by decide)) tk (by rfl) t.g_owned t.F_owned.kp t.b_owned (ja_cons j_int (ja_cons (j_tup (ja_cons j_int (ja_cons j_int ja_nil))) ja_nil))) (j_tup (ja_cons (j_tup (ja_cons j_int (ja_cons j_int ja_nil))) (ja_cons (j_tup (ja_cons j_int (ja_cons j_int ja_nil))) ja_nil))) (nomark _)) (jw_or (jt_cmp (ope_ne hu64) (j_call (ok_alone t) hgd (hr.mono (by decide)) tk (by rfl) t.g_alone t.F_alone.kp t.b_alone (ja_cons j_int (ja_cons (j_tup (ja_cons j_int (ja_cons j_int ja_nil))) ja_nil))) (j_tup (ja_cons j_int (ja_cons j_int (ja_cons j_int (ja_cons j_int ja_nil))))) (nomark _)) (jw_or1 (jt_cmp (ope_ne hu64) (j_call (ok_owned t) hgd (hr.mono (by decide)) tk (by rfl) t.g_owned t.F_owned.kp t.b_owned (ja_cons j_int (ja_cons (j_tup (ja_cons j_int (ja_cons j_int ja_nil))) ja_nil))) (j_tup (ja_cons j_non (ja_cons j_non ja_nil))) (nomark _)))))) (js_one (js_ret j_bl)) js_nil)
    (js_cons (js_if (jt_w (jw_or (jt_cmp (ope_ne hu64) (j_call (ok_owned t) hgd (hr.mono (by decide)) tk (by rfl) t.g_owned t.F_owned.kp t.b_owned (ja_cons j_int (ja_cons (j_tup ja_nil) ja_nil))) (j_tup ja_nil) (nomark _)) (jw_or (jt_cmp (ope_ne hu64) (j_call (ok_alone t) hgd (hr.mono (by decide)) tk (by rfl) t.g_alone t.F_alone.kp t.b_alone (ja_cons j_int (ja_cons (j_tup ja_nil) ja_nil))) (j_tup ja_nil) (nomark _)) (jw_or1 (jt_cmp (ope_ne hu64) (j_call (ok_owned t) hgd (hr.mono (by decide)) tk (by rfl) t.g_owned t.F_owned.kp t.b_owned (ja_cons j_int (ja_cons (j_tup (ja_cons j_int ja_nil)) ja_nil))) (j_tup (ja_cons (j_tup (ja_cons j_int (ja_cons j_int ja_nil))) ja_nil)) (nomark _)))))) (js_one (js_ret j_bl)) js_nil)
    (js_cons (js_for (passes_of rfl) rfl (ji_r1 (by rfl) t.m_range (ja_cons j_int ja_nil)) (jg_name (i := 2) sc_law.nd rfl (by first | exact Or.inl rfl | exact Or.inr rfl)) (js_cons (js_asg (j_call (ok__law_scene t) hgd (hr.mono (by decide)) tk (by rfl) t.g__law_scene t.F__law_scene.kp t.b__law_scene (ja_cons (j_var (pv 1)) ja_nil)) (jg_tup rfl (jgs_cons (jg_name (i := 3) sc_law.nd rfl (by first | exact Or.inl rfl | exact Or.inr rfl)) (jgs_cons (jg_name (i := 4) sc_law.nd rfl (by first | exact Or.inl rfl | exact Or.inr rfl)) jgs_nil))))
    (js_cons (js_set (i := 5) sc_law.nd rfl (by first | exact Or.inl rfl | exact Or.inr rfl) (j_call (ok__law_places t) hgd (hr.mono (by decide)) tk (by rfl) t.g__law_places t.F__law_places.kp t.b__law_places (ja_cons (j_var (pv 3)) (ja_cons (j_var (pv 4)) ja_nil))))
    (js_cons (js_set (i := 6) sc_law.nd rfl (by first | exact Or.inl rfl | exact Or.inr rfl) (j_ty cre_tuple (by rfl) t.m_tuple (by decide +kernel) (ja_cons (j_lc0 (own := [("some", 7)])  rfl sc_law.nd (ji_seq (j_var (pv 5))) (blkOk_by (own := [("some", 7)]) (N := N_law) (sc := defScope (topS 27)) (by decide +kernel)) (by decide) (fun _ _ _ _ _ => (jg_name (i := 7) sc_law.nd rfl (by first | exact Or.inl rfl | exact Or.inr rfl))) (fun _ _ _ _ _ => (j_if (jt_cmp (ope_ne hu64) (j_var (pv 7)) (j_lst ja_nil) (nomark _)) (j_tup (ja_cons (j_ix ixe (j_var (pv 7)) j_int (fun _ _ => rfl)) (ja_cons (j_ix ixe (j_var (pv 7)) (j_un une_neg j_int) (fun _ _ => rfl)) ja_nil))) j_non))) ja_nil)))
    (js_cons (js_if (jt_cmp (ope_ne hu64) (j_bi (cre_repr hgd hu100) (by rfl) t.m_repr (by decide +kernel) (ja_cons (j_call (ok_owned t) hgd (hr.mono (by decide)) tk (by rfl) t.g_owned t.F_owned.kp t.b_owned (ja_cons (j_var (pv 3)) (ja_cons (j_var (pv 4)) ja_nil))) ja_nil)) (j_bi (cre_repr hgd hu100) (by rfl) t.m_repr (by decide +kernel) (ja_cons (j_var (pv 6)) ja_nil)) (nomark _)) (js_one (js_ret j_bl)) js_nil)
    (js_cons (js_if (jt_cmp (ope_ne hu64) (j_lc1 (own := [("some", 7)])  rfl sc_law.nd (ji_seq (j_var (pv 5))) (blkOk_by (own := [("some", 7)]) (N := N_law) (sc := defScope (topS 27)) (by decide +kernel)) (by decide) (fun _ _ _ _ _ => (jg_name (i := 7) sc_law.nd rfl (by first | exact Or.inl rfl | exact Or.inr rfl))) (fun _ _ _ _ _ => (jt_w (jw_and (jt_cmp (ope_ne hu64) (j_var (pv 7)) (j_lst ja_nil) (nomark _)) (jw_and1 (jt_cmp (ope_ne hu64) (j_bi cre_len (by rfl) t.m_len (by decide +kernel) (ja_cons (j_var (pv 7)) ja_nil)) (j_bin ope_add (j_bin ope_sub (j_ix ixe (j_var (pv 7)) (j_un une_neg j_int) (fun _ _ => rfl)) (j_ix ixe (j_var (pv 7)) j_int (fun _ _ => rfl))) j_int) (nomark _)))))) (fun _ _ _ _ _ => (j_var (pv 7)))) (j_lst ja_nil) (nomark _)) (js_one (js_ret j_bl)) js_nil)
    (js_one (js_if (jt_cmp (ope_ne hu64) (j_bi (cre_repr hgd hu100) (by rfl) t.m_repr (by decide +kernel) (ja_cons (j_call (ok_alone t) hgd (hr.mono (by decide)) tk (by rfl) t.g_alone t.F_alone.kp t.b_alone (ja_cons (j_var (pv 3)) (ja_cons (j_var (pv 4)) ja_nil))) ja_nil)) (j_bi (cre_repr hgd hu100) (by rfl) t.m_repr (by decide +kernel) (ja_cons (j_ty cre_tuple (by rfl) t.m_tuple (by decide +kernel) (ja_cons (j_call (ok__law_row_alone t) hgd (hr.mono (by decide)) tk (by rfl) t.g__law_row_alone t.F__law_row_alone.kp t.b__law_row_alone (ja_cons (j_var (pv 3)) (ja_cons (j_var (pv 4)) ja_nil))) ja_nil)) ja_nil)) (nomark _)) (js_one (js_ret j_bl)) js_nil))))))))
    (js_one (js_ret j_bl))))))
end
end Gk05

namespace Gk05
/-- a dot of a row, counted from its first one -/
def isDot : List Nat → Nat → Bool
  | [], _ => false
  | g :: r, j => (j == 0) || (decide (g ≤ j) && isDot r (j - g))
def val (row : List Nat) (j : Nat) : Int := if isDot row j = true then 1 else 0
def onceR : List Nat → List Int
  | [] => []
  | g :: r => 1 :: List.replicate (g - 1) 0 ++ onceR r
theorem once_len : ∀ row : List Nat, (∀ x ∈ row, 1 ≤ x) → (onceR row).length = row.sum
  | [], _ => rfl
  | g :: r, h => by
    have h1 := h g (by simp)
    have h2 := once_len r (fun x hx => h x (by simp [hx]))
    simp [onceR, h2]
    omega
theorem dot_lt : ∀ (row : List Nat) (j : Nat), (∀ x ∈ row, 1 ≤ x) → isDot row j = true → j < row.sum
  | [], _, _, h => by cases h
  | g :: r, j, h, hd => by
    have h1 := h g (by simp)
    simp only [isDot, Bool.or_eq_true, beq_iff_eq, Bool.and_eq_true, decide_eq_true_eq] at hd
    simp only [List.sum_cons]
    rcases hd with rfl | ⟨h2, h3⟩
    · omega
    · have := dot_lt r (j - g) (fun x hx => h x (by simp [hx])) h3
      omega
theorem once_get : ∀ (row : List Nat) (j : Nat), (∀ x ∈ row, 1 ≤ x) → j < row.sum → (onceR row)[j]? = some (val row j)
  | [], _, _, h => by cases h
  | g :: r, j, h, hj => by
    have h1 := h g (by simp)
    simp only [List.sum_cons] at hj
    cases j with
    | zero => simp [onceR, val, isDot]
    | succ j =>
      by_cases hg : j + 1 < g
      · have e : isDot (g :: r) (j + 1) = false := by
          simp [isDot]
          omega
        simp only [onceR, val, e, List.cons_append, List.getElem?_cons_succ]
        rw [List.getElem?_append_left (by simp; omega), List.getElem?_replicate, if_pos (by omega)]
        rfl
      · have e : isDot (g :: r) (j + 1) = isDot r (j + 1 - g) := by
          have : g ≤ j + 1 := by omega
          simp [isDot, this]
        simp only [onceR, val, e, List.cons_append, List.getElem?_cons_succ]
        rw [List.getElem?_append_right (by simp; omega)]
        have := once_get r (j + 1 - g) (fun x hx => h x (by simp [hx])) (by omega)
        simp only [List.length_replicate]
        rw [show j - (g - 1) = j + 1 - g by omega, this]
        rfl
/-- dots by parts -/
theorem dot_iff : ∀ (row : List Nat) (j : Nat), isDot row j = true ↔ ∃ a b, row = a ++ b ∧ b ≠ [] ∧ a.sum = j
  | [], j => by
    constructor
    · intro h; cases h
    · rintro ⟨a, b, h, hb, _⟩
      have := List.append_eq_nil_iff.mp h.symm
      exact absurd this.2 hb
  | g :: r, j => by
    simp only [isDot, Bool.or_eq_true, beq_iff_eq, Bool.and_eq_true, decide_eq_true_eq, dot_iff r]
    constructor
    · rintro (rfl | ⟨h1, a, b, rfl, hb, hs⟩)
      · exact ⟨[], g :: r, rfl, by simp, rfl⟩
      · exact ⟨g :: a, b, rfl, hb, by simp; omega⟩
    · rintro ⟨a, b, h, hb, hs⟩
      cases a with
      | nil => exact .inl (by simpa using hs.symm)
      | cons x a =>
        simp only [List.cons_append, List.cons.injEq] at h
        obtain ⟨rfl, rfl⟩ := h
        simp only [List.sum_cons] at hs
        exact .inr ⟨by omega, a, b, rfl, hb, by omega⟩
theorem dot_zero (row : List Nat) (h : row ≠ []) : isDot row 0 = true := by
  cases row with
  | nil => exact absurd rfl h
  | cons g r => rfl
theorem pos_sum : ∀ row : List Nat, (∀ x ∈ row, 1 ≤ x) → row ≠ [] → 0 < row.sum
  | [], _, h => absurd rfl h
  | g :: r, h, _ => by have := h g (by simp); simp only [List.sum_cons]; omega
/-- what is seen of a row from a place on -/
def seen (row : List Nat) (start m : Nat) : List Int := (List.range m).map fun i => if row = [] then 0 else val row ((start + i) % row.sum)

/-- ones among k places from s on -/
def cnt (f : Nat → Bool) (s : Nat) : Nat → Nat
  | 0 => 0
  | k + 1 => cnt f s k + (if f (s + k) = true then 1 else 0)
theorem cnt_zero {f : Nat → Bool} {s : Nat} : ∀ k : Nat, (∀ i, i < k → f (s + i) = false) → cnt f s k = 0
  | 0, _ => rfl
  | k + 1, h => by rw [cnt, cnt_zero k (fun i hi => h i (by omega)), h k (by omega)]; rfl
theorem cnt_one {f : Nat → Bool} {s j : Nat} (hj : f (s + j) = true) : ∀ k : Nat, j < k → (∀ i, i < k → i ≠ j → f (s + i) = false) → cnt f s k = 1
  | 0, h, _ => by omega
  | k + 1, h, hn => by
    rw [cnt]
    by_cases e : j = k
    · subst e
      rw [cnt_zero j (fun i hi => hn i (by omega) (by omega)), hj]
      rfl
    · rw [cnt_one hj k (by omega) (fun i hi => hn i (by omega)), hn k (by omega) (by omega)]
      rfl
theorem cnt_get {f : Nat → Bool} {s j : Nat} (hj : f (s + j) = true) : ∀ k : Nat, j < k → 1 ≤ cnt f s k
  | 0, h => by omega
  | k + 1, h => by
    rw [cnt]
    by_cases e : j = k
    · subst e; rw [hj]; simp
    · have := cnt_get hj k (by omega); omega
theorem cnt_two {f : Nat → Bool} {s i j : Nat} (hi : f (s + i) = true) (hj : f (s + j) = true) (hij : i < j) : ∀ k : Nat, j < k → 2 ≤ cnt f s k
  | 0, h => by omega
  | k + 1, h => by
    rw [cnt]
    by_cases e : j = k
    · subst e
      have := cnt_get hi j hij
      rw [hj]; simp; omega
    · have := cnt_two hi hj hij k (by omega); omega
theorem cnt_uni {f : Nat → Bool} {s : Nat} : ∀ k : Nat, cnt f s k = 1 → ∃ j, j < k ∧ f (s + j) = true ∧ ∀ i, i < k → i ≠ j → f (s + i) = false
  | 0, h => by simp [cnt] at h
  | k + 1, h => by
    rw [cnt] at h
    cases hk : f (s + k) with
    | true =>
      rw [hk] at h
      have h0 : cnt f s k = 0 := by simpa using h
      refine ⟨k, by omega, hk, fun i hi hne => ?_⟩
      cases hi2 : f (s + i) with
      | false => rfl
      | true => have := cnt_get hi2 k (by omega); omega
    | false =>
      rw [hk] at h
      obtain ⟨j, h1, h2, h3⟩ := cnt_uni k (by simpa using h)
      refine ⟨j, by omega, h2, fun i hi hne => ?_⟩
      by_cases e : i = k
      · subst e; exact hk
      · exact h3 i (by omega) hne
theorem cnt_congr {f : Nat → Bool} {s t : Nat} : ∀ k : Nat, (∀ i, i < k → f (s + i) = f (t + i)) → cnt f s k = cnt f t k
  | 0, _ => rfl
  | k + 1, h => by rw [cnt, cnt, cnt_congr k (fun i hi => h i (by omega)), h k (by omega)]
/-- dots of the round told for ever -/
def dotAt (r : List Nat) (i : Nat) : Bool := isDot r (i % r.sum)
def here (r : List Nat) (a : Nat) : Nat := (r.take a).sum
theorem here_succ {r : List Nat} {a : Nat} (h : a < r.length) : here r (a + 1) = here r a + r.getD a 0 := by
  unfold here
  rw [List.take_succ_eq_append_getElem h, List.sum_append]
  simp [List.getD, h]
theorem here_all (r : List Nat) : here r r.length = r.sum := by simp [here]
theorem here_mono {r : List Nat} : ∀ {b a : Nat}, a ≤ b → b ≤ r.length → here r a ≤ here r b
  | 0, a, h, _ => by rw [show a = 0 by omega]; exact Nat.le_refl _
  | b + 1, a, h, hb => by
    by_cases e : a = b + 1
    · rw [e]; exact Nat.le_refl _
    · have := here_mono (r := r) (a := a) (b := b) (by omega) (by omega)
      rw [here_succ (by omega)]
      omega
theorem here_le {r : List Nat} {a : Nat} (h : a ≤ r.length) : here r a ≤ r.sum := by
  have := here_mono h (Nat.le_refl _)
  rwa [here_all] at this
theorem pos_at {r : List Nat} (hp : ∀ x ∈ r, 1 ≤ x) {a : Nat} (h : a < r.length) : 1 ≤ r.getD a 0 := by
  rw [show r.getD a 0 = r[a] by simp [List.getD, h]]
  exact hp _ (List.getElem_mem h)
theorem here_lt {r : List Nat} (hp : ∀ x ∈ r, 1 ≤ x) {a : Nat} (h : a < r.length) : here r a < r.sum := by
  have h1 := here_succ h
  have h2 := here_le (r := r) (a := a + 1) (by omega)
  have h3 := pos_at hp h
  omega
theorem dot_here {r : List Nat} {j : Nat} : isDot r j = true ↔ ∃ a, a < r.length ∧ here r a = j := by
  rw [dot_iff]
  constructor
  · rintro ⟨a, b, rfl, hb, hs⟩
    refine ⟨a.length, ?_, by simpa [here] using hs⟩
    cases b with
    | nil => exact absurd rfl hb
    | cons x b => simp
  · rintro ⟨a, ha, rfl⟩
    refine ⟨r.take a, r.drop a, by simp, ?_, rfl⟩
    intro z
    have := congrArg List.length z
    simp at this
    omega
/-- no dot between one and the next -/
theorem no_between {r : List Nat} {a j : Nat} (h : a < r.length) (h1 : here r a < j) (h2 : j < here r (a + 1)) : isDot r j = false := by
  cases hd : isDot r j with
  | false => rfl
  | true =>
    obtain ⟨b, hb, rfl⟩ := dot_here.mp hd
    by_cases e : b ≤ a
    · have := here_mono (r := r) e (by omega); omega
    · have := here_mono (r := r) (a := a + 1) (b := b) (by omega) (by omega); omega
theorem dotAt_add (r : List Nat) (q i : Nat) : dotAt r (q * r.sum + i) = dotAt r i := by
  unfold dotAt
  rw [Nat.add_comm, Nat.add_mul_mod_self_right]
theorem dotAt_low {r : List Nat} {i : Nat} (h : i < r.sum) : dotAt r i = isDot r i := by unfold dotAt; rw [Nat.mod_eq_of_lt h]
theorem dot_is {r : List Nat} (hp : ∀ x ∈ r, 1 ≤ x) {a : Nat} (h : a < r.length) (q : Nat) : dotAt r (q * r.sum + here r a) = true := by
  rw [dotAt_add, dotAt_low (here_lt hp h)]
  exact dot_here.mpr ⟨a, h, rfl⟩
theorem dot_right {r : List Nat} (hp : ∀ x ∈ r, 1 ≤ x) {a : Nat} (h : a < r.length) (q : Nat) : dotAt r (q * r.sum + here r a + r.getD a 0) = true := by
  rw [Nat.add_assoc, ← here_succ h]
  by_cases e : a + 1 < r.length
  · exact dot_is hp e q
  · have : a + 1 = r.length := by omega
    rw [this, here_all, show q * r.sum + r.sum = (q + 1) * r.sum + here r 0 by rw [Nat.succ_mul]; simp [here]]
    exact dot_is hp (by omega) (q + 1)
theorem none_right {r : List Nat} (hp : ∀ x ∈ r, 1 ≤ x) {a : Nat} (h : a < r.length) (q d : Nat) (h1 : 0 < d) (h2 : d < r.getD a 0) : dotAt r (q * r.sum + here r a + d) = false := by
  have hs := here_succ h
  have hl := here_le (r := r) (a := a + 1) (by omega)
  rw [Nat.add_assoc, dotAt_add, dotAt_low (by omega)]
  exact no_between h (by omega) (by omega)
/-- the one ahead -/
def prev (r : List Nat) (a : Nat) : Nat := if a = 0 then r.length - 1 else a - 1
theorem prev_lt {r : List Nat} {a : Nat} (h : a < r.length) : prev r a < r.length := by unfold prev; split <;> omega
def leftOf (r : List Nat) (a : Nat) : Nat := r.getD (prev r a) 0
/-- a dot's place told from the one ahead -/
theorem from_prev {r : List Nat} {a : Nat} (h : a < r.length) (q : Nat) : ∃ q', (q + 1) * r.sum + here r a = q' * r.sum + here r (prev r a) + leftOf r a := by
  unfold leftOf
  by_cases e : a = 0
  · subst e
    refine ⟨q, ?_⟩
    have h1 := here_succ (r := r) (a := r.length - 1) (by omega)
    rw [show r.length - 1 + 1 = r.length by omega, here_all] at h1
    rw [show prev r 0 = r.length - 1 from rfl, Nat.add_assoc, ← h1, Nat.succ_mul]
    simp [here]
  · refine ⟨q + 1, ?_⟩
    have h1 := here_succ (r := r) (a := a - 1) (by omega)
    rw [show a - 1 + 1 = a by omega] at h1
    rw [show prev r a = a - 1 by unfold prev; rw [if_neg e], Nat.add_assoc, ← h1]
/-- the windows of k that have a dot at p and no other one -/
theorem win_iff {r : List Nat} (hp : ∀ x ∈ r, 1 ≤ x) {a : Nat} (h : a < r.length) (q k p : Nat) (h1 : 1 ≤ p) (h2 : p ≤ k) (hs : p ≤ (q + 1) * r.sum + here r a + 1) :
    cnt (dotAt r) ((q + 1) * r.sum + here r a + 1 - p) k = 1 ↔ p ≤ leftOf r a ∧ k + 1 ≤ p + r.getD a 0 := by
  obtain ⟨q', hq⟩ := from_prev h q
  have hpl := prev_lt h
  have hl1 : 1 ≤ leftOf r a := pos_at hp hpl
  have hr1 := pos_at hp h
  have d0 := dot_is hp h (q + 1)
  have d1 := dot_right hp h (q + 1)
  have d2 := dot_is hp hpl q'
  have n1 := none_right hp h (q + 1)
  have n2 := none_right hp hpl q'
  rw [show r.getD (prev r a) 0 = leftOf r a from rfl] at n2
  generalize (q + 1) * r.sum + here r a = P at *
  generalize q' * r.sum + here r (prev r a) = P' at *
  generalize leftOf r a = L at *
  generalize r.getD a 0 = R at *
  generalize dotAt r = f at *
  constructor
  · intro hc
    refine ⟨?_, ?_⟩
    · refine Nat.le_of_not_lt fun hlt => ?_
      have := cnt_two (f := f) (s := P + 1 - p) (i := p - 1 - L) (j := p - 1) (by rw [show P + 1 - p + (p - 1 - L) = P' by omega]; exact d2) (by rw [show P + 1 - p + (p - 1) = P by omega]; exact d0) (by omega) k (by omega)
      omega
    · refine Nat.le_of_not_lt fun hlt => ?_
      have := cnt_two (f := f) (s := P + 1 - p) (i := p - 1) (j := p - 1 + R) (by rw [show P + 1 - p + (p - 1) = P by omega]; exact d0) (by rw [show P + 1 - p + (p - 1 + R) = P + R by omega]; exact d1) (by omega) k (by omega)
      omega
  · rintro ⟨g1, g2⟩
    refine cnt_one (j := p - 1) (by rw [show P + 1 - p + (p - 1) = P by omega]; exact d0) k (by omega) fun i hi hne => ?_
    by_cases e : i < p - 1
    · have := n2 (L - (p - 1 - i)) (by omega) (by omega)
      rw [show P' + (L - (p - 1 - i)) = P + 1 - p + i by omega] at this
      exact this
    · have := n1 (i - (p - 1)) (by omega) (by omega)
      rw [show P + (i - (p - 1)) = P + 1 - p + i by omega] at this
      exact this
/-- windows a round apart -/
theorem cnt_mod (r : List Nat) (s k : Nat) : cnt (dotAt r) (s % r.sum) k = cnt (dotAt r) s k := by
  refine cnt_congr k fun i _ => ?_
  have := Nat.mod_add_div s r.sum
  conv => rhs; rw [← this]
  rw [show s % r.sum + r.sum * (s / r.sum) + i = (s / r.sum) * r.sum + (s % r.sum + i) by rw [Nat.mul_comm]; omega, dotAt_add]
/-- the places of a dot -/
def inPl (r : List Nat) (k a p : Nat) : Prop := 1 ≤ p ∧ p ≤ k ∧ p ≤ leftOf r a ∧ k + 1 ≤ p + r.getD a 0
/-- the places at which a view has just one dot -/
theorem alone_iff {r : List Nat} (hp : ∀ x ∈ r, 1 ≤ x) (hne : r ≠ []) (k p : Nat) : (∃ a, a < r.length ∧ inPl r k a p) ↔ (1 ≤ p ∧ p ≤ k ∧ ∃ at', at' < r.sum ∧ cnt (dotAt r) at' k = 1 ∧ dotAt r (at' + (p - 1)) = true) := by
  have hs := pos_sum r hp hne
  constructor
  · rintro ⟨a, ha, h1, h2, h3, h4⟩
    have hbig : p ≤ (p + 1) * r.sum + here r a + 1 := by
      have : p + 1 ≤ (p + 1) * r.sum := Nat.le_mul_of_pos_right _ hs
      omega
    have hw := (win_iff hp ha p k p h1 h2 hbig).mpr ⟨h3, h4⟩
    refine ⟨h1, h2, ((p + 1) * r.sum + here r a + 1 - p) % r.sum, Nat.mod_lt _ hs, by rw [cnt_mod]; exact hw, ?_⟩
    have d0 := dot_is hp ha (p + 1)
    generalize hP : (p + 1) * r.sum + here r a = P at *
    have e := Nat.mod_add_div (P + 1 - p) r.sum
    have e2 : P = ((P + 1 - p) / r.sum) * r.sum + ((P + 1 - p) % r.sum + (p - 1)) := by rw [Nat.mul_comm]; omega
    rw [e2, dotAt_add] at d0
    exact d0
  · rintro ⟨h1, h2, s, hs1, hc, hd⟩
    obtain ⟨a, ha, he⟩ := dot_here.mp (show isDot r ((s + (p - 1)) % r.sum) = true from hd)
    refine ⟨a, ha, h1, h2, ?_⟩
    have hbig : p ≤ (p + 1) * r.sum + here r a + 1 := by
      have : p + 1 ≤ (p + 1) * r.sum := Nat.le_mul_of_pos_right _ hs
      omega
    refine (win_iff hp ha p k p h1 h2 hbig).mp ?_
    refine Eq.trans ?_ hc
    rw [← cnt_mod r s, ← cnt_mod r ((p + 1) * r.sum + here r a + 1 - p)]
    congr 1
    have e := Nat.mod_add_div (s + (p - 1)) r.sum
    rw [← he] at e
    have hb2 : p ≤ (p + 1) * r.sum := Nat.le_trans (Nat.le_succ p) (Nat.le_mul_of_pos_right _ hs)
    have e2 : (p + 1) * r.sum + here r a + 1 - p + (s + (p - 1)) / r.sum * r.sum = s + (p + 1) * r.sum := by
      rw [Nat.mul_comm ((s + (p - 1)) / r.sum)]
      generalize r.sum * ((s + (p - 1)) / r.sum) = Z at *
      generalize (p + 1) * r.sum = Y at *
      omega
    have e3 := congrArg (· % r.sum) e2
    simp only [Nat.add_mul_mod_self_right] at e3
    exact e3
end Gk05

namespace Gk05
open Mm
theorem pool_ok (ns : List Int) (hl : ns.length ≤ 63) : ∃ st', s__law_pool [.ref 0] [.ro (ns.map D.int)] = .ok (.ref 3) st' ∧ Pst [] st' := by
  cases ns with
  | nil =>
    refine ⟨_, rfl, [], [], [], 0, _, rfl, rfl, by decide, by decide, ?_, ?_, rfl⟩ <;> decide
  | cons n r =>
    have m1 := fun x => fmod_lo x 2147483629 (by decide)
    have m2 := fun x => fmod_hi x 2147483629 (by decide)
    by_cases hn : 0 ≤ n
    · by_cases h2 : 1000000000000000000 ≤ 2 * n <;> simp [s__law_pool, hn, h2, fnS, eV, eC, Mm.e1, Mm.e2, eN, aN, aC, eCall, eTup, eLst, eIf, eCh, eAndT, eOrT, eNotT, bB, bAnd, bOr, bNot, bTru, tru, sSeq, sSet, sEx, sRet, sRetN, sNx, sNo, sBrk, sCt, sIf, sPar, sPar3, sAsg, tgN, tgNil, tgCons, tgTup, Mm.R.bind, Mm.R.of, Mm.R.st, oAdd, oSub, mul_i, oDiv, oMod, oPow, oCmpI, oLt, oLe, oGt, oGe, oIs, oIsN, oEq, oNe, eqF, b64_of, oIx, seqOf, lstOf, cellItems, sStore, eSl, eO, oLen, oInt, oListOf, oTupOf, oMax, oMin, oSum, oGcd, intsOf, oIsi, tyName, oNeg, eM1, eM0, isLst, oApp, oExt, oPopAt, oPop, fin_i, fin_b, fin_n, fin_s, fin_t2, at0, at1, at2, at3, at4, cut1, ix0, ix1, ix2, fin_pool]
      · exact pst_pool _ _ _ _ (by simp at hl; omega) (by omega) (by have := m1 (2 * n * 48271 + 1009); omega) (by have := m2 (2 * n * 48271 + 1009); omega)
      · exact pst_pool _ _ _ _ (by simp at hl; omega) (by omega) (by have := m1 (2 * n * 48271 + 1009); omega) (by have := m2 (2 * n * 48271 + 1009); omega)
    · by_cases h2 : 1000000000000000000 ≤ -1 - 2 * n <;> simp [s__law_pool, hn, h2, fnS, eV, eC, Mm.e1, Mm.e2, eN, aN, aC, eCall, eTup, eLst, eIf, eCh, eAndT, eOrT, eNotT, bB, bAnd, bOr, bNot, bTru, tru, sSeq, sSet, sEx, sRet, sRetN, sNx, sNo, sBrk, sCt, sIf, sPar, sPar3, sAsg, tgN, tgNil, tgCons, tgTup, Mm.R.bind, Mm.R.of, Mm.R.st, oAdd, oSub, mul_i, oDiv, oMod, oPow, oCmpI, oLt, oLe, oGt, oGe, oIs, oIsN, oEq, oNe, eqF, b64_of, oIx, seqOf, lstOf, cellItems, sStore, eSl, eO, oLen, oInt, oListOf, oTupOf, oMax, oMin, oSum, oGcd, intsOf, oIsi, tyName, oNeg, eM1, eM0, isLst, oApp, oExt, oPopAt, oPop, fin_i, fin_b, fin_n, fin_s, fin_t2, at0, at1, at2, at3, at4, cut1, ix0, ix1, ix2, fin_pool]
      · exact pst_pool _ _ _ _ (by simp at hl; omega) (by omega) (by have := m1 ((-1 - 2 * n) * 48271 + 1009); omega) (by have := m2 ((-1 - 2 * n) * 48271 + 1009); omega)
      · exact pst_pool _ _ _ _ (by simp at hl; omega) (by omega) (by have := m1 ((-1 - 2 * n) * 48271 + 1009); omega) (by have := m2 ((-1 - 2 * n) * 48271 + 1009); omega)

theorem draw_ok {rest st : Sto} {many : Int} (hp : Pst rest st) (hr : lowS (4 + rest.length) rest = true) (h1 : 1 ≤ many) (h2 : many < 10000000) : ∃ r st', s__law_draw [.ref 3, .int many] st = .ok (.int r) st' ∧ 0 ≤ r ∧ r < many ∧ Pst rest st' := by
  obtain ⟨xs, sl, ks, a, b, f1, f2, hk, ha, hb, hb2, rfl⟩ := hp
  have hz : many ≠ 0 := by omega
  have hn : many.natAbs < 1073741824 := by omega
  have fin1 : ∀ (ks ks' : List Int) (a b a' b' : Int) (r : Int) (st' : Sto), ks'.length ≤ 100 → 0 ≤ a' → 0 ≤ b' → b' < 4294967296 → 0 ≤ r → r < many → st'.take (4 + rest.length) = pst xs sl ks' a' b' rest → ∃ q st2, fin (pst xs sl ks a b rest) (.int r) st' = .ok (.int q) st2 ∧ 0 ≤ q ∧ q < many ∧ Pst rest st2 :=
    fun ks ks' a b a' b' r st' q0 q1 q2 q3 q4 q5 e => ⟨_, _, fin_draw f1 f2 hr e, q4, q5, _, _, _, _, _, f1, f2, q0, q1, q2, q3, rfl⟩
  have m1 : ∀ x, 0 ≤ Int.fmod x many := fun x => fmod_lo x many (by omega)
  have m2 : ∀ x, Int.fmod x many < many := fun x => fmod_hi x many (by omega)
  have m3 : ∀ x, 0 ≤ Int.fmod x 2147483647 := fun x => fmod_lo x 2147483647 (by decide)
  have m4 : ∀ x, Int.fmod x 2147483647 < 4294967296 := fun x => by have := fmod_hi x 2147483647 (by decide); omega
  have m5 : ∀ x, 0 ≤ Int.fmod x 2147483629 + 3 := fun x => by have := fmod_lo x 2147483629 (by decide); omega
  have m6 : ∀ x, Int.fmod x 2147483629 + 3 < 4294967296 := fun x => by have := fmod_hi x 2147483629 (by decide); omega
  have m7 : ∀ x, 0 ≤ x → 0 ≤ Int.fdiv x many := fun x hx => Int.fdiv_nonneg hx (by omega)
  by_cases h0 : a = 0
  · cases ks with
    | nil =>
      subst h0
      simp [s__law_draw, fnS, eV, eC, Mm.e1, Mm.e2, eN, aN, aC, eCall, eTup, eLst, eIf, eCh, eAndT, eOrT, eNotT, bB, bAnd, bOr, bNot, bTru, tru, sSeq, sSet, sEx, sRet, sRetN, sNx, sNo, sBrk, sCt, sIf, sPar, sPar3, sAsg, tgN, tgNil, tgCons, tgTup, Mm.R.bind, Mm.R.of, Mm.R.st, oAdd, oSub, mul_i, oDiv, oMod, oPow, oCmpI, oLt, oLe, oGt, oGe, oIs, oIsN, oEq, oNe, eqF, b64_of, oIx, seqOf, lstOf, cellItems, sStore, eSl, eO, oLen, oInt, oListOf, oTupOf, oMax, oMin, oSum, oGcd, intsOf, oIsi, tyName, oNeg, eM1, eM0, isLst, oApp, oExt, oPopAt, oPop, fin_i, fin_b, fin_n, fin_s, fin_t2, at0, at1, at2, at3, at4, cut1, ix0, ix1, ix2, pst, eqD_pool0, hz, hn, b64_47]
      exact fin1 [] [] _ _ 0 _ _ _ (by decide) (by omega) (m3 _) (m4 _) (m1 _) (m2 _) (take_a _ _ _ _ _ _)
    | cons n r =>
      subst h0
      have hk2 : r.length ≤ 100 := by simp at hk; omega
      have hk : r.length + 1 ≤ lim := by unfold lim; omega
      by_cases hn0 : 0 ≤ n
      · by_cases h3 : 1000000000000000000 ≤ 2 * n
        · have hp : 0 < 2 * n := by omega
          simp [s__law_draw, fnS, eV, eC, Mm.e1, Mm.e2, eN, aN, aC, eCall, eTup, eLst, eIf, eCh, eAndT, eOrT, eNotT, bB, bAnd, bOr, bNot, bTru, tru, sSeq, sSet, sEx, sRet, sRetN, sNx, sNo, sBrk, sCt, sIf, sPar, sPar3, sAsg, tgN, tgNil, tgCons, tgTup, Mm.R.bind, Mm.R.of, Mm.R.st, oAdd, oSub, mul_i, oDiv, oMod, oPow, oCmpI, oLt, oLe, oGt, oGe, oIs, oIsN, oEq, oNe, eqF, b64_of, oIx, seqOf, lstOf, cellItems, sStore, eSl, eO, oLen, oInt, oListOf, oTupOf, oMax, oMin, oSum, oGcd, intsOf, oIsi, tyName, oNeg, eM1, eM0, isLst, oApp, oExt, oPopAt, oPop, fin_i, fin_b, fin_n, fin_s, fin_t2, at0, at1, at2, at3, at4, cut1, ix0, ix1, ix2, pst, eqD_pool1, hz, hn, b64_47, hn0, h3, hp, hk]
          exact fin1 (n :: r) r _ _ _ _ _ _ hk2 (m7 _ (by omega)) (m5 _) (m6 _) (m1 _) (m2 _) (take_a _ _ _ _ _ _)
        · simp [s__law_draw, fnS, eV, eC, Mm.e1, Mm.e2, eN, aN, aC, eCall, eTup, eLst, eIf, eCh, eAndT, eOrT, eNotT, bB, bAnd, bOr, bNot, bTru, tru, sSeq, sSet, sEx, sRet, sRetN, sNx, sNo, sBrk, sCt, sIf, sPar, sPar3, sAsg, tgN, tgNil, tgCons, tgTup, Mm.R.bind, Mm.R.of, Mm.R.st, oAdd, oSub, mul_i, oDiv, oMod, oPow, oCmpI, oLt, oLe, oGt, oGe, oIs, oIsN, oEq, oNe, eqF, b64_of, oIx, seqOf, lstOf, cellItems, sStore, eSl, eO, oLen, oInt, oListOf, oTupOf, oMax, oMin, oSum, oGcd, intsOf, oIsi, tyName, oNeg, eM1, eM0, isLst, oApp, oExt, oPopAt, oPop, fin_i, fin_b, fin_n, fin_s, fin_t2, at0, at1, at2, at3, at4, cut1, ix0, ix1, ix2, pst, eqD_pool1, hz, hn, b64_47, hn0, h3, hk]
          exact fin1 (n :: r) r _ _ 0 _ _ _ hk2 (by omega) (m3 _) (m4 _) (m1 _) (m2 _) (take_a _ _ _ _ _ _)
      · by_cases h3 : 1000000000000000000 ≤ -1 - 2 * n
        · have hp : 2 * n < -1 := by omega
          simp [s__law_draw, fnS, eV, eC, Mm.e1, Mm.e2, eN, aN, aC, eCall, eTup, eLst, eIf, eCh, eAndT, eOrT, eNotT, bB, bAnd, bOr, bNot, bTru, tru, sSeq, sSet, sEx, sRet, sRetN, sNx, sNo, sBrk, sCt, sIf, sPar, sPar3, sAsg, tgN, tgNil, tgCons, tgTup, Mm.R.bind, Mm.R.of, Mm.R.st, oAdd, oSub, mul_i, oDiv, oMod, oPow, oCmpI, oLt, oLe, oGt, oGe, oIs, oIsN, oEq, oNe, eqF, b64_of, oIx, seqOf, lstOf, cellItems, sStore, eSl, eO, oLen, oInt, oListOf, oTupOf, oMax, oMin, oSum, oGcd, intsOf, oIsi, tyName, oNeg, eM1, eM0, isLst, oApp, oExt, oPopAt, oPop, fin_i, fin_b, fin_n, fin_s, fin_t2, at0, at1, at2, at3, at4, cut1, ix0, ix1, ix2, pst, eqD_pool1, hz, hn, b64_47, hn0, h3, hp, hk]
          exact fin1 (n :: r) r _ _ _ _ _ _ hk2 (m7 _ (by omega)) (m5 _) (m6 _) (m1 _) (m2 _) (take_a _ _ _ _ _ _)
        · simp [s__law_draw, fnS, eV, eC, Mm.e1, Mm.e2, eN, aN, aC, eCall, eTup, eLst, eIf, eCh, eAndT, eOrT, eNotT, bB, bAnd, bOr, bNot, bTru, tru, sSeq, sSet, sEx, sRet, sRetN, sNx, sNo, sBrk, sCt, sIf, sPar, sPar3, sAsg, tgN, tgNil, tgCons, tgTup, Mm.R.bind, Mm.R.of, Mm.R.st, oAdd, oSub, mul_i, oDiv, oMod, oPow, oCmpI, oLt, oLe, oGt, oGe, oIs, oIsN, oEq, oNe, eqF, b64_of, oIx, seqOf, lstOf, cellItems, sStore, eSl, eO, oLen, oInt, oListOf, oTupOf, oMax, oMin, oSum, oGcd, intsOf, oIsi, tyName, oNeg, eM1, eM0, isLst, oApp, oExt, oPopAt, oPop, fin_i, fin_b, fin_n, fin_s, fin_t2, at0, at1, at2, at3, at4, cut1, ix0, ix1, ix2, pst, eqD_pool1, hz, hn, b64_47, hn0, h3, hk]
          exact fin1 (n :: r) r _ _ 0 _ _ _ hk2 (by omega) (m3 _) (m4 _) (m1 _) (m2 _) (take_a _ _ _ _ _ _)
  · have hp : 0 < a := by omega
    simp [s__law_draw, fnS, eV, eC, Mm.e1, Mm.e2, eN, aN, aC, eCall, eTup, eLst, eIf, eCh, eAndT, eOrT, eNotT, bB, bAnd, bOr, bNot, bTru, tru, sSeq, sSet, sEx, sRet, sRetN, sNx, sNo, sBrk, sCt, sIf, sPar, sPar3, sAsg, tgN, tgNil, tgCons, tgTup, Mm.R.bind, Mm.R.of, Mm.R.st, oAdd, oSub, mul_i, oDiv, oMod, oPow, oCmpI, oLt, oLe, oGt, oGe, oIs, oIsN, oEq, oNe, eqF, b64_of, oIx, seqOf, lstOf, cellItems, sStore, eSl, eO, oLen, oInt, oListOf, oTupOf, oMax, oMin, oSum, oGcd, intsOf, oIsi, tyName, oNeg, eM1, eM0, isLst, oApp, oExt, oPopAt, oPop, fin_i, fin_b, fin_n, fin_s, fin_t2, at0, at1, at2, at3, at4, cut1, ix0, ix1, ix2, pst, hz, hn, b64_47, hp, h0]
    exact fin1 ks ks _ _ _ _ _ _ hk (m7 _ (by omega)) hb hb2 (m1 _) (m2 _) (take_b _ _ _ _ _)

theorem is_number_int (i : Int) (st : Sto) : s_is_number [.int i] st = .ok (.bl true) st := by
  simp [s_is_number, fnS, eV, eC, Mm.e1, Mm.e2, eN, aN, aC, eCall, eTup, eLst, eIf, eCh, eAndT, eOrT, eNotT, bB, bAnd, bOr, bNot, bTru, tru, sSeq, sSet, sEx, sRet, sRetN, sNx, sNo, sBrk, sCt, sIf, sPar, sPar3, sAsg, tgN, tgNil, tgCons, tgTup, Mm.R.bind, Mm.R.of, Mm.R.st, oAdd, oSub, mul_i, oDiv, oMod, oPow, oCmpI, oLt, oLe, oGt, oGe, oIs, oIsN, oEq, oNe, eqF, b64_of, oIx, seqOf, lstOf, cellItems, sStore, eSl, eO, oLen, oInt, oListOf, oTupOf, oMax, oMin, oSum, oGcd, intsOf, oIsi, tyName, oNeg, eM1, eM0, isLst, oApp, oExt, oPopAt, oPop, fin_i, fin_b, fin_n, fin_s, fin_t2, at0, at1, at2, at3, at4, cut1, ix0, ix1, ix2, kit_int_int, kit_int_bool]
/-! any value that is no list: numbers, bounds, the first bad item -/
def isI : D → Bool
  | .int _ => true
  | _ => false
def isRf : D → Bool
  | .ref _ => true
  | _ => false
def inB (d : D) (a b : Int) : Bool := match d with
  | .int i => decide (a ≤ i) && decide (i ≤ b)
  | _ => false
theorem is_number_any (d : D) (h : isRf d = false) (st : Sto) : s_is_number [d] st = .ok (.bl (isI d)) st := by
  cases d with
  | ref i => cases h
  | non => simp [s_is_number, fnS, eV, eC, Mm.e1, Mm.e2, eN, aN, aC, eCall, eTup, eLst, eIf, eCh, eAndT, eOrT, eNotT, bB, bAnd, bOr, bNot, bTru, tru, sSeq, sSet, sEx, sRet, sRetN, sNx, sNo, sBrk, sCt, sIf, sPar, sPar3, sAsg, tgN, tgNil, tgCons, tgTup, Mm.R.bind, Mm.R.of, Mm.R.st, oAdd, oSub, mul_i, oDiv, oMod, oPow, oCmpI, oLt, oLe, oGt, oGe, oIs, oIsN, oEq, oNe, eqF, b64_of, oIx, seqOf, lstOf, cellItems, sStore, eSl, eO, oLen, oInt, oListOf, oTupOf, oMax, oMin, oSum, oGcd, intsOf, oIsi, tyName, oNeg, eM1, eM0, isLst, oApp, oExt, oPopAt, oPop, fin_i, fin_b, fin_n, fin_s, fin_t2, at0, at1, at2, at3, at4, cut1, ix0, ix1, ix2, kit_non_int, isI]
  | bl b => simp [s_is_number, fnS, eV, eC, Mm.e1, Mm.e2, eN, aN, aC, eCall, eTup, eLst, eIf, eCh, eAndT, eOrT, eNotT, bB, bAnd, bOr, bNot, bTru, tru, sSeq, sSet, sEx, sRet, sRetN, sNx, sNo, sBrk, sCt, sIf, sPar, sPar3, sAsg, tgN, tgNil, tgCons, tgTup, Mm.R.bind, Mm.R.of, Mm.R.st, oAdd, oSub, mul_i, oDiv, oMod, oPow, oCmpI, oLt, oLe, oGt, oGe, oIs, oIsN, oEq, oNe, eqF, b64_of, oIx, seqOf, lstOf, cellItems, sStore, eSl, eO, oLen, oInt, oListOf, oTupOf, oMax, oMin, oSum, oGcd, intsOf, oIsi, tyName, oNeg, eM1, eM0, isLst, oApp, oExt, oPopAt, oPop, fin_i, fin_b, fin_n, fin_s, fin_t2, at0, at1, at2, at3, at4, cut1, ix0, ix1, ix2, kit_bool_int, kit_bool_bool, isI]
  | int i => simp [s_is_number, fnS, eV, eC, Mm.e1, Mm.e2, eN, aN, aC, eCall, eTup, eLst, eIf, eCh, eAndT, eOrT, eNotT, bB, bAnd, bOr, bNot, bTru, tru, sSeq, sSet, sEx, sRet, sRetN, sNx, sNo, sBrk, sCt, sIf, sPar, sPar3, sAsg, tgN, tgNil, tgCons, tgTup, Mm.R.bind, Mm.R.of, Mm.R.st, oAdd, oSub, mul_i, oDiv, oMod, oPow, oCmpI, oLt, oLe, oGt, oGe, oIs, oIsN, oEq, oNe, eqF, b64_of, oIx, seqOf, lstOf, cellItems, sStore, eSl, eO, oLen, oInt, oListOf, oTupOf, oMax, oMin, oSum, oGcd, intsOf, oIsi, tyName, oNeg, eM1, eM0, isLst, oApp, oExt, oPopAt, oPop, fin_i, fin_b, fin_n, fin_s, fin_t2, at0, at1, at2, at3, at4, cut1, ix0, ix1, ix2, kit_int_int, kit_int_bool, isI]
  | str x => simp [s_is_number, fnS, eV, eC, Mm.e1, Mm.e2, eN, aN, aC, eCall, eTup, eLst, eIf, eCh, eAndT, eOrT, eNotT, bB, bAnd, bOr, bNot, bTru, tru, sSeq, sSet, sEx, sRet, sRetN, sNx, sNo, sBrk, sCt, sIf, sPar, sPar3, sAsg, tgN, tgNil, tgCons, tgTup, Mm.R.bind, Mm.R.of, Mm.R.st, oAdd, oSub, mul_i, oDiv, oMod, oPow, oCmpI, oLt, oLe, oGt, oGe, oIs, oIsN, oEq, oNe, eqF, b64_of, oIx, seqOf, lstOf, cellItems, sStore, eSl, eO, oLen, oInt, oListOf, oTupOf, oMax, oMin, oSum, oGcd, intsOf, oIsi, tyName, oNeg, eM1, eM0, isLst, oApp, oExt, oPopAt, oPop, fin_i, fin_b, fin_n, fin_s, fin_t2, at0, at1, at2, at3, at4, cut1, ix0, ix1, ix2, kit_str_int, isI]
  | tup xs => simp [s_is_number, fnS, eV, eC, Mm.e1, Mm.e2, eN, aN, aC, eCall, eTup, eLst, eIf, eCh, eAndT, eOrT, eNotT, bB, bAnd, bOr, bNot, bTru, tru, sSeq, sSet, sEx, sRet, sRetN, sNx, sNo, sBrk, sCt, sIf, sPar, sPar3, sAsg, tgN, tgNil, tgCons, tgTup, Mm.R.bind, Mm.R.of, Mm.R.st, oAdd, oSub, mul_i, oDiv, oMod, oPow, oCmpI, oLt, oLe, oGt, oGe, oIs, oIsN, oEq, oNe, eqF, b64_of, oIx, seqOf, lstOf, cellItems, sStore, eSl, eO, oLen, oInt, oListOf, oTupOf, oMax, oMin, oSum, oGcd, intsOf, oIsi, tyName, oNeg, eM1, eM0, isLst, oApp, oExt, oPopAt, oPop, fin_i, fin_b, fin_n, fin_s, fin_t2, at0, at1, at2, at3, at4, cut1, ix0, ix1, ix2, kit_tup_int, isI]
theorem is_within_any (d : D) (a b : Int) (h : isRf d = false) (st : Sto) : s_is_within [d, .int a, .int b] st = .ok (.bl (inB d a b)) st := by
  have hn := is_number_any d h st
  cases d with
  | ref i => cases h
  | int i => by_cases h : a ≤ i <;> simp [s_is_within, hn, fnS, eV, eC, Mm.e1, Mm.e2, eN, aN, aC, eCall, eTup, eLst, eIf, eCh, eAndT, eOrT, eNotT, bB, bAnd, bOr, bNot, bTru, tru, sSeq, sSet, sEx, sRet, sRetN, sNx, sNo, sBrk, sCt, sIf, sPar, sPar3, sAsg, tgN, tgNil, tgCons, tgTup, Mm.R.bind, Mm.R.of, Mm.R.st, oAdd, oSub, mul_i, oDiv, oMod, oPow, oCmpI, oLt, oLe, oGt, oGe, oIs, oIsN, oEq, oNe, eqF, b64_of, oIx, seqOf, lstOf, cellItems, sStore, eSl, eO, oLen, oInt, oListOf, oTupOf, oMax, oMin, oSum, oGcd, intsOf, oIsi, tyName, oNeg, eM1, eM0, isLst, oApp, oExt, oPopAt, oPop, fin_i, fin_b, fin_n, fin_s, fin_t2, at0, at1, at2, at3, at4, cut1, ix0, ix1, ix2, isI, inB, h]
  | non => simp [s_is_within, hn, fnS, eV, eC, Mm.e1, Mm.e2, eN, aN, aC, eCall, eTup, eLst, eIf, eCh, eAndT, eOrT, eNotT, bB, bAnd, bOr, bNot, bTru, tru, sSeq, sSet, sEx, sRet, sRetN, sNx, sNo, sBrk, sCt, sIf, sPar, sPar3, sAsg, tgN, tgNil, tgCons, tgTup, Mm.R.bind, Mm.R.of, Mm.R.st, oAdd, oSub, mul_i, oDiv, oMod, oPow, oCmpI, oLt, oLe, oGt, oGe, oIs, oIsN, oEq, oNe, eqF, b64_of, oIx, seqOf, lstOf, cellItems, sStore, eSl, eO, oLen, oInt, oListOf, oTupOf, oMax, oMin, oSum, oGcd, intsOf, oIsi, tyName, oNeg, eM1, eM0, isLst, oApp, oExt, oPopAt, oPop, fin_i, fin_b, fin_n, fin_s, fin_t2, at0, at1, at2, at3, at4, cut1, ix0, ix1, ix2, isI, inB]
  | bl b => simp [s_is_within, hn, fnS, eV, eC, Mm.e1, Mm.e2, eN, aN, aC, eCall, eTup, eLst, eIf, eCh, eAndT, eOrT, eNotT, bB, bAnd, bOr, bNot, bTru, tru, sSeq, sSet, sEx, sRet, sRetN, sNx, sNo, sBrk, sCt, sIf, sPar, sPar3, sAsg, tgN, tgNil, tgCons, tgTup, Mm.R.bind, Mm.R.of, Mm.R.st, oAdd, oSub, mul_i, oDiv, oMod, oPow, oCmpI, oLt, oLe, oGt, oGe, oIs, oIsN, oEq, oNe, eqF, b64_of, oIx, seqOf, lstOf, cellItems, sStore, eSl, eO, oLen, oInt, oListOf, oTupOf, oMax, oMin, oSum, oGcd, intsOf, oIsi, tyName, oNeg, eM1, eM0, isLst, oApp, oExt, oPopAt, oPop, fin_i, fin_b, fin_n, fin_s, fin_t2, at0, at1, at2, at3, at4, cut1, ix0, ix1, ix2, isI, inB]
  | str x => simp [s_is_within, hn, fnS, eV, eC, Mm.e1, Mm.e2, eN, aN, aC, eCall, eTup, eLst, eIf, eCh, eAndT, eOrT, eNotT, bB, bAnd, bOr, bNot, bTru, tru, sSeq, sSet, sEx, sRet, sRetN, sNx, sNo, sBrk, sCt, sIf, sPar, sPar3, sAsg, tgN, tgNil, tgCons, tgTup, Mm.R.bind, Mm.R.of, Mm.R.st, oAdd, oSub, mul_i, oDiv, oMod, oPow, oCmpI, oLt, oLe, oGt, oGe, oIs, oIsN, oEq, oNe, eqF, b64_of, oIx, seqOf, lstOf, cellItems, sStore, eSl, eO, oLen, oInt, oListOf, oTupOf, oMax, oMin, oSum, oGcd, intsOf, oIsi, tyName, oNeg, eM1, eM0, isLst, oApp, oExt, oPopAt, oPop, fin_i, fin_b, fin_n, fin_s, fin_t2, at0, at1, at2, at3, at4, cut1, ix0, ix1, ix2, isI, inB]
  | tup xs => simp [s_is_within, hn, fnS, eV, eC, Mm.e1, Mm.e2, eN, aN, aC, eCall, eTup, eLst, eIf, eCh, eAndT, eOrT, eNotT, bB, bAnd, bOr, bNot, bTru, tru, sSeq, sSet, sEx, sRet, sRetN, sNx, sNo, sBrk, sCt, sIf, sPar, sPar3, sAsg, tgN, tgNil, tgCons, tgTup, Mm.R.bind, Mm.R.of, Mm.R.st, oAdd, oSub, mul_i, oDiv, oMod, oPow, oCmpI, oLt, oLe, oGt, oGe, oIs, oIsN, oEq, oNe, eqF, b64_of, oIx, seqOf, lstOf, cellItems, sStore, eSl, eO, oLen, oInt, oListOf, oTupOf, oMax, oMin, oSum, oGcd, intsOf, oIsi, tyName, oNeg, eM1, eM0, isLst, oApp, oExt, oPopAt, oPop, fin_i, fin_b, fin_n, fin_s, fin_t2, at0, at1, at2, at3, at4, cut1, ix0, ix1, ix2, isI, inB]
/-- the first item that is no number within the bounds -/
def badAt (lo hi : Int) : List D → Nat → Option Nat
  | [], _ => none
  | d :: r, i => if inB d lo hi = true then badAt lo hi r (i + 1) else some i
def optD : Option Nat → D
  | none => .non
  | some i => .int (i : Nat)
theorem wrong_any (xs : List D) (a b lo hi : Int) (st : Sto) (h1 : a ≤ xs.length) (h2 : xs.length ≤ b) (h : ∀ x ∈ xs, isRf x = false) : s_wrong_at [.tup xs, .int a, .int b, .int lo, .int hi] st = .ok (optD (badAt lo hi xs 0)) st := by
  have key : ∀ (ns : List D) (i : Nat) (e : Mm.Env), (∀ x ∈ ns, isRf x = false) → e.length = 7 → e[3]? = some (some (.int lo)) → e[4]? = some (some (.int hi)) →
      (match badAt lo hi ns i with
        | none => ∃ e', forL (fun _ => true) (tgTup (tgCons (tgN 5) (tgCons (tgN 6) tgNil))) L1_wrong_at (enumD i ns) e st = .nx e' st
        | some j => forL (fun _ => true) (tgTup (tgCons (tgN 5) (tgCons (tgN 6) tgNil))) L1_wrong_at (enumD i ns) e st = .ret (.int (j : Nat)) st) := by
    intro ns
    induction ns with
    | nil => intro i e _ _ _ _; exact ⟨e, by simp [forL, enumD]⟩
    | cons x r ih =>
      intro i e hx he h3 h4
      have h5 := is_within_any x lo hi (hx x (by simp)) st
      have h6 : 6 < e.length := by omega
      have h7 : 5 < e.length := by omega
      by_cases hb : inB x lo hi = true
      · have e1 : badAt lo hi (x :: r) i = badAt lo hi r (i + 1) := by simp [badAt, hb]
        rw [e1]
        have := ih (i + 1) ((e.set 5 (some (.int (i : Nat)))).set 6 (some x)) (fun y hy => hx y (by simp [hy])) (by simp [he]) (by simp [h3]) (by simp [h4])
        simp [forL, enumD, L1_wrong_at, fnS, eV, eC, Mm.e1, Mm.e2, eN, aN, aC, eCall, eTup, eLst, eIf, eCh, eAndT, eOrT, eNotT, bB, bAnd, bOr, bNot, bTru, tru, sSeq, sSet, sEx, sRet, sRetN, sNx, sNo, sBrk, sCt, sIf, sPar, sPar3, sAsg, tgN, tgNil, tgCons, tgTup, Mm.R.bind, Mm.R.of, Mm.R.st, oAdd, oSub, mul_i, oDiv, oMod, oPow, oCmpI, oLt, oLe, oGt, oGe, oIs, oIsN, oEq, oNe, eqF, b64_of, oIx, seqOf, lstOf, cellItems, sStore, eSl, eO, oLen, oInt, oListOf, oTupOf, oMax, oMin, oSum, oGcd, intsOf, oIsi, tyName, oNeg, eM1, eM0, isLst, oApp, oExt, oPopAt, oPop, fin_i, fin_b, fin_n, fin_s, fin_t2, at0, at1, at2, at3, at4, cut1, ix0, ix1, ix2, h3, h4, h5, h6, h7, hb]
        exact this
      · have hb' : inB x lo hi = false := by simpa using hb
        have e1 : badAt lo hi (x :: r) i = some i := by simp [badAt, hb']
        rw [e1]
        simp [forL, enumD, L1_wrong_at, fnS, eV, eC, Mm.e1, Mm.e2, eN, aN, aC, eCall, eTup, eLst, eIf, eCh, eAndT, eOrT, eNotT, bB, bAnd, bOr, bNot, bTru, tru, sSeq, sSet, sEx, sRet, sRetN, sNx, sNo, sBrk, sCt, sIf, sPar, sPar3, sAsg, tgN, tgNil, tgCons, tgTup, Mm.R.bind, Mm.R.of, Mm.R.st, oAdd, oSub, mul_i, oDiv, oMod, oPow, oCmpI, oLt, oLe, oGt, oGe, oIs, oIsN, oEq, oNe, eqF, b64_of, oIx, seqOf, lstOf, cellItems, sStore, eSl, eO, oLen, oInt, oListOf, oTupOf, oMax, oMin, oSum, oGcd, intsOf, oIsi, tyName, oNeg, eM1, eM0, isLst, oApp, oExt, oPopAt, oPop, fin_i, fin_b, fin_n, fin_s, fin_t2, at0, at1, at2, at3, at4, cut1, ix0, ix1, ix2, h3, h4, h5, h6, h7, hb']
  have hk := key xs 0 [some (.tup xs), some (.int a), some (.int b), some (.int lo), some (.int hi), none, none] h rfl rfl rfl
  cases hw : badAt lo hi xs 0 with
  | none =>
    rw [hw] at hk
    obtain ⟨e', he'⟩ := hk
    simp [s_wrong_at, fnS, eV, eC, Mm.e1, Mm.e2, eN, aN, aC, eCall, eTup, eLst, eIf, eCh, eAndT, eOrT, eNotT, bB, bAnd, bOr, bNot, bTru, tru, sSeq, sSet, sEx, sRet, sRetN, sNx, sNo, sBrk, sCt, sIf, sPar, sPar3, sAsg, tgN, tgNil, tgCons, tgTup, Mm.R.bind, Mm.R.of, Mm.R.st, oAdd, oSub, mul_i, oDiv, oMod, oPow, oCmpI, oLt, oLe, oGt, oGe, oIs, oIsN, oEq, oNe, eqF, b64_of, oIx, seqOf, lstOf, cellItems, sStore, eSl, eO, oLen, oInt, oListOf, oTupOf, oMax, oMin, oSum, oGcd, intsOf, oIsi, tyName, oNeg, eM1, eM0, isLst, oApp, oExt, oPopAt, oPop, fin_i, fin_b, fin_n, fin_s, fin_t2, at0, at1, at2, at3, at4, cut1, ix0, ix1, ix2, sFor, iEn, kit_tup_tup, h1, h2, he', optD]
  | some j =>
    rw [hw] at hk
    simp only at hk
    simp [s_wrong_at, fnS, eV, eC, Mm.e1, Mm.e2, eN, aN, aC, eCall, eTup, eLst, eIf, eCh, eAndT, eOrT, eNotT, bB, bAnd, bOr, bNot, bTru, tru, sSeq, sSet, sEx, sRet, sRetN, sNx, sNo, sBrk, sCt, sIf, sPar, sPar3, sAsg, tgN, tgNil, tgCons, tgTup, Mm.R.bind, Mm.R.of, Mm.R.st, oAdd, oSub, mul_i, oDiv, oMod, oPow, oCmpI, oLt, oLe, oGt, oGe, oIs, oIsN, oEq, oNe, eqF, b64_of, oIx, seqOf, lstOf, cellItems, sStore, eSl, eO, oLen, oInt, oListOf, oTupOf, oMax, oMin, oSum, oGcd, intsOf, oIsi, tyName, oNeg, eM1, eM0, isLst, oApp, oExt, oPopAt, oPop, fin_i, fin_b, fin_n, fin_s, fin_t2, at0, at1, at2, at3, at4, cut1, ix0, ix1, ix2, sFor, iEn, kit_tup_tup, h1, h2, hk, optD]
theorem wrong_len (xs : List D) (a b lo hi : Int) (st : Sto) (h : ¬ (a ≤ xs.length ∧ xs.length ≤ b)) : s_wrong_at [.tup xs, .int a, .int b, .int lo, .int hi] st = .ok (.int (-1)) st := by
  by_cases h1 : a ≤ (xs.length : Int)
  · have h2 : ¬ (xs.length : Int) ≤ b := fun q => h ⟨h1, q⟩
    simp [s_wrong_at, fnS, eV, eC, Mm.e1, Mm.e2, eN, aN, aC, eCall, eTup, eLst, eIf, eCh, eAndT, eOrT, eNotT, bB, bAnd, bOr, bNot, bTru, tru, sSeq, sSet, sEx, sRet, sRetN, sNx, sNo, sBrk, sCt, sIf, sPar, sPar3, sAsg, tgN, tgNil, tgCons, tgTup, Mm.R.bind, Mm.R.of, Mm.R.st, oAdd, oSub, mul_i, oDiv, oMod, oPow, oCmpI, oLt, oLe, oGt, oGe, oIs, oIsN, oEq, oNe, eqF, b64_of, oIx, seqOf, lstOf, cellItems, sStore, eSl, eO, oLen, oInt, oListOf, oTupOf, oMax, oMin, oSum, oGcd, intsOf, oIsi, tyName, oNeg, eM1, eM0, isLst, oApp, oExt, oPopAt, oPop, fin_i, fin_b, fin_n, fin_s, fin_t2, at0, at1, at2, at3, at4, cut1, ix0, ix1, ix2, kit_tup_tup, h1, h2]
  · simp [s_wrong_at, fnS, eV, eC, Mm.e1, Mm.e2, eN, aN, aC, eCall, eTup, eLst, eIf, eCh, eAndT, eOrT, eNotT, bB, bAnd, bOr, bNot, bTru, tru, sSeq, sSet, sEx, sRet, sRetN, sNx, sNo, sBrk, sCt, sIf, sPar, sPar3, sAsg, tgN, tgNil, tgCons, tgTup, Mm.R.bind, Mm.R.of, Mm.R.st, oAdd, oSub, mul_i, oDiv, oMod, oPow, oCmpI, oLt, oLe, oGt, oGe, oIs, oIsN, oEq, oNe, eqF, b64_of, oIx, seqOf, lstOf, cellItems, sStore, eSl, eO, oLen, oInt, oListOf, oTupOf, oMax, oMin, oSum, oGcd, intsOf, oIsi, tyName, oNeg, eM1, eM0, isLst, oApp, oExt, oPopAt, oPop, fin_i, fin_b, fin_n, fin_s, fin_t2, at0, at1, at2, at3, at4, cut1, ix0, ix1, ix2, kit_tup_tup, h1]

theorem made_k_any (d : D) (h : isRf d = false) (st : Sto) : s_made_k [d] st = if inB d 1 60 = true then .ok d st else .ex ⟨"BadK", .int 0⟩ st := by
  have hw := is_within_any d 1 60 h st
  by_cases hb : inB d 1 60 = true
  · rw [if_pos hb]
    have hf : fin st d st = .ok d st := by
      refine fin_same ?_
      cases d with
      | int i => rfl
      | ref i => cases h
      | non => cases hb
      | bl b => cases hb
      | str x => cases hb
      | tup xs => cases hb
    simp [s_made_k, hw, hb, fnS, eV, eC, Mm.e1, Mm.e2, eN, aN, aC, eCall, eTup, eLst, eIf, eCh, eAndT, eOrT, eNotT, bB, bAnd, bOr, bNot, bTru, tru, sSeq, sSet, sEx, sRet, sRetN, sNx, sNo, sBrk, sCt, sIf, sPar, sPar3, sAsg, tgN, tgNil, tgCons, tgTup, Mm.R.bind, Mm.R.of, Mm.R.st, oAdd, oSub, mul_i, oDiv, oMod, oPow, oCmpI, oLt, oLe, oGt, oGe, oIs, oIsN, oEq, oNe, eqF, b64_of, oIx, seqOf, lstOf, cellItems, sStore, eSl, eO, oLen, oInt, oListOf, oTupOf, oMax, oMin, oSum, oGcd, intsOf, oIsi, tyName, oNeg, eM1, eM0, isLst, oApp, oExt, oPopAt, oPop, fin_i, fin_b, fin_n, fin_s, fin_t2, at0, at1, at2, at3, at4, cut1, ix0, ix1, ix2, hf]
  · rw [if_neg hb]
    have hb' : inB d 1 60 = false := by simpa using hb
    simp [s_made_k, hw, hb', fnS, eV, eC, Mm.e1, Mm.e2, eN, aN, aC, eCall, eTup, eLst, eIf, eCh, eAndT, eOrT, eNotT, bB, bAnd, bOr, bNot, bTru, tru, sSeq, sSet, sEx, sRet, sRetN, sNx, sNo, sBrk, sCt, sIf, sPar, sPar3, sAsg, tgN, tgNil, tgCons, tgTup, Mm.R.bind, Mm.R.of, Mm.R.st, oAdd, oSub, mul_i, oDiv, oMod, oPow, oCmpI, oLt, oLe, oGt, oGe, oIs, oIsN, oEq, oNe, eqF, b64_of, oIx, seqOf, lstOf, cellItems, sStore, eSl, eO, oLen, oInt, oListOf, oTupOf, oMax, oMin, oSum, oGcd, intsOf, oIsi, tyName, oNeg, eM1, eM0, isLst, oApp, oExt, oPopAt, oPop, fin_i, fin_b, fin_n, fin_s, fin_t2, at0, at1, at2, at3, at4, cut1, ix0, ix1, ix2, sRaise]
theorem made_k_int (k : Int) (st : Sto) (h : 1 ≤ k) (h2 : k ≤ 60) : s_made_k [.int k] st = .ok (.int k) st := by
  have h3 := made_k_any (.int k) rfl st
  simpa only [inB, h, h2, decide_true, Bool.and_self, if_true] using h3

theorem intsOf_mapT : ∀ ns : List Int, intsOf (ns.map D.int) = some ns
  | [] => rfl
  | n :: r => by simp [intsOf, intsOf_mapT r]
theorem badAt_ints (lo hi : Int) : ∀ (ns : List Int) (i : Nat), (∀ x ∈ ns, lo ≤ x ∧ x ≤ hi) → badAt lo hi (ns.map D.int) i = none
  | [], _, _ => rfl
  | n :: r, i, h => by
    have h1 := h n (by simp)
    simp [badAt, inB, h1, badAt_ints lo hi r (i + 1) (fun x hx => h x (by simp [hx]))]
theorem noRf_ints (ns : List Int) : ∀ x ∈ ns.map D.int, isRf x = false := by
  intro x hx
  obtain ⟨n, _, rfl⟩ := List.mem_map.mp hx
  rfl

theorem made_row_ok (ns : List Int) (st : Sto) (h2 : ns.length ≤ 24) (h : ∀ x ∈ ns, 1 ≤ x ∧ x ≤ 99) : s_made_row [.tup (ns.map .int)] st = .ok (.tup (ns.map .int)) st := by
  have hw := wrong_any (ns.map .int) 0 24 1 99 st (by simp) (by simp; omega) (noRf_ints ns)
  rw [badAt_ints 1 99 ns 0 h] at hw
  simp [s_made_row, hw, fnS, eV, eC, Mm.e1, Mm.e2, eN, aN, aC, eCall, eTup, eLst, eIf, eCh, eAndT, eOrT, eNotT, bB, bAnd, bOr, bNot, bTru, tru, sSeq, sSet, sEx, sRet, sRetN, sNx, sNo, sBrk, sCt, sIf, sPar, sPar3, sAsg, tgN, tgNil, tgCons, tgTup, Mm.R.bind, Mm.R.of, Mm.R.st, oAdd, oSub, mul_i, oDiv, oMod, oPow, oCmpI, oLt, oLe, oGt, oGe, oIs, oIsN, oEq, oNe, eqF, b64_of, oIx, seqOf, lstOf, cellItems, sStore, eSl, eO, oLen, oInt, oListOf, oTupOf, oMax, oMin, oSum, oGcd, intsOf, oIsi, tyName, oNeg, eM1, eM0, isLst, oApp, oExt, oPopAt, oPop, fin_i, fin_b, fin_n, fin_s, fin_t2, at0, at1, at2, at3, at4, cut1, ix0, ix1, ix2, optD, fin_f, flatD, flat_ints]

theorem ups_range : ∀ (j a : Nat), intsUp (a : Nat) j = (List.range' a j).map fun (i : Nat) => D.int i
  | 0, _ => rfl
  | j + 1, a => by rw [up_succ, ups_range j (a + 1), List.range'_succ]; rfl
theorem ups_zero (j : Nat) : intsUp 0 j = (List.range j).map fun (i : Nat) => D.int i := by
  have := ups_range j 0
  rw [← List.range_eq_range'] at this
  exact this
theorem cut_to (ns : List Int) (a : Nat) : cutD (ns.map D.int) none (some (a : Nat)) = (ns.take a).map .int := by
  simp only [cutD, HT.sIx_none, HT.sIx_nat, List.length_map, List.drop_zero, Nat.sub_zero, List.map_take]
  rw [← List.length_map (f := D.int), ← List.take_eq_take_min]
theorem cut_from (ns : List Int) (a : Nat) : cutD (ns.map D.int) (some (a : Nat)) none = (ns.drop a).map .int := by
  simp only [cutD, HT.sIx_none, HT.sIx_nat, List.length_map, List.map_drop]
  rw [List.take_of_length_le (by simp)]
  by_cases h : a ≤ ns.length
  · rw [Nat.min_eq_left h]
  · rw [Nat.min_eq_right (by omega), List.drop_eq_nil_of_le (by simp), List.drop_eq_nil_of_le (by simp; omega)]
theorem at_getD (ns : List Int) (i : Nat) (h : i < ns.length) : L2.atI (ns.map D.int) (i : Int) = some (.int (ns.getD i 0)) := by
  rw [atN _ _ (by simpa using h)]
  simp [List.getD, h]

/-- a drawn row -/
theorem drawn_loop (gaps top way : Int) (ht : 1 ≤ top) (ht2 : top ≤ 99) (rest : Sto) (hr : lowS (4 + rest.length) rest = true) (x6 : Option D) : ∀ (j a : Nat) (ns : List Int) (x5 : Option D) (s : Sto), ns.length + j ≤ 24 → (∀ x ∈ ns, 1 ≤ x ∧ x ≤ 99) → Pst (rest ++ [.lst (ns.map .int)]) s →
    ∃ (ms : List Int) (y : Option D) (s2 : Sto), forL (fun _ => true) (tgN 5) L1__law_row_drawn (intsUp (a : Nat) j) [some (.ref 3), some (.int gaps), some (.int top), some (.int way), some (.ref (4 + rest.length)), x5, x6] s = .nx [some (.ref 3), some (.int gaps), some (.int top), some (.int way), some (.ref (4 + rest.length)), y, x6] s2
      ∧ ms.length = ns.length + j ∧ (∀ x ∈ ms, 1 ≤ x ∧ x ≤ 99) ∧ Pst (rest ++ [.lst (ms.map .int)]) s2
  | 0, a, ns, x5, s, h1, h2, h3 => ⟨ns, x5, s, for_nil rfl, by simp, h2, h3⟩
  | j + 1, a, ns, x5, s, h1, h2, h3 => by
    obtain ⟨many, hm⟩ : ∃ many : Int, many = if way = 1 ∧ (a : Int) = 0 then 99 else top := ⟨_, rfl⟩
    have hmb : 1 ≤ many ∧ many ≤ 99 := by rw [hm]; split <;> omega
    have hlow : lowS (4 + (rest ++ [Cell.lst (ns.map D.int)]).length) (rest ++ [Cell.lst (ns.map D.int)]) = true := by
      have := lowS_push hr (flat_ints ns)
      simpa [Nat.add_assoc] using this
    have hg0 := pst_last h3
    obtain ⟨r, s1, p1, p2, p3, p4⟩ := draw_ok (many := many) h3 hlow hmb.1 (by omega)
    have hg := pst_last p4
    have hl : ns.length < lim := by unfold lim; omega
    obtain ⟨ms, y, s2, k1, k2, k3, k4⟩ := drawn_loop gaps top way ht ht2 rest hr x6 j (a + 1) (ns ++ [1 + r]) (some (.int (a : Nat))) (s1.set (4 + rest.length) (.lst ((ns ++ [1 + r]).map .int))) (by simp; omega)
      (fun x hx => by
        rcases List.mem_append.mp hx with hx | hx
        · exact h2 x hx
        · have := List.mem_singleton.mp hx; omega) (pst_set p4)
    refine ⟨ms, y, s2, ?_, by rw [k2]; simp; omega, k3, k4⟩
    rw [up_succ]
    refine for_nx (e1 := [some (.ref 3), some (.int gaps), some (.int top), some (.int way), some (.ref (4 + rest.length)), some (.int (a : Nat)), x6]) rfl rfl ?_ k1
    rw [L1__law_row_drawn_ap]
    by_cases hw : way = 1
    · by_cases ha : (a : Int) = 0
      · rw [if_pos ⟨hw, ha⟩] at hm
        subst hm
        simp [fnS, eV, eC, Mm.e1, Mm.e2, eN, aN, aC, eCall, eTup, eLst, eIf, eCh, eAndT, eOrT, eNotT, bB, bAnd, bOr, bNot, bTru, tru, sSeq, sSet, sEx, sRet, sRetN, sNx, sNo, sBrk, sCt, sIf, sPar, sPar3, sAsg, tgN, tgNil, tgCons, tgTup, Mm.R.bind, Mm.R.of, Mm.R.st, oAdd, oSub, mul_i, oDiv, oMod, oPow, oCmpI, oLt, oLe, oGt, oGe, oIs, oIsN, oEq, oNe, eqF, b64_of, oIx, seqOf, lstOf, cellItems, sStore, eSl, eO, oLen, oInt, oListOf, oTupOf, oMax, oMin, oSum, oGcd, intsOf, oIsi, tyName, oNeg, eM1, eM0, isLst, oApp, oExt, oPopAt, oPop, fin_i, fin_b, fin_n, fin_s, fin_t2, at0, at1, at2, at3, at4, cut1, ix0, ix1, ix2, hw, ha, p1, hg0, hg, hl]
      · rw [if_neg (by omega)] at hm
        subst hm
        have ha2 : ¬ a = 0 := by omega
        simp [fnS, eV, eC, Mm.e1, Mm.e2, eN, aN, aC, eCall, eTup, eLst, eIf, eCh, eAndT, eOrT, eNotT, bB, bAnd, bOr, bNot, bTru, tru, sSeq, sSet, sEx, sRet, sRetN, sNx, sNo, sBrk, sCt, sIf, sPar, sPar3, sAsg, tgN, tgNil, tgCons, tgTup, Mm.R.bind, Mm.R.of, Mm.R.st, oAdd, oSub, mul_i, oDiv, oMod, oPow, oCmpI, oLt, oLe, oGt, oGe, oIs, oIsN, oEq, oNe, eqF, b64_of, oIx, seqOf, lstOf, cellItems, sStore, eSl, eO, oLen, oInt, oListOf, oTupOf, oMax, oMin, oSum, oGcd, intsOf, oIsi, tyName, oNeg, eM1, eM0, isLst, oApp, oExt, oPopAt, oPop, fin_i, fin_b, fin_n, fin_s, fin_t2, at0, at1, at2, at3, at4, cut1, ix0, ix1, ix2, hw, ha2, p1, hg0, hg, hl]
    · rw [if_neg (by omega)] at hm
      subst hm
      simp [fnS, eV, eC, Mm.e1, Mm.e2, eN, aN, aC, eCall, eTup, eLst, eIf, eCh, eAndT, eOrT, eNotT, bB, bAnd, bOr, bNot, bTru, tru, sSeq, sSet, sEx, sRet, sRetN, sNx, sNo, sBrk, sCt, sIf, sPar, sPar3, sAsg, tgN, tgNil, tgCons, tgTup, Mm.R.bind, Mm.R.of, Mm.R.st, oAdd, oSub, mul_i, oDiv, oMod, oPow, oCmpI, oLt, oLe, oGt, oGe, oIs, oIsN, oEq, oNe, eqF, b64_of, oIx, seqOf, lstOf, cellItems, sStore, eSl, eO, oLen, oInt, oListOf, oTupOf, oMax, oMin, oSum, oGcd, intsOf, oIsi, tyName, oNeg, eM1, eM0, isLst, oApp, oExt, oPopAt, oPop, fin_i, fin_b, fin_n, fin_s, fin_t2, at0, at1, at2, at3, at4, cut1, ix0, ix1, ix2, hw, p1, hg0, hg, hl]
theorem drawn_ok {rest st : Sto} (hp : Pst rest st) (hr : lowS (4 + rest.length) rest = true) (gaps top : Int) (hg : 1 ≤ gaps) (hg2 : gaps ≤ 24) (ht : 1 ≤ top) (ht2 : top ≤ 99) :
    ∃ (ns : List Int) (st2 : Sto), s__law_row_drawn [.ref 3, .int gaps, .int top] st = .ok (.tup (ns.map .int)) st2 ∧ (ns.length : Int) ≤ 2 * gaps ∧ ns.length ≤ 24 ∧ (∀ x ∈ ns, 1 ≤ x ∧ x ≤ 99) ∧ Pst rest st2 := by
  obtain ⟨way, s1, p1, _, _, p4⟩ := draw_ok (many := 12) hp hr (by decide) (by decide)
  have hl1 := pst_len p4
  have q1 := pst_push p4 [Cell.lst ([] : List D)]
  have hlow : lowS (4 + (rest ++ [Cell.lst ([] : List D)]).length) (rest ++ [Cell.lst ([] : List D)]) = true := by
    have := lowS_push (xs := []) hr rfl
    simpa [Nat.add_assoc] using this
  have first : sPar 3 4 (eCall s__law_draw (aC (eV 0) (aC (eC (.int 12)) aN))) (eLst aN) [some (.ref 3), some (.int gaps), some (.int top), none, none, none, none] st = .nx [some (.ref 3), some (.int gaps), some (.int top), some (.int way), some (.ref (4 + rest.length)), none, none] (s1 ++ [Cell.lst []]) := by
    simp [fnS, eV, eC, Mm.e1, Mm.e2, eN, aN, aC, eCall, eTup, eLst, eIf, eCh, eAndT, eOrT, eNotT, bB, bAnd, bOr, bNot, bTru, tru, sSeq, sSet, sEx, sRet, sRetN, sNx, sNo, sBrk, sCt, sIf, sPar, sPar3, sAsg, tgN, tgNil, tgCons, tgTup, Mm.R.bind, Mm.R.of, Mm.R.st, oAdd, oSub, mul_i, oDiv, oMod, oPow, oCmpI, oLt, oLe, oGt, oGe, oIs, oIsN, oEq, oNe, eqF, b64_of, oIx, seqOf, lstOf, cellItems, sStore, eSl, eO, oLen, oInt, oListOf, oTupOf, oMax, oMin, oSum, oGcd, intsOf, oIsi, tyName, oNeg, eM1, eM0, isLst, oApp, oExt, oPopAt, oPop, fin_i, fin_b, fin_n, fin_s, fin_t2, at0, at1, at2, at3, at4, cut1, ix0, ix1, ix2, p1, hl1]
  by_cases hw : way = 0
  · obtain ⟨st2, f1, f2⟩ := fin_pst (d := .tup []) hp hr q1 rfl
    refine ⟨[], st2, ?_, by simp; omega, by decide, by simp, f2⟩
    unfold s__law_row_drawn
    refine fn_ret (d := .tup []) ?_ f1
    refine seq_nx first ?_
    simp [fnS, eV, eC, Mm.e1, Mm.e2, eN, aN, aC, eCall, eTup, eLst, eIf, eCh, eAndT, eOrT, eNotT, bB, bAnd, bOr, bNot, bTru, tru, sSeq, sSet, sEx, sRet, sRetN, sNx, sNo, sBrk, sCt, sIf, sPar, sPar3, sAsg, tgN, tgNil, tgCons, tgTup, Mm.R.bind, Mm.R.of, Mm.R.st, oAdd, oSub, mul_i, oDiv, oMod, oPow, oCmpI, oLt, oLe, oGt, oGe, oIs, oIsN, oEq, oNe, eqF, b64_of, oIx, seqOf, lstOf, cellItems, sStore, eSl, eO, oLen, oInt, oListOf, oTupOf, oMax, oMin, oSum, oGcd, intsOf, oIsi, tyName, oNeg, eM1, eM0, isLst, oApp, oExt, oPopAt, oPop, fin_i, fin_b, fin_n, fin_s, fin_t2, at0, at1, at2, at3, at4, cut1, ix0, ix1, ix2, hw]
  · obtain ⟨r, s2, p5, p6, p7, p8⟩ := draw_ok (many := gaps) q1 hlow hg (by omega)
    obtain ⟨n, hn⟩ : ∃ n : Nat, (n : Int) = 1 + r := ⟨(1 + r).toNat, by omega⟩
    obtain ⟨ms, y, s3, k1, k2, k3, k4⟩ := drawn_loop gaps top way ht ht2 rest hr none n 0 [] none s2 (by simp; omega) (by simp) p8
    have hg3 := pst_last k4
    have hb : bigR (n : Int) = true := decide_eq_true (by omega)
    have l3 : ms.length + ms.length ≤ lim := by unfold lim; simp at k2; omega
    simp only [List.length_nil, Nat.zero_add] at k2
    have third : sFor (iR1 (aC (e2 oAdd (eC (.int 1)) (eCall s__law_draw (aC (eV 0) (aC (eV 1) aN)))) aN)) (tgN 5) L1__law_row_drawn [some (.ref 3), some (.int gaps), some (.int top), some (.int way), some (.ref (4 + rest.length)), none, none] (s1 ++ [Cell.lst []]) = .nx [some (.ref 3), some (.int gaps), some (.int top), some (.int way), some (.ref (4 + rest.length)), y, none] s3 := by
      unfold sFor
      have e : iR1 (aC (e2 oAdd (eC (.int 1)) (eCall s__law_draw (aC (eV 0) (aC (eV 1) aN)))) aN) [some (.ref 3), some (.int gaps), some (.int top), some (.int way), some (.ref (4 + rest.length)), none, none] (s1 ++ [Cell.lst []]) = .ok ⟨intsUp 0 n, fun _ => true⟩ s2 := by
        simp [iR1, fnS, eV, eC, Mm.e1, Mm.e2, eN, aN, aC, eCall, eTup, eLst, eIf, eCh, eAndT, eOrT, eNotT, bB, bAnd, bOr, bNot, bTru, tru, sSeq, sSet, sEx, sRet, sRetN, sNx, sNo, sBrk, sCt, sIf, sPar, sPar3, sAsg, tgN, tgNil, tgCons, tgTup, Mm.R.bind, Mm.R.of, Mm.R.st, oAdd, oSub, mul_i, oDiv, oMod, oPow, oCmpI, oLt, oLe, oGt, oGe, oIs, oIsN, oEq, oNe, eqF, b64_of, oIx, seqOf, lstOf, cellItems, sStore, eSl, eO, oLen, oInt, oListOf, oTupOf, oMax, oMin, oSum, oGcd, intsOf, oIsi, tyName, oNeg, eM1, eM0, isLst, oApp, oExt, oPopAt, oPop, fin_i, fin_b, fin_n, fin_s, fin_t2, at0, at1, at2, at3, at4, cut1, ix0, ix1, ix2, p5, ← hn, hb]
      rw [e]
      exact k1
    by_cases hd : way = 2 ∧ ms.length < 13
    · obtain ⟨st2, f1, f2⟩ := fin_pst (d := .tup ((ms ++ ms).map .int)) hp hr k4 (flat_ints _)
      refine ⟨ms ++ ms, st2, ?_, by rw [List.length_append]; omega, by rw [List.length_append]; omega, fun x hx => by rcases List.mem_append.mp hx with hx | hx <;> exact k3 x hx, f2⟩
      unfold s__law_row_drawn
      refine fn_ret (d := .tup ((ms ++ ms).map .int)) ?_ f1
      refine seq_nx first (seq_if (by simp [fnS, eV, eC, Mm.e1, Mm.e2, eN, aN, aC, eCall, eTup, eLst, eIf, eCh, eAndT, eOrT, eNotT, bB, bAnd, bOr, bNot, bTru, tru, sSeq, sSet, sEx, sRet, sRetN, sNx, sNo, sBrk, sCt, sIf, sPar, sPar3, sAsg, tgN, tgNil, tgCons, tgTup, Mm.R.bind, Mm.R.of, Mm.R.st, oAdd, oSub, mul_i, oDiv, oMod, oPow, oCmpI, oLt, oLe, oGt, oGe, oIs, oIsN, oEq, oNe, eqF, b64_of, oIx, seqOf, lstOf, cellItems, sStore, eSl, eO, oLen, oInt, oListOf, oTupOf, oMax, oMin, oSum, oGcd, intsOf, oIsi, tyName, oNeg, eM1, eM0, isLst, oApp, oExt, oPopAt, oPop, fin_i, fin_b, fin_n, fin_s, fin_t2, at0, at1, at2, at3, at4, cut1, ix0, ix1, ix2, hw]) (seq_nx third ?_))
      have l4 : ((ms.length : Nat) : Int) < 13 := by omega
      simp [fnS, eV, eC, Mm.e1, Mm.e2, eN, aN, aC, eCall, eTup, eLst, eIf, eCh, eAndT, eOrT, eNotT, bB, bAnd, bOr, bNot, bTru, tru, sSeq, sSet, sEx, sRet, sRetN, sNx, sNo, sBrk, sCt, sIf, sPar, sPar3, sAsg, tgN, tgNil, tgCons, tgTup, Mm.R.bind, Mm.R.of, Mm.R.st, oAdd, oSub, mul_i, oDiv, oMod, oPow, oCmpI, oLt, oLe, oGt, oGe, oIs, oIsN, oEq, oNe, eqF, b64_of, oIx, seqOf, lstOf, cellItems, sStore, eSl, eO, oLen, oInt, oListOf, oTupOf, oMax, oMin, oSum, oGcd, intsOf, oIsi, tyName, oNeg, eM1, eM0, isLst, oApp, oExt, oPopAt, oPop, fin_i, fin_b, fin_n, fin_s, fin_t2, at0, at1, at2, at3, at4, cut1, ix0, ix1, ix2, hg3, hd.1, l4, l3]
    · obtain ⟨st2, f1, f2⟩ := fin_pst (d := .tup (ms.map .int)) hp hr k4 (flat_ints _)
      refine ⟨ms, st2, ?_, by omega, by omega, k3, f2⟩
      unfold s__law_row_drawn
      refine fn_ret (d := .tup (ms.map .int)) ?_ f1
      refine seq_nx first (seq_if (by simp [fnS, eV, eC, Mm.e1, Mm.e2, eN, aN, aC, eCall, eTup, eLst, eIf, eCh, eAndT, eOrT, eNotT, bB, bAnd, bOr, bNot, bTru, tru, sSeq, sSet, sEx, sRet, sRetN, sNx, sNo, sBrk, sCt, sIf, sPar, sPar3, sAsg, tgN, tgNil, tgCons, tgTup, Mm.R.bind, Mm.R.of, Mm.R.st, oAdd, oSub, mul_i, oDiv, oMod, oPow, oCmpI, oLt, oLe, oGt, oGe, oIs, oIsN, oEq, oNe, eqF, b64_of, oIx, seqOf, lstOf, cellItems, sStore, eSl, eO, oLen, oInt, oListOf, oTupOf, oMax, oMin, oSum, oGcd, intsOf, oIsi, tyName, oNeg, eM1, eM0, isLst, oApp, oExt, oPopAt, oPop, fin_i, fin_b, fin_n, fin_s, fin_t2, at0, at1, at2, at3, at4, cut1, ix0, ix1, ix2, hw]) (seq_nx third ?_))
      by_cases hw2 : way = 2
      · have l4 : ¬ ((ms.length : Nat) : Int) < 13 := by omega
        simp [fnS, eV, eC, Mm.e1, Mm.e2, eN, aN, aC, eCall, eTup, eLst, eIf, eCh, eAndT, eOrT, eNotT, bB, bAnd, bOr, bNot, bTru, tru, sSeq, sSet, sEx, sRet, sRetN, sNx, sNo, sBrk, sCt, sIf, sPar, sPar3, sAsg, tgN, tgNil, tgCons, tgTup, Mm.R.bind, Mm.R.of, Mm.R.st, oAdd, oSub, mul_i, oDiv, oMod, oPow, oCmpI, oLt, oLe, oGt, oGe, oIs, oIsN, oEq, oNe, eqF, b64_of, oIx, seqOf, lstOf, cellItems, sStore, eSl, eO, oLen, oInt, oListOf, oTupOf, oMax, oMin, oSum, oGcd, intsOf, oIsi, tyName, oNeg, eM1, eM0, isLst, oApp, oExt, oPopAt, oPop, fin_i, fin_b, fin_n, fin_s, fin_t2, at0, at1, at2, at3, at4, cut1, ix0, ix1, ix2, hg3, hw2, l4]
      · simp [fnS, eV, eC, Mm.e1, Mm.e2, eN, aN, aC, eCall, eTup, eLst, eIf, eCh, eAndT, eOrT, eNotT, bB, bAnd, bOr, bNot, bTru, tru, sSeq, sSet, sEx, sRet, sRetN, sNx, sNo, sBrk, sCt, sIf, sPar, sPar3, sAsg, tgN, tgNil, tgCons, tgTup, Mm.R.bind, Mm.R.of, Mm.R.st, oAdd, oSub, mul_i, oDiv, oMod, oPow, oCmpI, oLt, oLe, oGt, oGe, oIs, oIsN, oEq, oNe, eqF, b64_of, oIx, seqOf, lstOf, cellItems, sStore, eSl, eO, oLen, oInt, oListOf, oTupOf, oMax, oMin, oSum, oGcd, intsOf, oIsi, tyName, oNeg, eM1, eM0, isLst, oApp, oExt, oPopAt, oPop, fin_i, fin_b, fin_n, fin_s, fin_t2, at0, at1, at2, at3, at4, cut1, ix0, ix1, ix2, hg3, hw2]

/-- one of five numbers -/
theorem pick_ok {rest st : Sto} (ds : List Int) (hp : Pst (rest ++ [Cell.lst (ds.map .int)]) st) (hr : lowS (4 + (rest ++ [Cell.lst (ds.map .int)]).length) (rest ++ [Cell.lst (ds.map .int)]) = true) (hl : 1 ≤ ds.length) (hl2 : ds.length ≤ 100) :
    ∃ v st', v ∈ ds ∧ s__law_pick [.ref 3, .ref (4 + rest.length)] st = .ok (.int v) st' ∧ Pst (rest ++ [Cell.lst (ds.map .int)]) st' := by
  obtain ⟨q, st2, p1, a1, b1, q1⟩ := draw_ok (many := (ds.length : Int)) hp hr (by omega) (by omega)
  obtain ⟨i, hi⟩ : ∃ i : Nat, (i : Int) = q := ⟨q.toNat, by omega⟩
  subst hi
  have hil : i < ds.length := by omega
  have g1 := pst_last hp
  have g2 := pst_last q1
  have a2 := at_getD ds i hil
  obtain ⟨st3, hf, q3⟩ := fin_pst (r := []) (d := .int (ds.getD i 0)) hp hr (by simpa using q1) rfl
  refine ⟨ds.getD i 0, st3, ?_, fn_ret (d := .int (ds.getD i 0)) (st' := st2) ?_ hf, q3⟩
  · rw [List.getD_eq_getElem?_getD, List.getElem?_eq_getElem hil]
    exact List.getElem_mem hil
  refine ret_ok ?_
  have hlen : ((ds.map D.int).length : Int) = (ds.length : Int) := by simp
  generalize ds.getD i 0 = v at *
  generalize ds.map D.int = L at *
  simp [fnS, eV, eC, Mm.e1, Mm.e2, eN, aN, aC, eCall, eTup, eLst, eIf, eCh, eAndT, eOrT, eNotT, bB, bAnd, bOr, bNot, bTru, tru, sSeq, sSet, sEx, sRet, sRetN, sNx, sNo, sBrk, sCt, sIf, sPar, sPar3, sAsg, tgN, tgNil, tgCons, tgTup, Mm.R.bind, Mm.R.of, Mm.R.st, oAdd, oSub, mul_i, oDiv, oMod, oPow, oCmpI, oLt, oLe, oGt, oGe, oIs, oIsN, oEq, oNe, eqF, b64_of, oIx, seqOf, lstOf, cellItems, sStore, eSl, eO, oLen, oInt, oListOf, oTupOf, oMax, oMin, oSum, oGcd, intsOf, oIsi, tyName, oNeg, eM1, eM0, isLst, oApp, oExt, oPopAt, oPop, fin_i, fin_b, fin_n, fin_s, fin_t2, at0, at1, at2, at3, at4, cut1, ix0, ix1, ix2, g1, hlen, p1, g2, a2]

theorem fdiv_nat (a b : Nat) : Int.fdiv (a : Int) (b : Int) = ((a / b : Nat) : Int) := Int.fdiv_eq_ediv_of_nonneg _ (by omega)
theorem fmod_nat (a b : Nat) : Int.fmod (a : Int) (b : Int) = ((a % b : Nat) : Int) := Int.fmod_eq_emod_of_nonneg _ (by omega)
abbrev zr (r : List Nat) : List Int := r.map fun (n : Nat) => (n : Int)
abbrev rD (r : List Nat) : D := .tup ((zr r).map .int)
def Row (r : List Nat) : Prop := r.length ≤ 24 ∧ ∀ x ∈ r, 1 ≤ x ∧ x ≤ 99
theorem row_pos {r : List Nat} (h : Row r) : ∀ x ∈ r, 1 ≤ x := fun x hx => (h.2 x hx).1
theorem sum_le : ∀ r : List Nat, (∀ x ∈ r, 1 ≤ x ∧ x ≤ 99) → r.sum ≤ 99 * r.length
  | [], _ => by simp
  | x :: r, h => by
    have := h x (by simp)
    have := sum_le r (fun y hy => h y (by simp [hy]))
    simp only [List.sum_cons, List.length_cons]
    omega
theorem row_sum {r : List Nat} (h : Row r) : r.sum ≤ 2376 := by
  have := sum_le r h.2
  have := h.1
  omega
theorem zr_sum : ∀ r : List Nat, (zr r).sum = (r.sum : Nat)
  | [] => rfl
  | x :: r => by
    have := zr_sum r
    simp only [zr] at this ⊢
    simp only [List.map_cons, List.sum_cons, this]
    omega
theorem zr_ok {r : List Nat} (h : Row r) : ∀ x ∈ zr r, 1 ≤ x ∧ x ≤ 99 := by
  intro x hx
  obtain ⟨n, hn, rfl⟩ := List.mem_map.mp hx
  have := h.2 n hn
  omega
theorem mrow {r : List Nat} (h : Row r) (st : Sto) : s_made_row [rD r] st = .ok (rD r) st := made_row_ok (zr r) st (by simpa using h.1) (zr_ok h)
theorem zr_inj : ∀ {a b : List Nat}, zr a = zr b → a = b
  | [], [], _ => rfl
  | x :: a, y :: b, h => by
    simp only [zr, List.map_cons, List.cons.injEq] at h
    rw [show x = y by omega, zr_inj (a := a) (b := b) h.2]
  | [], _ :: _, h => by cases h
  | _ :: _, [], h => by cases h
theorem ne_len {r : List Nat} (h : r ≠ []) : 0 < r.length := by cases r with | nil => exact absurd rfl h | cons a b => simp

theorem add_refs {S : Sto} {i j : Nat} {xs ys : List D} (hi : S[i]? = some (.lst xs)) (hj : S[j]? = some (.lst ys)) (hl : xs.length + ys.length ≤ lim) : oAdd (.ref i) (.ref j) S = some (.ref S.length, S ++ [.lst (xs ++ ys)]) := by
  simp only [oAdd, lstOf, hi, hj, hl, if_true]
theorem cells_body (x0 x1 x2 : Option D) (x5 : Option D) (ci : Nat) (g : Nat) (hg : 1 ≤ g) (hg2 : g ≤ 99) (acc : List Int) (ha : acc.length ≤ 5000) (S : Sto) (hci : S[ci]? = some (.lst (acc.map .int))) :
    ∃ i' R, L1__law_row_cells [x0, x1, x2, some (.ref ci), some (.int (g : Nat)), x5] S = .nx [x0, x1, x2, some (.ref i'), some (.int (g : Nat)), x5] (S ++ R) ∧ (S ++ R)[i']? = some (.lst ((acc ++ (1 :: List.replicate (g - 1) 0)).map .int)) := by
  have hlt : ci < S.length := (List.getElem?_eq_some_iff.mp hci).1
  obtain ⟨S1, hS1⟩ : ∃ S1, S1 = S ++ [Cell.lst [D.int 1]] := ⟨_, rfl⟩
  have a1 : S1[ci]? = some (.lst (acc.map .int)) := by rw [hS1, app_low hlt]; exact hci
  have a2 : S1[S.length]? = some (.lst [D.int 1]) := by rw [hS1]; simp
  have a3 := add_refs a1 a2 (by simp; unfold lim; omega)
  obtain ⟨S2, hS2⟩ : ∃ S2, S2 = S1 ++ [Cell.lst (acc.map D.int ++ [.int 1])] := ⟨_, rfl⟩
  rw [← hS2] at a3
  have b1 : S2[S1.length]? = some (.lst (acc.map D.int ++ [.int 1])) := by rw [hS2]; simp
  obtain ⟨S3, hS3⟩ : ∃ S3, S3 = S2 ++ [Cell.lst [D.int 0]] := ⟨_, rfl⟩
  have c1 : S3[S2.length]? = some (.lst [D.int 0]) := by rw [hS3]; simp
  obtain ⟨S4, hS4⟩ : ∃ S4, S4 = S3 ++ [Cell.lst (List.replicate (g - 1) (D.int 0))] := ⟨_, rfl⟩
  have hl2 : S2.length = S1.length + 1 := by rw [hS2]; simp
  have hl3 : S3.length = S2.length + 1 := by rw [hS3]; simp
  have d1 : S4[S1.length]? = some (.lst (acc.map D.int ++ [.int 1])) := by rw [hS4, app_low (by omega), hS3, app_low (by omega)]; exact b1
  have d2 : S4[S3.length]? = some (.lst (List.replicate (g - 1) (D.int 0))) := by rw [hS4]; simp
  have d3 := add_refs d1 d2 (by simp; unfold lim; omega)
  refine ⟨S4.length, [Cell.lst [D.int 1], Cell.lst (acc.map D.int ++ [.int 1]), Cell.lst [D.int 0], Cell.lst (List.replicate (g - 1) (D.int 0)), Cell.lst (acc.map D.int ++ [.int 1] ++ List.replicate (g - 1) (D.int 0))], ?_, ?_⟩
  · rw [L1__law_row_cells_ap]
    have m0 : e2 oMul (eLst (aC (eC (.int 0)) aN)) (e2 oSub (eV 4) (eC (.int 1))) [x0, x1, x2, some (.ref ci), some (.int (g : Nat)), x5] S2 = .ok (.ref S3.length) S4 := by
      have q1 : (0 : Int) ≤ (g : Int) - 1 := by omega
      have q2 : ((g : Int) - 1).natAbs ≤ 10000 := by omega
      have q3 : ((g : Int) - 1).toNat = g - 1 := by omega
      have q4 : ((decide ((0 : Int) ≤ (g : Int) - 1)) && decide (((g : Int) - 1).natAbs ≤ 10000) && decide (([D.int 0] : List D).length ≤ 100)) = true := by simp [q1, q2]; omega
      have q5 : oMul (.ref S2.length) (.int ((g : Int) - 1)) S3 = some (.ref S3.length, S4) := by
        simp only [oMul, lstOf, c1, q4, if_true, q3]
        rw [hS4]
        simp
      simp only [Mm.e2, eLst, aC, aN, eC, eV, Mm.R.bind, List.getElem?_cons_succ, List.getElem?_cons_zero, oSub, Mm.R.of, ← hS3, q5]
    have m1 : e2 oAdd (eV 3) (eLst (aC (eC (.int 1)) aN)) [x0, x1, x2, some (.ref ci), some (.int (g : Nat)), x5] S = .ok (.ref S1.length) S2 := by
      simp only [Mm.e2, eLst, aC, aN, eC, eV, Mm.R.bind, List.getElem?_cons_succ, List.getElem?_cons_zero, ← hS1, a3, Mm.R.of]
    have m2 : ∀ (f h : EX) (e : Mm.Env), f e S = .ok (.ref S1.length) S2 → h e S2 = .ok (.ref S3.length) S4 → e2 oAdd f h e S = .ok (.ref S4.length) (S4 ++ [.lst (acc.map D.int ++ [.int 1] ++ List.replicate (g - 1) (D.int 0))]) := by
      intro f h e hf hh
      simp only [Mm.e2, hf, hh, Mm.R.bind, d3, Mm.R.of]
    refine (set_ok (m2 _ _ _ m1 m0)).trans ?_
    rw [hS4, hS3, hS2, hS1]
    simp
  · rw [hS4, hS3, hS2, hS1]
    simp
theorem cells_loop (x0 x1 x2 : Option D) (x5 : Option D) : ∀ (r : List Nat) (acc : List Int) (ci : Nat) (S : Sto) (x4 : Option D), (∀ x ∈ r, 1 ≤ x ∧ x ≤ 99) → acc.length + 99 * r.length ≤ 5000 → S[ci]? = some (.lst (acc.map .int)) →
    ∃ i' R y4, forL (fun _ => true) (tgN 4) L1__law_row_cells (r.map fun (n : Nat) => D.int n) [x0, x1, x2, some (.ref ci), x4, x5] S = .nx [x0, x1, x2, some (.ref i'), y4, x5] (S ++ R) ∧ (S ++ R)[i']? = some (.lst ((acc ++ onceR r).map .int))
  | [], acc, ci, S, x4, _, _, hc => ⟨ci, [], x4, (for_nil rfl).trans (by simp), by simpa [onceR] using hc⟩
  | g :: r, acc, ci, S, x4, h, hl, hc => by
    have hg := h g (by simp)
    simp only [List.length_cons] at hl
    obtain ⟨i1, R1, k1, k2⟩ := cells_body x0 x1 x2 x5 ci g hg.1 hg.2 acc (by omega) S hc
    obtain ⟨i2, R2, y4, k3, k4⟩ := cells_loop x0 x1 x2 x5 r (acc ++ (1 :: List.replicate (g - 1) 0)) i1 (S ++ R1) (some (.int (g : Nat))) (fun x hx => h x (by simp [hx])) (by simp; omega) k2
    refine ⟨i2, R1 ++ R2, y4, ?_, ?_⟩
    · rw [← List.append_assoc]
      exact for_nx rfl rfl k1 k3
    · rw [← List.append_assoc, show acc ++ onceR (g :: r) = acc ++ (1 :: List.replicate (g - 1) 0) ++ onceR r by simp [onceR]]
      exact k4
theorem zr_map (r : List Nat) : (zr r).map D.int = r.map fun (n : Nat) => D.int n := by simp [zr]
theorem row_cells_ok {r : List Nat} (h : Row r) (hne : r ≠ []) (start m : Nat) (hm : m ≤ 5000) (S : Sto) : s__law_row_cells [rD r, .int start, .int m] S = .ok (.tup ((seen r start m).map .int)) S := by
  have hp := row_pos h
  have hs := pos_sum r hp hne
  have hS := row_sum h
  obtain ⟨ci, R, y4, k, hci⟩ := cells_loop (some (rD r)) (some (.int start)) (some (.int m)) none r [] S.length (S ++ [.lst []]) none h.2 (by have := h.1; simp only [List.length_nil]; omega) (by simp)
  rw [List.nil_append] at hci
  obtain ⟨S2, hS2⟩ : ∃ S2, S2 = S ++ [Cell.lst []] ++ R := ⟨_, rfl⟩
  rw [← hS2] at k hci
  have hlt : ci < S2.length := (List.getElem?_eq_some_iff.mp hci).1
  have hlen := once_len r hp
  have hb : bigR (m : Int) = true := decide_eq_true (by omega)
  obtain ⟨R2, c⟩ := lc_map (own := [5]) (t := tgN 5) (f := E1__law_row_cells) (src := iR1 (aC (eV 2) aN)) (e := [some (rD r), some (.int start), some (.int m), some (.ref ci), y4, none]) (st := S2) (st1 := S2) (ds := intsUp 0 m) (g := fun _ => true) (fun d => match d with | .int i => .int (val r ((start + i.toNat) % r.sum)) | d => d) (by simp [iR1, fnS, eV, eC, Mm.e1, Mm.e2, eN, aN, aC, eCall, eTup, eLst, eIf, eCh, eAndT, eOrT, eNotT, bB, bAnd, bOr, bNot, bTru, tru, sSeq, sSet, sEx, sRet, sRetN, sNx, sNo, sBrk, sCt, sIf, sPar, sPar3, sAsg, tgN, tgNil, tgCons, tgTup, Mm.R.bind, Mm.R.of, Mm.R.st, oAdd, oSub, mul_i, oDiv, oMod, oPow, oCmpI, oLt, oLe, oGt, oGe, oIs, oIsN, oEq, oNe, eqF, b64_of, oIx, seqOf, lstOf, cellItems, sStore, eSl, eO, oLen, oInt, oListOf, oTupOf, oMax, oMin, oSum, oGcd, intsOf, oIsi, tyName, oNeg, eM1, eM0, isLst, oApp, oExt, oPopAt, oPop, fin_i, fin_b, fin_n, fin_s, fin_t2, at0, at1, at2, at3, at4, cut1, ix0, ix1, ix2, hb]) (fun _ _ => rfl) (by rw [ups_zero]; simp; unfold lim; omega) (fun d hd => by
    rw [ups_zero] at hd
    obtain ⟨i, hi, rfl⟩ := List.mem_map.mp hd
    refine ⟨_, rfl, fun acc R => ?_⟩
    rw [E1__law_row_cells_ap]
    obtain ⟨E, hE⟩ : ∃ E : Mm.Env, E = (wipeE [some (rD r), some (.int start), some (.int m), some (.ref ci), y4, none] [5]).set 5 (some (.int (i : Nat))) := ⟨_, rfl⟩
    have h1 : E[1]? = some (some (.int (start : Nat))) := by rw [hE]; rfl
    have h3 : E[3]? = some (some (.ref ci)) := by rw [hE]; rfl
    have h5 : E[5]? = some (some (.int (i : Nat))) := by rw [hE]; rfl
    rw [← hE]
    obtain ⟨S3, hS3⟩ : ∃ S3, S3 = S2 ++ Cell.lst acc :: R := ⟨_, rfl⟩
    have g3 : S3[ci]? = some (.lst ((onceR r).map .int)) := by rw [hS3, app_low hlt]; exact hci
    have hlt3 : ci < S3.length := (List.getElem?_eq_some_iff.mp g3).1
    rw [← hS3]
    have t1 := ne_nil (a := eV 3) (e := E) (st := S3) (s1 := S3) (i := ci) (xs := (onceR r).map .int) (by simp only [eV, h3]) g3 (pys_ints (onceR r)) (shaped_lints _)
    have hnn : ((onceR r).map D.int).isEmpty = false := by
      cases hq : onceR r with
      | nil => rw [hq] at hlen; simp at hlen; omega
      | cons a b => rfl
    rw [hnn] at t1
    obtain ⟨S4, hS4⟩ : ∃ S4, S4 = S3 ++ [Cell.lst []] := ⟨_, rfl⟩
    rw [← hS4] at t1
    have g4 : S4[ci]? = some (.lst ((onceR r).map .int)) := by rw [hS4, app_low hlt3]; exact g3
    have b1 : bB (e2 oNe (eV 3) (eLst aN)) E S3 = .ok true S4 := by
      unfold bB
      rw [t1]
      rfl
    have f1 := fmod_nat (start + i) r.sum
    have f2 : ((start + i : Nat) : Int) = (start : Int) + (i : Int) := by omega
    rw [f2] at f1
    have f3 : ((r.sum : Nat) : Int) ≠ 0 := by omega
    have hm2 := Nat.mod_lt (start + i) hs
    have o1 := once_get r ((start + i) % r.sum) hp hm2
    have o2 := at_getD (onceR r) ((start + i) % r.sum) (by omega)
    rw [List.getD_eq_getElem?_getD, o1] at o2
    have hll : ((((onceR r).map D.int).length : Nat) : Int) = (r.sum : Nat) := by simp [hlen]
    refine ⟨R ++ [.lst []], ?_⟩
    have fin4 : S2 ++ Cell.lst acc :: (R ++ [Cell.lst []]) = S4 := by rw [hS4, hS3]; simp
    rw [fin4]
    unfold eIf
    rw [b1]
    simp only [Mm.R.bind, if_true, Mm.e2, eV, h3, eN, aC, aN, h1, h5, oAdd, oInt, Mm.R.of, oLen, seqOf, g4, cellItems, Option.map, hll, oMod, f3, ne_eq, not_false_eq_true, f1, oIx, o2, Option.getD, Int.toNat_natCast])
  have hseen : (intsUp 0 m).map (fun d => match d with | .int i => D.int (val r ((start + i.toNat) % r.sum)) | d => d) = (seen r start m).map .int := by
    rw [ups_zero]
    simp only [seen, List.map_map, if_neg hne]
    rfl
  rw [hseen] at c
  have g9 : (S2 ++ Cell.lst ((seen r start m).map .int) :: R2)[S2.length]? = some (.lst ((seen r start m).map .int)) := app_get
  refine fn_flat (r := [Cell.lst []] ++ R ++ Cell.lst ((seen r start m).map .int) :: R2) (flat_ints _) ?_
  refine seq_nx (e1 := [some (rD r), some (.int start), some (.int m), some (.ref S.length), none, none]) (st1 := S ++ [.lst []]) (by simp [fnS, eV, eC, Mm.e1, Mm.e2, eN, aN, aC, eCall, eTup, eLst, eIf, eCh, eAndT, eOrT, eNotT, bB, bAnd, bOr, bNot, bTru, tru, sSeq, sSet, sEx, sRet, sRetN, sNx, sNo, sBrk, sCt, sIf, sPar, sPar3, sAsg, tgN, tgNil, tgCons, tgTup, Mm.R.bind, Mm.R.of, Mm.R.st, oAdd, oSub, mul_i, oDiv, oMod, oPow, oCmpI, oLt, oLe, oGt, oGe, oIs, oIsN, oEq, oNe, eqF, b64_of, oIx, seqOf, lstOf, cellItems, sStore, eSl, eO, oLen, oInt, oListOf, oTupOf, oMax, oMin, oSum, oGcd, intsOf, oIsi, tyName, oNeg, eM1, eM0, isLst, oApp, oExt, oPopAt, oPop, fin_i, fin_b, fin_n, fin_s, fin_t2, at0, at1, at2, at3, at4, cut1, ix0, ix1, ix2]) ?_
  refine seq_nx (e1 := [some (rD r), some (.int start), some (.int m), some (.ref ci), y4, none]) (st1 := S2) ?_ ?_
  · unfold sFor
    have e : iSeq (eV 0) [some (rD r), some (.int start), some (.int m), some (.ref S.length), none, none] (S ++ [.lst []]) = .ok ⟨(zr r).map .int, fun _ => true⟩ (S ++ [.lst []]) := rfl
    rw [e, zr_map]
    exact k
  · refine (ret_ok (st1 := S2 ++ Cell.lst ((seen r start m).map .int) :: R2) (d := .tup ((seen r start m).map .int)) ?_).trans (by rw [hS2]; simp)
    simp only [eN, aC, aN, c, Mm.R.bind, oTupOf, seqOf, g9, cellItems, Option.map, Mm.R.of]

end Gk05

namespace Gk05
open Mm
def firstP (k : Nat) (r : List Nat) (a : Nat) : Nat := if 1 < k + 1 - r.getD a 0 then k + 1 - r.getD a 0 else 1
def lastP (k : Nat) (r : List Nat) (a : Nat) : Nat := if leftOf r a < k then leftOf r a else k
def spanD (k : Nat) (r : List Nat) (a : Nat) : D := if firstP k r a ≤ lastP k r a then .tup [.int (firstP k r a : Nat), .int (lastP k r a : Nat)] else .non
def spansD (k : Nat) (r : List Nat) (n : Nat) : List D := (List.range n).map (spanD k r)
theorem flat_span (k : Nat) (r : List Nat) (a : Nat) : flatD (spanD k r a) = true := by
  unfold spanD
  split <;> rfl
theorem flat_spans (k : Nat) (r : List Nat) : ∀ n : Nat, flatDs (spansD k r n) = true := by
  intro n
  have : ∀ l : List Nat, flatDs (l.map (spanD k r)) = true := by
    intro l
    induction l with
    | nil => rfl
    | cons a l ih => simp only [List.map_cons, flatDs, flat_span, ih, Bool.and_self]
  exact this _
theorem left_at {r : List Nat} {a : Nat} (h : a < r.length) : L2.atI ((zr r).map D.int) ((a : Int) - 1) = some (.int (leftOf r a : Nat)) := by
  have hp := prev_lt h
  have e : ∀ i : Nat, i < r.length → ((zr r).map D.int)[i]? = some (.int (r.getD i 0 : Nat)) := by
    intro i hi
    simp [zr, List.getD, hi]
  have hl : ((zr r).map D.int).length = r.length := by simp
  unfold L2.atI leftOf
  by_cases h0 : a = 0
  · subst h0
    have : L2.ixN ((zr r).map D.int).length (((0 : Nat) : Int) - 1) = some (prev r 0) := by
      rw [hl]
      simp only [L2.ixN, prev]
      simp
      omega
    rw [this]
    exact e _ hp
  · have : L2.ixN ((zr r).map D.int).length ((a : Int) - 1) = some (prev r a) := by
      rw [hl, show ((a : Int) - 1) = ((a - 1 : Nat) : Int) by omega, ixN_nat (by omega)]
      simp only [prev, if_neg h0]
    rw [this]
    exact e _ hp
theorem own1 (k : Nat) (hk : 1 ≤ k) (r : List Nat) (h : Row r) (a : Nat) (ha : a < r.length) (st : Sto) (acc : List D) (hacc : acc.length ≤ 100) (x3 x4 x5 x6 x7 : Option D) :
    L1_owned [some (.int (k : Nat)), some (rD r), some (.ref st.length), some (.int (a : Nat)), some (.int (r.getD a 0 : Nat)), x5, x6, x7] (st ++ [Cell.lst acc])
      = .nx [some (.int (k : Nat)), some (rD r), some (.ref st.length), some (.int (a : Nat)), some (.int (r.getD a 0 : Nat)), some (.int (leftOf r a : Nat)), some (.int (firstP k r a : Nat)), some (.int (lastP k r a : Nat))] (st ++ [Cell.lst (acc ++ [spanD k r a])]) := by
  have l1 := left_at ha
  have l2 : acc.length < lim := by unfold lim; omega
  have f1 : (if (k : Int) + 1 - (r.getD a 0 : Nat) > 1 then (k : Int) + 1 - (r.getD a 0 : Nat) else 1) = ((firstP k r a : Nat) : Int) := by
    unfold firstP
    split <;> split <;> omega
  have f2 : (if leftOf r a < k then ((leftOf r a : Nat) : Int) else (k : Int)) = ((lastP k r a : Nat) : Int) := by
    unfold lastP
    split <;> rfl
  unfold spanD
  rw [L1_owned_ap]
  delta rD
  generalize (zr r).map D.int = L at *
  generalize leftOf r a = lf at *
  generalize r.getD a 0 = rt at *
  generalize firstP k r a = fp at *
  generalize lastP k r a = lp at *
  by_cases hle : fp ≤ lp
  · have hle2 : (fp : Int) ≤ (lp : Int) := by omega
    simp [fnS, eV, eC, Mm.e1, Mm.e2, eN, aN, aC, eCall, eTup, eLst, eIf, eCh, eAndT, eOrT, eNotT, bB, bAnd, bOr, bNot, bTru, tru, sSeq, sSet, sEx, sRet, sRetN, sNx, sNo, sBrk, sCt, sIf, sPar, sPar3, sAsg, tgN, tgNil, tgCons, tgTup, Mm.R.bind, Mm.R.of, Mm.R.st, oAdd, oSub, mul_i, oDiv, oMod, oPow, oCmpI, oLt, oLe, oGt, oGe, oIs, oIsN, oEq, oNe, eqF, b64_of, oIx, seqOf, lstOf, cellItems, sStore, eSl, eO, oLen, oInt, oListOf, oTupOf, oMax, oMin, oSum, oGcd, intsOf, oIsi, tyName, oNeg, eM1, eM0, isLst, oApp, oExt, oPopAt, oPop, fin_i, fin_b, fin_n, fin_s, fin_t2, at0, at1, at2, at3, at4, cut1, ix0, ix1, ix2, l1, l2, f1, f2, hle]
  · simp [fnS, eV, eC, Mm.e1, Mm.e2, eN, aN, aC, eCall, eTup, eLst, eIf, eCh, eAndT, eOrT, eNotT, bB, bAnd, bOr, bNot, bTru, tru, sSeq, sSet, sEx, sRet, sRetN, sNx, sNo, sBrk, sCt, sIf, sPar, sPar3, sAsg, tgN, tgNil, tgCons, tgTup, Mm.R.bind, Mm.R.of, Mm.R.st, oAdd, oSub, mul_i, oDiv, oMod, oPow, oCmpI, oLt, oLe, oGt, oGe, oIs, oIsN, oEq, oNe, eqF, b64_of, oIx, seqOf, lstOf, cellItems, sStore, eSl, eO, oLen, oInt, oListOf, oTupOf, oMax, oMin, oSum, oGcd, intsOf, oIsi, tyName, oNeg, eM1, eM0, isLst, oApp, oExt, oPopAt, oPop, fin_i, fin_b, fin_n, fin_s, fin_t2, at0, at1, at2, at3, at4, cut1, ix0, ix1, ix2, l1, l2, f1, f2, hle]
theorem own_loop (k : Nat) (hk : 1 ≤ k) (r : List Nat) (h : Row r) (st : Sto) : ∀ (j a : Nat) (x3 x4 x5 x6 x7 : Option D), a + j = r.length →
    ∃ y3 y4 y5 y6 y7, forL (fun _ => true) (tgTup (tgCons (tgN 3) (tgCons (tgN 4) tgNil))) L1_owned (enumD a ((zr (r.drop a)).map .int)) [some (.int (k : Nat)), some (rD r), some (.ref st.length), x3, x4, x5, x6, x7] (st ++ [Cell.lst (spansD k r a)])
      = .nx [some (.int (k : Nat)), some (rD r), some (.ref st.length), y3, y4, y5, y6, y7] (st ++ [Cell.lst (spansD k r r.length)])
  | 0, a, x3, x4, x5, x6, x7, e => by
    have : a = r.length := by omega
    subst this
    refine ⟨x3, x4, x5, x6, x7, ?_⟩
    rw [List.drop_length]
    exact for_nil rfl
  | j + 1, a, x3, x4, x5, x6, x7, e => by
    have ha : a < r.length := by omega
    have h1 := own1 k hk r h a ha st (spansD k r a) (by have := h.1; simp [spansD]; omega) none none x5 x6 x7
    have e1 : spansD k r a ++ [spanD k r a] = spansD k r (a + 1) := by simp [spansD, List.range_succ]
    rw [e1] at h1
    obtain ⟨y3, y4, y5, y6, y7, h2⟩ := own_loop k hk r h st j (a + 1) (some (.int (a : Nat))) (some (.int (r.getD a 0 : Nat))) (some (.int (leftOf r a : Nat))) (some (.int (firstP k r a : Nat))) (some (.int (lastP k r a : Nat))) (by omega)
    refine ⟨y3, y4, y5, y6, y7, ?_⟩
    have e2 : (zr (r.drop a)).map D.int = .int (r.getD a 0 : Nat) :: (zr (r.drop (a + 1))).map .int := by
      rw [List.drop_eq_getElem_cons ha, show r.getD a 0 = r[a] by simp [List.getD, ha]]
      rfl
    rw [e2, enumD]
    exact for_nx rfl rfl h1 h2
theorem owned_ok (k : Nat) (hk : 1 ≤ k) (hk2 : k ≤ 60) (r : List Nat) (h : Row r) (st : Sto) : s_owned [.int (k : Nat), rD r] st = .ok (.tup (spansD k r r.length)) st := by
  obtain ⟨y3, y4, y5, y6, y7, h1⟩ := own_loop k hk r h st r.length 0 none none none none none (by omega)
  rw [List.drop_zero] at h1
  have g1 := made_k_int (k : Nat) st (by omega) (by omega)
  have g2 := mrow h st
  have hl : (spansD k r r.length).length ≤ lim := by have := h.1; simp [spansD]; unfold lim; omega
  refine fn_flat (r := [Cell.lst (spansD k r r.length)]) (flat_spans k r r.length) ?_
  refine seq_nx (e1 := [some (.int (k : Nat)), some (rD r), none, none, none, none, none, none]) (st1 := st) (by simp [fnS, eV, eC, Mm.e1, Mm.e2, eN, aN, aC, eCall, eTup, eLst, eIf, eCh, eAndT, eOrT, eNotT, bB, bAnd, bOr, bNot, bTru, tru, sSeq, sSet, sEx, sRet, sRetN, sNx, sNo, sBrk, sCt, sIf, sPar, sPar3, sAsg, tgN, tgNil, tgCons, tgTup, Mm.R.bind, Mm.R.of, Mm.R.st, oAdd, oSub, mul_i, oDiv, oMod, oPow, oCmpI, oLt, oLe, oGt, oGe, oIs, oIsN, oEq, oNe, eqF, b64_of, oIx, seqOf, lstOf, cellItems, sStore, eSl, eO, oLen, oInt, oListOf, oTupOf, oMax, oMin, oSum, oGcd, intsOf, oIsi, tyName, oNeg, eM1, eM0, isLst, oApp, oExt, oPopAt, oPop, fin_i, fin_b, fin_n, fin_s, fin_t2, at0, at1, at2, at3, at4, cut1, ix0, ix1, ix2, g1]) ?_
  refine seq_nx (e1 := [some (.int (k : Nat)), some (rD r), none, none, none, none, none, none]) (st1 := st) (by simp only [sEx, eCall, aC, aN, eV, Mm.R.bind, List.map, List.getElem?_cons_succ, List.getElem?_cons_zero, g2]; rfl) ?_
  refine seq_nx (e1 := [some (.int (k : Nat)), some (rD r), some (.ref st.length), none, none, none, none, none]) (st1 := st ++ [.lst []]) (by simp [fnS, eV, eC, Mm.e1, Mm.e2, eN, aN, aC, eCall, eTup, eLst, eIf, eCh, eAndT, eOrT, eNotT, bB, bAnd, bOr, bNot, bTru, tru, sSeq, sSet, sEx, sRet, sRetN, sNx, sNo, sBrk, sCt, sIf, sPar, sPar3, sAsg, tgN, tgNil, tgCons, tgTup, Mm.R.bind, Mm.R.of, Mm.R.st, oAdd, oSub, mul_i, oDiv, oMod, oPow, oCmpI, oLt, oLe, oGt, oGe, oIs, oIsN, oEq, oNe, eqF, b64_of, oIx, seqOf, lstOf, cellItems, sStore, eSl, eO, oLen, oInt, oListOf, oTupOf, oMax, oMin, oSum, oGcd, intsOf, oIsi, tyName, oNeg, eM1, eM0, isLst, oApp, oExt, oPopAt, oPop, fin_i, fin_b, fin_n, fin_s, fin_t2, at0, at1, at2, at3, at4, cut1, ix0, ix1, ix2]) ?_
  refine seq_nx (e1 := [some (.int (k : Nat)), some (rD r), some (.ref st.length), y3, y4, y5, y6, y7]) (st1 := st ++ [.lst (spansD k r r.length)]) ?_ ?_
  · unfold sFor
    have e : iEn (eV 1) [some (.int (k : Nat)), some (rD r), some (.ref st.length), none, none, none, none, none] (st ++ [.lst []]) = .ok ⟨enumD 0 ((zr r).map .int), fun _ => true⟩ (st ++ [.lst []]) := by
      simp [iEn, eV, Mm.R.bind]
    rw [e]
    exact h1
  · simp [fnS, eV, eC, Mm.e1, Mm.e2, eN, aN, aC, eCall, eTup, eLst, eIf, eCh, eAndT, eOrT, eNotT, bB, bAnd, bOr, bNot, bTru, tru, sSeq, sSet, sEx, sRet, sRetN, sNx, sNo, sBrk, sCt, sIf, sPar, sPar3, sAsg, tgN, tgNil, tgCons, tgTup, Mm.R.bind, Mm.R.of, Mm.R.st, oAdd, oSub, mul_i, oDiv, oMod, oPow, oCmpI, oLt, oLe, oGt, oGe, oIs, oIsN, oEq, oNe, eqF, b64_of, oIx, seqOf, lstOf, cellItems, sStore, eSl, eO, oLen, oInt, oListOf, oTupOf, oMax, oMin, oSum, oGcd, intsOf, oIsi, tyName, oNeg, eM1, eM0, isLst, oApp, oExt, oPopAt, oPop, fin_i, fin_b, fin_n, fin_s, fin_t2, at0, at1, at2, at3, at4, cut1, ix0, ix1, ix2, hl]
end Gk05

namespace Gk05
open Mm
def notN : D → Bool
  | .non => false
  | _ => true
def plN (k : Nat) (r : List Nat) (a : Nat) : Nat := lastP k r a + 1 - firstP k r a
def plL (k : Nat) (r : List Nat) (a : Nat) : List Int := rng (firstP k r a : Nat) (plN k r a)
def accL (k : Nat) (r : List Nat) (as : List Nat) : List Int := as.flatMap (plL k r)
theorem rng_mem {a : Int} {n : Nat} {x : Int} : x ∈ rng a n ↔ a ≤ x ∧ x < a + n := by
  unfold rng
  rw [List.mem_map]
  constructor
  · rintro ⟨i, hi, rfl⟩
    have := List.mem_range.mp hi
    omega
  · rintro ⟨h1, h2⟩
    exact ⟨(x - a).toNat, List.mem_range.mpr (by omega), by omega⟩
theorem rng_len (a : Int) (n : Nat) : (rng a n).length = n := by simp [rng]
theorem first_pos (k : Nat) (r : List Nat) (a : Nat) : 1 ≤ firstP k r a := by unfold firstP; split <;> omega
theorem last_le (k : Nat) (r : List Nat) (a : Nat) : lastP k r a ≤ k := by unfold lastP; split <;> omega
theorem in_pl (k : Nat) (r : List Nat) (a p : Nat) : inPl r k a p ↔ firstP k r a ≤ p ∧ p ≤ lastP k r a := by
  unfold inPl firstP lastP
  split <;> split <;> omega
theorem pl_mem {k : Nat} {r : List Nat} {a : Nat} {x : Int} : x ∈ plL k r a ↔ ∃ p : Nat, x = p ∧ inPl r k a p := by
  unfold plL plN
  rw [rng_mem]
  constructor
  · rintro ⟨h1, h2⟩
    exact ⟨x.toNat, by omega, (in_pl k r a _).mpr (by omega)⟩
  · rintro ⟨p, rfl, hp⟩
    have := (in_pl k r a p).mp hp
    omega
theorem pl_le (k : Nat) (hk : k ≤ 60) (r : List Nat) (a : Nat) : (plL k r a).length ≤ 60 := by
  have h1 := first_pos k r a
  have h2 := last_le k r a
  unfold plL plN
  rw [rng_len]
  omega
theorem acc_len (k : Nat) (hk : k ≤ 60) (r : List Nat) : ∀ as : List Nat, (accL k r as).length ≤ 60 * as.length
  | [] => by simp [accL]
  | a :: as => by
    have h1 := acc_len k hk r as
    have h2 := pl_le k hk r a
    simp only [accL, List.flatMap_cons, List.length_append, List.length_cons] at h1 ⊢
    omega
theorem srt_len : ∀ (l : List Int) (lo : Int) (n : Nat), l.Pairwise (· < ·) → (∀ x ∈ l, lo ≤ x ∧ x < lo + n) → l.length ≤ n
  | [], _, _, _, _ => Nat.zero_le _
  | x :: l, lo, n, h, hb => by
    have h1 := List.pairwise_cons.mp h
    have hx := hb x (by simp)
    have := srt_len l (lo + 1) (n - 1) h1.2 fun y hy => by
      have h2 := h1.1 y hy
      have h3 := hb y (by simp [hy])
      omega
    simp only [List.length_cons]
    omega
theorem uni_few {l : List Int} (h : ∀ x ∈ l, 1 ≤ x ∧ x ≤ 60) : (uniL l).length < 64 := by
  have := srt_len (uniL l) 1 60 (uniL_srt l) fun x hx => by
    have := h x ((uniL_mem x l).mp hx)
    omega
  omega
theorem acc_mem {k : Nat} {r : List Nat} {as : List Nat} {x : Int} : x ∈ accL k r as ↔ ∃ a ∈ as, ∃ p : Nat, x = p ∧ inPl r k a p := by
  unfold accL
  rw [List.mem_flatMap]
  constructor
  · rintro ⟨a, ha, hx⟩
    exact ⟨a, ha, pl_mem.mp hx⟩
  · rintro ⟨a, ha, hx⟩
    exact ⟨a, ha, pl_mem.mpr hx⟩
theorem span_run (k : Nat) (hk1 : 1 ≤ k) (hk : k ≤ 60) (r : List Nat) (x0 x1 x2 x3 x4 x5 x6 : Option D) : ∀ (as : List Nat) (acc : List Int), acc.length + 60 * as.length ≤ 4000 →
    spanL (tgTup (tgCons (tgN 4) (tgCons (tgN 5) tgNil))) 4 5 6 1 [x0, x1, x2, x3, x4, x5, x6] ((as.map (spanD k r)).filter notN) acc = some (acc ++ accL k r as)
  | [], acc, _ => by simp [spanL, accL]
  | a :: as, acc, hl => by
    simp only [List.length_cons] at hl
    have h1 := first_pos k r a
    have h2 := last_le k r a
    by_cases hle : firstP k r a ≤ lastP k r a
    · have ih := span_run k hk1 hk r x0 x1 x2 x3 x4 x5 x6 as (acc ++ plL k r a) (by rw [List.length_append]; have := pl_le k hk r a; omega)
      have e1 : spanD k r a = .tup [.int (firstP k r a : Nat), .int (lastP k r a : Nat)] := by unfold spanD; rw [if_pos hle]
      have e2 : (((lastP k r a : Nat) : Int) + 1 - ((firstP k r a : Nat) : Int)).toNat = plN k r a := by unfold plN; omega
      have b1 : bigR ((firstP k r a : Nat) : Int) = true := decide_eq_true (by omega)
      have b2 : bigR (((lastP k r a : Nat) : Int) + 1) = true := decide_eq_true (by omega)
      have b3 : acc.length + plN k r a ≤ 4000 := by unfold plN; omega
      rw [List.map_cons, List.filter_cons, e1, if_pos (by rfl), spanL]
      simp only [tgTup, tgCons, tgN, tgNil, Option.bind, List.set, List.getElem?_cons_succ, List.getElem?_cons_zero, e2, b1, b2, List.length_cons, List.length_nil, Bool.true_and]
      rw [if_pos (by simp [b3])]
      have e3 : rng (firstP k r a : Nat) (plN k r a) = plL k r a := rfl
      rw [e3]
      have := span_run k hk1 hk r x0 x1 x2 x3 x4 x5 x6 as (acc ++ plL k r a) (by rw [List.length_append]; have := pl_le k hk r a; omega)
      rw [this]
      simp [accL, List.flatMap_cons]
    · have ih := span_run k hk1 hk r x0 x1 x2 x3 x4 x5 x6 as acc (by omega)
      have e1 : spanD k r a = .non := by unfold spanD; rw [if_neg hle]
      have e2 : plL k r a = [] := by
        have : plN k r a = 0 := by unfold plN; omega
        unfold plL
        rw [this]
        rfl
      rw [List.map_cons, List.filter_cons, e1, if_neg (by simp [notN]), ih]
      simp [accL, List.flatMap_cons, e2]
theorem flat_filter : ∀ {xs : List D} (p : D → Bool), flatDs xs = true → flatDs (xs.filter p) = true
  | [], _, _ => rfl
  | x :: xs, p, h => by
    simp only [flatDs, Bool.and_eq_true] at h
    rw [List.filter_cons]
    split
    · simp only [flatDs, h.1, flat_filter p h.2, Bool.and_self]
    · exact flat_filter p h.2
def aloneL (k : Nat) (r : List Nat) : List Int := uniL (accL k r (List.range r.length))
theorem alone_in {k : Nat} (hk : k ≤ 60) {r : List Nat} : ∀ x ∈ accL k r (List.range r.length), 1 ≤ x ∧ x ≤ 60 := by
  intro x hx
  obtain ⟨a, _, p, rfl, h1, h2, _⟩ := acc_mem.mp hx
  omega
theorem alone_ok (k : Nat) (hk : 1 ≤ k) (hk2 : k ≤ 60) (r : List Nat) (h : Row r) (st : Sto) : s_alone [.int (k : Nat), rD r] st = .ok (.tup ((aloneL k r).map .int)) st := by
  have g1 := owned_ok k hk hk2 r h st
  have hf := uni_few (alone_in (r := r) hk2)
  have hlen := h.1
  have hsrc : iSeq (eCall s_owned (aC (eV 0) (aC (eV 1) aN))) [some (.int (k : Nat)), some (rD r), none, none, none, none, none] st = .ok ⟨spansD k r r.length, fun _ => true⟩ st := by
    simp only [iSeq, eCall, aC, aN, eV, Mm.R.bind, List.getElem?_cons_succ, List.getElem?_cons_zero, g1]
  have c1 := lc_pure (own := [3]) (t := tgN 3) (c := I1_alone) (f := E1_alone) notN (fun d => d) hsrc (fun acc => rfl) (by simp [spansD]; unfold lim; omega) (fun d hd => by
    refine ⟨[some (.int (k : Nat)), some (rD r), none, some d, none, none, none], rfl, fun acc => ?_, fun _ acc => by rw [E1_alone_ap]; rfl⟩
    rw [I1_alone_ap]
    obtain ⟨a, _, rfl⟩ := List.mem_map.mp hd
    unfold spanD
    split
    · simp [bB, Mm.e2, eV, eC, Mm.R.bind, Mm.R.of, oIsN, notN]
    · simp [bB, Mm.e2, eV, eC, Mm.R.bind, Mm.R.of, oIsN, notN])
  rw [List.map_id'] at c1
  have c2 := span_run k hk hk2 r (some (.int (k : Nat))) (some (rD r)) (some (.ref st.length)) none none none none (List.range r.length) [] (by simp; omega)
  rw [List.nil_append] at c2
  have hl : (uniL (accL k r (List.range r.length))).length ≤ lim := by unfold lim; omega
  refine fn_flat (r := [Cell.lst ((spansD k r r.length).filter notN), Cell.lst ((aloneL k r).map .int)]) (flat_ints _) ?_
  refine seq_nx (set_ok c1) ?_
  simp only [List.set, List.map_cons, List.map_nil, List.length_cons, List.length_nil, List.cons_append, List.nil_append, show 7 - (0 + 1 + 1) = 5 from rfl, List.replicate]
  have g2 : (st ++ [Cell.lst ((spansD k r r.length).filter notN)])[st.length]? = some (Cell.lst ((spansD k r r.length).filter notN)) := by simp
  refine ret_ok (st1 := st ++ [Cell.lst ((spansD k r r.length).filter notN), Cell.lst ((aloneL k r).map .int)]) ?_
  have c3 : eSpans [4, 5, 6] (eV 2) (tgTup (tgCons (tgN 4) (tgCons (tgN 5) tgNil))) 4 5 6 1 [some (.int (k : Nat)), some (rD r), some (.ref st.length), none, none, none, none] (st ++ [Cell.lst ((spansD k r r.length).filter notN)]) = .ok (.ref (st.length + 1)) (st ++ [Cell.lst ((spansD k r r.length).filter notN), Cell.lst ((aloneL k r).map .int)]) := by
    unfold eSpans
    simp only [eV, List.getElem?_cons_succ, List.getElem?_cons_zero, Mm.R.bind, g2, cellItems, wipeE, List.set]
    rw [show (spansD k r r.length).filter notN = ((List.range r.length).map (spanD k r)).filter notN from rfl, c2]
    simp only [hf, decide_true, if_true]
    simp [aloneL]
  simp only [eN, aC, aN, c3, Mm.R.bind, oTupOf, seqOf]
  simp [cellItems, Mm.R.of, aloneL]
end Gk05

namespace Gk05
open Mm
/-! cells of the row without dots -/
theorem row_cells_nil (start m : Nat) (hm : m ≤ 5000) (S : Sto) : s__law_row_cells [rD [], .int start, .int m] S = .ok (.tup ((seen [] start m).map .int)) S := by
  have hb : bigR (m : Int) = true := decide_eq_true (by omega)
  obtain ⟨R2, c⟩ := lc_map (own := [5]) (t := tgN 5) (f := E1__law_row_cells) (src := iR1 (aC (eV 2) aN)) (e := [some (rD []), some (.int start), some (.int m), some (.ref S.length), none, none]) (st := S ++ [.lst []]) (st1 := S ++ [.lst []]) (ds := intsUp 0 m) (g := fun _ => true) (fun _ => .int 0) (by simp [iR1, fnS, eV, eC, Mm.e1, Mm.e2, eN, aN, aC, eCall, eTup, eLst, eIf, eCh, eAndT, eOrT, eNotT, bB, bAnd, bOr, bNot, bTru, tru, sSeq, sSet, sEx, sRet, sRetN, sNx, sNo, sBrk, sCt, sIf, sPar, sPar3, sAsg, tgN, tgNil, tgCons, tgTup, Mm.R.bind, Mm.R.of, Mm.R.st, oAdd, oSub, mul_i, oDiv, oMod, oPow, oCmpI, oLt, oLe, oGt, oGe, oIs, oIsN, oEq, oNe, eqF, b64_of, oIx, seqOf, lstOf, cellItems, sStore, eSl, eO, oLen, oInt, oListOf, oTupOf, oMax, oMin, oSum, oGcd, intsOf, oIsi, tyName, oNeg, eM1, eM0, isLst, oApp, oExt, oPopAt, oPop, fin_i, fin_b, fin_n, fin_s, fin_t2, at0, at1, at2, at3, at4, cut1, ix0, ix1, ix2, hb]) (fun _ _ => rfl) (by rw [ups_zero]; simp; unfold lim; omega) (fun d hd => by
    refine ⟨_, rfl, fun acc R => ?_⟩
    rw [E1__law_row_cells_ap]
    obtain ⟨E, hE⟩ : ∃ E : Mm.Env, E = (wipeE [some (rD []), some (.int start), some (.int m), some (.ref S.length), none, none] [5]).set 5 (some d) := ⟨_, rfl⟩
    have h3 : E[3]? = some (some (.ref S.length)) := by rw [hE]; rfl
    rw [← hE]
    have g3 : (S ++ [Cell.lst []] ++ Cell.lst acc :: R)[S.length]? = some (.lst []) := by simp
    have t1 := ne_nil (a := eV 3) (e := E) (st := S ++ [Cell.lst []] ++ Cell.lst acc :: R) (s1 := S ++ [Cell.lst []] ++ Cell.lst acc :: R) (i := S.length) (xs := []) (ps := []) (by simp only [eV, h3]) g3 rfl shaped_nil
    refine ⟨R ++ [.lst []], ?_⟩
    unfold eIf bB
    rw [t1]
    simp [eC, Mm.R.bind])
  have hseen : (intsUp 0 m).map (fun _ => D.int 0) = (seen [] start m).map .int := by
    rw [ups_zero]
    simp only [seen, List.map_map, if_true]
    rfl
  rw [hseen] at c
  have g9 : (S ++ [Cell.lst []] ++ Cell.lst ((seen [] start m).map .int) :: R2)[(S ++ [Cell.lst []]).length]? = some (.lst ((seen [] start m).map .int)) := app_get
  refine fn_flat (r := [Cell.lst []] ++ Cell.lst ((seen [] start m).map .int) :: R2) (flat_ints _) ?_
  refine seq_nx (e1 := [some (rD []), some (.int start), some (.int m), some (.ref S.length), none, none]) (st1 := S ++ [.lst []]) (by simp [fnS, eV, eC, Mm.e1, Mm.e2, eN, aN, aC, eCall, eTup, eLst, eIf, eCh, eAndT, eOrT, eNotT, bB, bAnd, bOr, bNot, bTru, tru, sSeq, sSet, sEx, sRet, sRetN, sNx, sNo, sBrk, sCt, sIf, sPar, sPar3, sAsg, tgN, tgNil, tgCons, tgTup, Mm.R.bind, Mm.R.of, Mm.R.st, oAdd, oSub, mul_i, oDiv, oMod, oPow, oCmpI, oLt, oLe, oGt, oGe, oIs, oIsN, oEq, oNe, eqF, b64_of, oIx, seqOf, lstOf, cellItems, sStore, eSl, eO, oLen, oInt, oListOf, oTupOf, oMax, oMin, oSum, oGcd, intsOf, oIsi, tyName, oNeg, eM1, eM0, isLst, oApp, oExt, oPopAt, oPop, fin_i, fin_b, fin_n, fin_s, fin_t2, at0, at1, at2, at3, at4, cut1, ix0, ix1, ix2]) ?_
  refine seq_nx (e1 := [some (rD []), some (.int start), some (.int m), some (.ref S.length), none, none]) (st1 := S ++ [.lst []]) ?_ ?_
  · unfold sFor
    have e : iSeq (eV 0) [some (rD []), some (.int start), some (.int m), some (.ref S.length), none, none] (S ++ [.lst []]) = .ok ⟨[], fun _ => true⟩ (S ++ [.lst []]) := rfl
    rw [e]
    exact for_nil rfl
  · refine (ret_ok (st1 := S ++ [Cell.lst []] ++ Cell.lst ((seen [] start m).map .int) :: R2) (d := .tup ((seen [] start m).map .int)) ?_).trans (by simp)
    simp only [eN, aC, aN, c, Mm.R.bind, oTupOf, seqOf, g9, cellItems, Option.map, Mm.R.of]
theorem cells_any {r : List Nat} (h : Row r) (start m : Nat) (hm : m ≤ 5000) (S : Sto) : s__law_row_cells [rD r, .int start, .int m] S = .ok (.tup ((seen r start m).map .int)) S := by
  by_cases hne : r = []
  · subst hne; exact row_cells_nil start m hm S
  · exact row_cells_ok h hne start m hm S
/-! views -/
def win (c : List Int) (k i : Nat) : List Int := (c.drop i).take k
def viewsL (c : List Int) (k : Nat) : Nat → Nat → List (List Int) → List (List Int)
  | 0, _, acc => acc
  | j + 1, a, acc => viewsL c k j (a + 1) (if win c k a ∈ acc then acc else acc ++ [win c k a])
theorem views_mem (c : List Int) (k : Nat) (v : List Int) : ∀ (j a : Nat) (acc : List (List Int)), v ∈ viewsL c k j a acc ↔ v ∈ acc ∨ ∃ i, a ≤ i ∧ i < a + j ∧ v = win c k i
  | 0, a, acc => by
    unfold viewsL
    exact ⟨.inl, fun h => h.elim id fun ⟨i, h1, h2, _⟩ => by omega⟩
  | j + 1, a, acc => by
    rw [viewsL, views_mem c k v j (a + 1)]
    have e : v ∈ (if win c k a ∈ acc then acc else acc ++ [win c k a]) ↔ v ∈ acc ∨ v = win c k a := by
      split
      · rename_i h
        exact ⟨.inl, fun q => q.elim id fun e => e ▸ h⟩
      · rw [List.mem_append, List.mem_singleton]
    rw [e]
    constructor
    · rintro ((h | h) | ⟨i, h1, h2, h3⟩)
      · exact .inl h
      · exact .inr ⟨a, by omega, by omega, h⟩
      · exact .inr ⟨i, by omega, by omega, h3⟩
    · rintro (h | ⟨i, h1, h2, h3⟩)
      · exact .inl (.inl h)
      · by_cases e : i = a
        · subst e; exact .inl (.inr h3)
        · exact .inr ⟨i, by omega, by omega, h3⟩
theorem views_len (c : List Int) (k : Nat) : ∀ (j a : Nat) (acc : List (List Int)), (viewsL c k j a acc).length ≤ acc.length + j
  | 0, a, acc => Nat.le_refl _
  | j + 1, a, acc => by
    rw [viewsL]
    have := views_len c k j (a + 1) (if win c k a ∈ acc then acc else acc ++ [win c k a])
    split at this
    · rename_i h; rw [if_pos h]; omega
    · rename_i h; rw [if_neg h]; simp at this; omega
def encL (ls : List (List Int)) : List D := ls.map fun l => .tup (l.map .int)
theorem flat_encL : ∀ ls : List (List Int), flatDs (encL ls) = true
  | [] => rfl
  | l :: r => by
    have h := flat_encL r
    simp only [encL, List.map_cons, flatDs, flatD, flat_ints, Bool.true_and] at h ⊢
    exact h
theorem cut_both (ns : List Int) (a b : Nat) (h : a + b ≤ ns.length) : cutD (ns.map D.int) (some (a : Nat)) (some ((a : Nat) + (b : Nat) : Int)) = ((ns.drop a).take b).map .int := by
  have e : ((a : Nat) + (b : Nat) : Int) = ((a + b : Nat) : Int) := by omega
  rw [e]
  simp only [cutD, HT.sIx_nat, List.length_map, ← List.map_drop, ← List.map_take]
  rw [Nat.min_eq_left h, Nat.min_eq_left (show a ≤ ns.length by omega), show a + b - a = b by omega]
theorem in_list {st : Sto} {i : Nat} {ls : List (List Int)} {v : List Int} (hi : st[i]? = some (.lst (encL ls))) : inD (.tup (v.map .int)) (.ref i) st = some (decide (v ∈ ls)) := by
  have h1 : pyS st (.tup (v.map .int)) = some (.tuple (v.map .int)) := by simp only [pyS, py, pys_ints]; rfl
  have h2 : pyS st (.ref i) = some (.list (ls.map fun l => .tuple (l.map .int))) := by
    simp only [pyS, cellItems, hi]
    rw [encL, pys_tups]
    rfl
  have h3 : ((ls.map fun l => PySem.PyData.tuple (l.map .int)).any fun z => PySem.PyData.eqv z (.tuple (v.map .int))) = decide (v ∈ ls) := by
    rw [List.any_map, Bool.eq_iff_iff, List.any_eq_true, decide_eq_true_eq]
    constructor
    · rintro ⟨l, hl, he⟩
      simp only [Function.comp_apply, PySem.PyData.eqv, eqv_ints, decide_eq_true_eq] at he
      exact he ▸ hl
    · intro hv
      exact ⟨v, hv, by simp only [Function.comp_apply, PySem.PyData.eqv, eqv_ints, decide_true]⟩
  unfold inD
  rw [h1, h2]
  simp only [shaped_tints, shaped_tups, Bool.and_self, if_true, h3]
theorem view1 (k N : Nat) (c : List Int) (hc : c.length = N + k) (x1 x6 : Option D) (st : Sto) (a : Nat) (ha : a < N) (acc : List (List Int)) (hacc : acc.length ≤ 5000) :
    L1__law_row_views [some (.int (k : Nat)), x1, some (.int (N : Nat)), some (.ref st.length), some (.tup (c.map .int)), some (.int (a : Nat)), x6] (st ++ [Cell.lst (encL acc)])
      = .nx [some (.int (k : Nat)), x1, some (.int (N : Nat)), some (.ref st.length), some (.tup (c.map .int)), some (.int (a : Nat)), some (.tup ((win c k a).map .int))] (st ++ [Cell.lst (encL (if win c k a ∈ acc then acc else acc ++ [win c k a]))]) := by
  have c1 := cut_both c a k (by omega)
  have i1 := in_list (st := st ++ [Cell.lst (encL acc)]) (i := st.length) (ls := acc) (v := win c k a) (by simp)
  have l1 : (encL acc).length < lim := by simp [encL]; unfold lim; omega
  rw [L1__law_row_views_ap]
  rw [show (c.drop a).take k = win c k a from rfl] at c1
  have e9 : encL (acc ++ [win c k a]) = encL acc ++ [.tup ((win c k a).map .int)] := by simp [encL]
  by_cases hm : win c k a ∈ acc
  · rw [if_pos hm]
    rw [decide_eq_true hm] at i1
    generalize (win c k a).map D.int = V at *
    generalize c.map D.int = L at *
    simp [fnS, eV, eC, Mm.e1, Mm.e2, eN, aN, aC, eCall, eTup, eLst, eIf, eCh, eAndT, eOrT, eNotT, bB, bAnd, bOr, bNot, bTru, tru, sSeq, sSet, sEx, sRet, sRetN, sNx, sNo, sBrk, sCt, sIf, sPar, sPar3, sAsg, tgN, tgNil, tgCons, tgTup, Mm.R.bind, Mm.R.of, Mm.R.st, oAdd, oSub, mul_i, oDiv, oMod, oPow, oCmpI, oLt, oLe, oGt, oGe, oIs, oIsN, oEq, oNe, eqF, b64_of, oIx, seqOf, lstOf, cellItems, sStore, eSl, eO, oLen, oInt, oListOf, oTupOf, oMax, oMin, oSum, oGcd, intsOf, oIsi, tyName, oNeg, eM1, eM0, isLst, oApp, oExt, oPopAt, oPop, fin_i, fin_b, fin_n, fin_s, fin_t2, at0, at1, at2, at3, at4, cut1, ix0, ix1, ix2, c1, oNotIn, i1]
  · rw [if_neg hm, e9]
    rw [decide_eq_false hm] at i1
    generalize (win c k a).map D.int = V at *
    generalize c.map D.int = L at *
    generalize encL acc = A at *
    simp [fnS, eV, eC, Mm.e1, Mm.e2, eN, aN, aC, eCall, eTup, eLst, eIf, eCh, eAndT, eOrT, eNotT, bB, bAnd, bOr, bNot, bTru, tru, sSeq, sSet, sEx, sRet, sRetN, sNx, sNo, sBrk, sCt, sIf, sPar, sPar3, sAsg, tgN, tgNil, tgCons, tgTup, Mm.R.bind, Mm.R.of, Mm.R.st, oAdd, oSub, mul_i, oDiv, oMod, oPow, oCmpI, oLt, oLe, oGt, oGe, oIs, oIsN, oEq, oNe, eqF, b64_of, oIx, seqOf, lstOf, cellItems, sStore, eSl, eO, oLen, oInt, oListOf, oTupOf, oMax, oMin, oSum, oGcd, intsOf, oIsi, tyName, oNeg, eM1, eM0, isLst, oApp, oExt, oPopAt, oPop, fin_i, fin_b, fin_n, fin_s, fin_t2, at0, at1, at2, at3, at4, cut1, ix0, ix1, ix2, c1, oNotIn, i1, l1]
theorem view_loop (k N : Nat) (c : List Int) (hc : c.length = N + k) (hN : N ≤ 2400) (x1 : Option D) (st : Sto) : ∀ (j a : Nat) (x5 x6 : Option D) (acc : List (List Int)), a + j = N → acc.length ≤ a →
    ∃ y5 y6, forL (fun _ => true) (tgN 5) L1__law_row_views (intsUp (a : Nat) j) [some (.int (k : Nat)), x1, some (.int (N : Nat)), some (.ref st.length), some (.tup (c.map .int)), x5, x6] (st ++ [Cell.lst (encL acc)])
      = .nx [some (.int (k : Nat)), x1, some (.int (N : Nat)), some (.ref st.length), some (.tup (c.map .int)), y5, y6] (st ++ [Cell.lst (encL (viewsL c k j a acc))])
  | 0, a, x5, x6, acc, _, _ => ⟨x5, x6, for_nil rfl⟩
  | j + 1, a, x5, x6, acc, e, hl => by
    have h1 := view1 k N c hc x1 x6 st a (by omega) acc (by omega)
    obtain ⟨y5, y6, h2⟩ := view_loop k N c hc hN x1 st j (a + 1) (some (.int (a : Nat))) (some (.tup ((win c k a).map .int))) (if win c k a ∈ acc then acc else acc ++ [win c k a]) (by omega) (by
      split
      · omega
      · rw [List.length_append, List.length_singleton]; omega)
    refine ⟨y5, y6, ?_⟩
    rw [up_succ]
    exact for_nx rfl rfl h1 h2
def sizeR (r : List Nat) : Nat := if r.sum < 1 then 1 else r.sum
def viewsR (k : Nat) (r : List Nat) : List (List Int) := viewsL (seen r 0 (sizeR r + k)) k (sizeR r) 0 []
theorem size_le {r : List Nat} (h : Row r) : 1 ≤ sizeR r ∧ sizeR r ≤ 2376 := by
  have := row_sum h
  unfold sizeR
  split <;> omega
theorem seen_len (r : List Nat) (s m : Nat) : (seen r s m).length = m := by simp [seen]
theorem views_ok (k : Nat) (hk2 : k ≤ 60) (r : List Nat) (h : Row r) (st : Sto) : s__law_row_views [.int (k : Nat), rD r] st = .ok (.ref st.length) (st ++ [.lst (encL (viewsR k r))]) := by
  have hs := size_le h
  have g1 := cells_any h 0 (sizeR r + k) (by omega) (st ++ [.lst []])
  obtain ⟨y5, y6, g2⟩ := view_loop k (sizeR r) (seen r 0 (sizeR r + k)) (seen_len _ _ _) (by omega) (some (rD r)) st (sizeR r) 0 none none [] (by omega) (Nat.zero_le _)
  have hsum := zr_sum r
  have hmx : (if (1 : Int) > ((r.sum : Nat) : Int) then (1 : Int) else ((r.sum : Nat) : Int)) = ((sizeR r : Nat) : Int) := by
    unfold sizeR
    split <;> split <;> omega
  have hi := intsOf_mapT (zr r)
  have hb : bigR ((sizeR r : Nat) : Int) = true := decide_eq_true (by omega)
  refine fn_list (r := []) (flat_encL (viewsR k r)) ?_
  simp only [List.map_cons, List.map_nil, List.length_cons, List.length_nil, List.cons_append, List.nil_append, show 7 - (0 + 1 + 1) = 5 from rfl, List.replicate]
  have c0 : eN oMax (aC (eN oSum (aC (eV 1) aN)) (aC (eC (.int 1)) aN)) [some (.int (k : Nat)), some (rD r), none, none, none, none, none] st = .ok (.int (sizeR r : Nat)) st := by
    simp only [eN, aC, aN, eV, eC, Mm.R.bind, List.getElem?_cons_succ, List.getElem?_cons_zero, oSum, seqOf, hi, Option.bind, Option.map, hsum, Mm.R.of, oMax, hmx]
  refine seq_nx (e1 := [some (.int (k : Nat)), some (rD r), some (.int (sizeR r : Nat)), some (.ref st.length), none, none, none]) (st1 := st ++ [.lst []]) ?_ ?_
  · simp only [sPar, c0, eLst, aN, Mm.R.bind, Mm.R.st, List.set]
  refine seq_nx (e1 := [some (.int (k : Nat)), some (rD r), some (.int (sizeR r : Nat)), some (.ref st.length), some (.tup ((seen r 0 (sizeR r + k)).map .int)), none, none]) (st1 := st ++ [.lst []]) ?_ ?_
  · have e : ((sizeR r : Nat) : Int) + (k : Int) = ((sizeR r + k : Nat) : Int) := by omega
    refine set_ok (e := [some (.int (k : Nat)), some (rD r), some (.int (sizeR r : Nat)), some (.ref st.length), none, none, none]) ?_
    simp only [eCall, aC, aN, eV, eC, Mm.R.bind, List.getElem?_cons_succ, List.getElem?_cons_zero, Mm.e2, oAdd, Mm.R.of, e]
    exact g1
  refine seq_nx (e1 := [some (.int (k : Nat)), some (rD r), some (.int (sizeR r : Nat)), some (.ref st.length), some (.tup ((seen r 0 (sizeR r + k)).map .int)), y5, y6]) (st1 := st ++ [.lst (encL (viewsR k r))]) ?_ ?_
  · unfold sFor
    have e : iR1 (aC (eV 2) aN) [some (.int (k : Nat)), some (rD r), some (.int (sizeR r : Nat)), some (.ref st.length), some (.tup ((seen r 0 (sizeR r + k)).map .int)), none, none] (st ++ [.lst []]) = .ok ⟨intsUp 0 (sizeR r), fun _ => true⟩ (st ++ [.lst []]) := by
      simp only [iR1, aC, aN, eV, Mm.R.bind, List.getElem?_cons_succ, List.getElem?_cons_zero, hb, if_true, Int.toNat_natCast]
    rw [e]
    exact g2
  · rfl
end Gk05

namespace Gk05
open Mm
theorem ix_first {z : Int} : ∀ {v : List Int} {j : Nat}, v[j]? = some z → (∀ m, m < j → v[m]? ≠ some z) → ixOf z v = some j
  | [], j, h, _ => by simp at h
  | y :: v, 0, h, _ => by
    simp at h
    subst h
    simp [ixOf]
  | y :: v, j + 1, h, hn => by
    have h0 := hn 0 (by omega)
    have ih := ix_first (v := v) (j := j) (by simpa using h) (fun m hm => by have := hn (m + 1) (by omega); simpa using this)
    simp at h0
    unfold ixOf
    rw [if_neg h0, ih]
    rfl
def idx1 (v : List Int) : Int := (((ixOf 1 v).getD 0 : Nat) : Int) + 1
theorem win_get {r : List Nat} (hne : r ≠ []) (N k i : Nat) (hi : i + k ≤ N) : win (seen r 0 N) k i = (List.range k).map fun j => val r ((i + j) % r.sum) := by
  refine List.ext_getElem? fun j => ?_
  unfold win seen
  by_cases hj : j < k
  · rw [List.getElem?_take_of_lt hj, List.getElem?_drop, List.getElem?_map, List.getElem?_map, List.getElem?_range (show i + j < N by omega), List.getElem?_range hj]
    simp only [Option.map, if_neg hne, Nat.zero_add]
  · rw [List.getElem?_eq_none (by simp; omega), List.getElem?_eq_none (by simp; omega)]
theorem val_dot (r : List Nat) (i : Nat) : val r (i % r.sum) = if dotAt r i = true then 1 else 0 := rfl
theorem sum_win (r : List Nat) (i : Nat) : ∀ k : Nat, ((List.range k).map fun j => val r ((i + j) % r.sum)).sum = ((cnt (dotAt r) i k : Nat) : Int)
  | 0 => rfl
  | k + 1 => by
    rw [List.range_succ, List.map_append, List.sum_append, sum_win r i k, cnt]
    simp only [List.map_cons, List.map_nil, List.sum_cons, List.sum_nil, val_dot]
    split <;> simp
theorem ix_win (r : List Nat) (i k j : Nat) (hj : j < k) (hd : dotAt r (i + j) = true) (hn : ∀ m, m < k → m ≠ j → dotAt r (i + m) = false) : ixOf 1 ((List.range k).map fun j => val r ((i + j) % r.sum)) = some j := by
  refine ix_first ?_ fun m hm => ?_
  · rw [List.getElem?_map, List.getElem?_range hj]
    simp only [Option.map, val_dot, hd, if_true]
  · rw [List.getElem?_map, List.getElem?_range (show m < k by omega)]
    simp only [Option.map, val_dot, hn m (by omega) (by omega), Bool.false_eq_true, if_false]
    intro z
    cases z
theorem mem_views {k : Nat} {r : List Nat} {v : List Int} : v ∈ viewsR k r ↔ ∃ i, i < sizeR r ∧ v = win (seen r 0 (sizeR r + k)) k i := by
  unfold viewsR
  rw [views_mem]
  constructor
  · rintro (h | ⟨i, _, h2, h3⟩)
    · cases h
    · exact ⟨i, by omega, h3⟩
  · rintro ⟨i, h1, h2⟩
    exact .inr ⟨i, by omega, by omega, h2⟩
def fnd (k : Nat) (r : List Nat) : List Int := ((viewsR k r).filter fun v => decide (v.sum = 1)).map idx1
theorem view_one {k : Nat} {r : List Nat} (h : Row r) {v : List Int} (hv : v ∈ viewsR k r) (hs : v.sum = 1) : r ≠ [] ∧ ∃ i j, i < r.sum ∧ j < k ∧ cnt (dotAt r) i k = 1 ∧ dotAt r (i + j) = true ∧ ixOf 1 v = some j := by
  obtain ⟨i, hi, rfl⟩ := mem_views.mp hv
  by_cases hne : r = []
  · exfalso
    subst hne
    have : ∀ x ∈ win (seen [] 0 (sizeR [] + k)) k i, x = 0 := by
      intro x hx
      have h1 := List.mem_of_mem_drop (List.mem_of_mem_take hx)
      obtain ⟨_, _, rfl⟩ := List.mem_map.mp h1
      rfl
    have z : ∀ l : List Int, (∀ x ∈ l, x = 0) → l.sum = 0 := by
      intro l
      induction l with
      | nil => intro _; rfl
      | cons x l ih => intro hx; rw [List.sum_cons, hx x (by simp), ih fun y hy => hx y (by simp [hy])]; rfl
    rw [z _ this] at hs
    cases hs
  · have hpos := pos_sum r (row_pos h) hne
    have hN : sizeR r = r.sum := by unfold sizeR; rw [if_neg (by omega)]
    rw [win_get hne _ k i (by omega)] at hs ⊢
    rw [sum_win] at hs
    have hc : cnt (dotAt r) i k = 1 := by omega
    obtain ⟨j, h1, h2, h3⟩ := cnt_uni k hc
    exact ⟨hne, i, j, by omega, h1, hc, h2, ix_win r i k j h1 h2 h3⟩
theorem fnd_mem {k : Nat} {r : List Nat} (h : Row r) (x : Int) : x ∈ fnd k r ↔ x ∈ accL k r (List.range r.length) := by
  rw [acc_mem]
  unfold fnd
  rw [List.mem_map]
  constructor
  · rintro ⟨v, hv, rfl⟩
    rw [List.mem_filter, decide_eq_true_eq] at hv
    obtain ⟨hne, i, j, h1, h2, h3, h4, h5⟩ := view_one h hv.1 hv.2
    obtain ⟨a, ha, hp⟩ := (alone_iff (row_pos h) hne k (j + 1)).mpr ⟨by omega, by omega, i, h1, h3, by rw [Nat.add_sub_cancel]; exact h4⟩
    exact ⟨a, List.mem_range.mpr ha, j + 1, by simp [idx1, h5], hp⟩
  · rintro ⟨a, ha, p, rfl, hp⟩
    have ha := List.mem_range.mp ha
    have hne : r ≠ [] := by intro z; subst z; simp at ha
    have hpos := pos_sum r (row_pos h) hne
    obtain ⟨h1, h2, i, h3, h4, h5⟩ := (alone_iff (row_pos h) hne k p).mp ⟨a, ha, hp⟩
    have hN : sizeR r = r.sum := by unfold sizeR; rw [if_neg (by omega)]
    obtain ⟨j, g1, g2, g3⟩ := cnt_uni k h4
    have hjp : j = p - 1 := by
      rcases Nat.lt_trichotomy j (p - 1) with q | q | q
      · have := g3 (p - 1) (by omega) (by omega); rw [h5] at this; cases this
      · exact q
      · have := g3 (p - 1) (by omega) (by omega); rw [h5] at this; cases this
    refine ⟨win (seen r 0 (sizeR r + k)) k i, ?_, ?_⟩
    · rw [List.mem_filter, decide_eq_true_eq]
      refine ⟨mem_views.mpr ⟨i, by omega, rfl⟩, ?_⟩
      rw [win_get hne _ k i (by omega), sum_win, h4]
      rfl
    · rw [win_get hne _ k i (by omega)]
      simp only [idx1, ix_win r i k j g1 g2 g3, Option.getD]
      omega
theorem fnd_uni {k : Nat} {r : List Nat} (h : Row r) : uniL (fnd k r) = aloneL k r := srt_one (uniL_srt _) (uniL_srt _) fun x => by rw [uniL_mem, show aloneL k r = uniL (accL k r (List.range r.length)) from rfl, uniL_mem, fnd_mem h]
theorem found_loop (x0 x1 : Option D) (st : Sto) (V : Cell) (g : Sto → Bool) (hg : ∀ acc, g (st ++ Cell.lst acc :: [V]) = true) : ∀ (ls : List (List Int)) (acc : List Int) (x3 : Option D), (∀ v ∈ ls, v.sum = 1 → ∃ j, ixOf 1 v = some j) → acc.length + ls.length ≤ 5000 →
    ∃ y3, forL g (tgN 3) L1__law_row_alone (encL ls) [x0, x1, some (.ref st.length), x3] (st ++ Cell.lst (acc.map .int) :: [V])
      = .nx [x0, x1, some (.ref st.length), y3] (st ++ Cell.lst ((acc ++ (ls.filter fun v => decide (v.sum = 1)).map idx1).map .int) :: [V])
  | [], acc, x3, _, _ => ⟨x3, by rw [List.filter_nil, List.map_nil, List.append_nil]; exact for_nil (hg _)⟩
  | v :: ls, acc, x3, hv, hl => by
    simp only [List.length_cons] at hl
    have hi := intsOf_mapT v
    have l1 : (acc.map D.int).length < lim := by simp; unfold lim; omega
    by_cases h1 : v.sum = 1
    · obtain ⟨j, hj⟩ := hv v (by simp) h1
      obtain ⟨y3, ih⟩ := found_loop x0 x1 st V g hg ls (acc ++ [idx1 v]) (some (.tup (v.map .int))) (fun w hw => hv w (by simp [hw])) (by simp; omega)
      refine ⟨y3, ?_⟩
      rw [List.filter_cons, if_pos (decide_eq_true h1), List.map_cons, show acc ++ idx1 v :: (ls.filter fun v => decide (v.sum = 1)).map idx1 = acc ++ [idx1 v] ++ (ls.filter fun v => decide (v.sum = 1)).map idx1 by simp]
      refine for_nx (e1 := [x0, x1, some (.ref st.length), some (.tup (v.map .int))]) (hg _) rfl ?_ ih
      rw [L1__law_row_alone_ap]
      have e9 : (acc ++ [idx1 v]).map D.int = acc.map D.int ++ [.int (idx1 v)] := by simp
      have e8 : idx1 v = ((j : Nat) : Int) + 1 := by simp [idx1, hj]
      rw [e9, e8]
      generalize acc.map D.int = A at *
      have c1 : ∀ S : Sto, oIndex (.tup (v.map .int)) (.int 1) S = some (.int (j : Nat), S) := fun S => by simp only [oIndex, hi, hj, Option.map]
      have c2 : ∀ S : Sto, oSum [.tup (v.map .int)] S = some (.int 1, S) := fun S => by simp only [oSum, seqOf, hi, Option.bind, Option.map, h1]
      generalize v.map D.int = W at *
      simp [eM1, eMT, isTup, bB, Mm.e2, eN, aC, aN, eV, eC, Mm.R.bind, Mm.R.of, Mm.R.st, c1, c2, oEq, eqF, oAdd, sIf, sEx, oApp, isLst, lstOf, l1, tgN]
    · obtain ⟨y3, ih⟩ := found_loop x0 x1 st V g hg ls acc (some (.tup (v.map .int))) (fun w hw => hv w (by simp [hw])) (by omega)
      refine ⟨y3, ?_⟩
      rw [List.filter_cons, if_neg (by simpa using h1)]
      refine for_nx (hg _) rfl ?_ ih
      rw [L1__law_row_alone_ap]
      refine if_no ?_
      simp [bB, Mm.e2, eN, aC, aN, eV, eC, Mm.R.bind, Mm.R.of, oSum, seqOf, hi, oEq, eqF, h1, tgN]
theorem row_alone_ok (k : Nat) (hk2 : k ≤ 60) (r : List Nat) (h : Row r) (st : Sto) : s__law_row_alone [.int (k : Nat), rD r] st = .ok (.ref st.length) (st ++ [.lst ((aloneL k r).map .int)]) := by
  have hs := size_le h
  have g1 := views_ok k hk2 r h (st ++ [.lst []])
  have hvl : (viewsR k r).length ≤ 2376 := by
    have := views_len (seen r 0 (sizeR r + k)) k (sizeR r) 0 []
    unfold viewsR
    simp at this
    omega
  obtain ⟨y3, g2⟩ := found_loop (some (.int (k : Nat))) (some (rD r)) st (Cell.lst (encL (viewsR k r))) (fun q => decide (q[st.length + 1]? = (st ++ [Cell.lst [], Cell.lst (encL (viewsR k r))])[st.length + 1]?)) (fun acc => by simp [List.getElem?_append_right]) (viewsR k r) [] none (fun v hv h1 => by
    obtain ⟨_, i, j, _, _, _, _, e⟩ := view_one h hv h1
    exact ⟨j, e⟩) (by simp; omega)
  rw [List.nil_append] at g2
  have hu := fnd_uni (k := k) h
  have hfl : (fnd k r).length ≤ 2376 := by
    unfold fnd
    rw [List.length_map]
    exact Nat.le_trans (List.length_filter_le _ _) hvl
  have hcur : s__law_row_alone [.int (k : Nat), rD r] st = fin st (.ref (st.length + 2)) (st ++ [Cell.lst ((fnd k r).map .int), Cell.lst (encL (viewsR k r)), Cell.lst ((aloneL k r).map .int)]) := by
    refine fn_ret ?_ rfl
    simp only [List.map_cons, List.map_nil, List.length_cons, List.length_nil, List.cons_append, List.nil_append, show 4 - (0 + 1 + 1) = 2 from rfl, List.replicate]
    refine seq_nx (e1 := [some (.int (k : Nat)), some (rD r), some (.ref st.length), none]) (st1 := st ++ [.lst []]) (by simp [fnS, eV, eC, Mm.e1, Mm.e2, eN, aN, aC, eCall, eTup, eLst, eIf, eCh, eAndT, eOrT, eNotT, bB, bAnd, bOr, bNot, bTru, tru, sSeq, sSet, sEx, sRet, sRetN, sNx, sNo, sBrk, sCt, sIf, sPar, sPar3, sAsg, tgN, tgNil, tgCons, tgTup, Mm.R.bind, Mm.R.of, Mm.R.st, oAdd, oSub, mul_i, oDiv, oMod, oPow, oCmpI, oLt, oLe, oGt, oGe, oIs, oIsN, oEq, oNe, eqF, b64_of, oIx, seqOf, lstOf, cellItems, sStore, eSl, eO, oLen, oInt, oListOf, oTupOf, oMax, oMin, oSum, oGcd, intsOf, oIsi, tyName, oNeg, eM1, eM0, isLst, oApp, oExt, oPopAt, oPop, fin_i, fin_b, fin_n, fin_s, fin_t2, at0, at1, at2, at3, at4, cut1, ix0, ix1, ix2]) ?_
    refine seq_nx (e1 := [some (.int (k : Nat)), some (rD r), some (.ref st.length), y3]) (st1 := st ++ [Cell.lst ((fnd k r).map .int), Cell.lst (encL (viewsR k r))]) ?_ ?_
    · unfold sFor
      have e : iSeq (eCall s__law_row_views (aC (eV 0) (aC (eV 1) aN))) [some (.int (k : Nat)), some (rD r), some (.ref st.length), none] (st ++ [.lst []]) = .ok ⟨encL (viewsR k r), fun q => decide (q[st.length + 1]? = (st ++ [Cell.lst [], Cell.lst (encL (viewsR k r))])[st.length + 1]?)⟩ (st ++ [Cell.lst [], Cell.lst (encL (viewsR k r))]) := by
        refine seq_new (i := st.length + 1) ?_ (by simp [List.getElem?_append_right])
        simp only [eCall, aC, aN, eV, Mm.R.bind, List.getElem?_cons_succ, List.getElem?_cons_zero, g1]
        simp
      rw [e]
      exact g2
    · refine ret_ok ?_
      have c : (cellItems (st ++ [Cell.lst ((fnd k r).map .int), Cell.lst (encL (viewsR k r))])[st.length]?).bind intsOf = some (fnd k r) := by
        simp [cellItems, intsOf_mapT]
      have hf := uni_few (alone_in (k := k) (r := r) (by omega))
      have hlen64 : (aloneL k r).length < 64 := hf
      have h4000 : (fnd k r).length ≤ 4000 := by omega
      simp only [eN, aC, aN, eV, Mm.R.bind, List.getElem?_cons_succ, List.getElem?_cons_zero, oSSet, c, hu, hlen64, h4000, decide_true, Bool.and_self, if_true, Mm.R.of]
      simp
  rw [hcur]
  unfold fin
  rw [if_pos (.inl (by simp)), if_neg (by simp [lowD])]
  have g9 : (st ++ [Cell.lst ((fnd k r).map D.int), Cell.lst (encL (viewsR k r)), Cell.lst ((aloneL k r).map D.int)])[st.length + 2]? = some (.lst ((aloneL k r).map .int)) := by simp [List.getElem?_append_right]
  simp only [g9, lows_flat _ _ (flat_ints (aloneL k r)), if_true]
  simp
end Gk05

namespace Gk05
open Mm
theorem rng_srt (a : Int) (n : Nat) : (rng a n).Pairwise (· < ·) := by
  unfold rng
  refine List.pairwise_map.mpr (List.Pairwise.imp ?_ (List.pairwise_lt_range (n := n)))
  intro x y h
  omega
theorem pl_filter (k : Nat) (r : List Nat) (a : Nat) : (((List.range' 1 k).filter fun p => decide (firstP k r a ≤ p ∧ p ≤ lastP k r a)).map fun (p : Nat) => (p : Int)) = plL k r a := by
  refine srt_one ?_ (rng_srt _ _) fun x => ?_
  · refine List.pairwise_map.mpr (List.Pairwise.imp (R := fun (x y : Nat) => x < y) ?_ (List.Pairwise.filter _ (List.pairwise_lt_range' (s := 1) (n := k))))
    intro x y h
    omega
  · rw [pl_mem, List.mem_map]
    constructor
    · rintro ⟨p, hp, rfl⟩
      rw [List.mem_filter, decide_eq_true_eq] at hp
      exact ⟨p, rfl, (in_pl k r a p).mpr hp.2⟩
    · rintro ⟨p, rfl, hp⟩
      refine ⟨p, ?_, rfl⟩
      rw [List.mem_filter, decide_eq_true_eq, List.mem_range'_1]
      exact ⟨⟨hp.1, by have := hp.2.1; omega⟩, (in_pl k r a p).mp hp⟩
/-- rounds of cells ahead -/
def rounds (k : Nat) (r : List Nat) : Nat := if 0 < r.sum then k / r.sum + 1 else 0
def farLen (k : Nat) (r : List Nat) : Nat := rounds k r * r.sum + r.sum + k
theorem rounds_big (k : Nat) (r : List Nat) (h : 0 < r.sum) : k < rounds k r * r.sum ∧ rounds k r * r.sum ≤ k + r.sum := by
  unfold rounds
  rw [if_pos h, Nat.succ_mul]
  have h1 := Nat.div_add_mod k r.sum
  have h2 := Nat.mod_lt k h
  rw [Nat.mul_comm] at h1
  omega
theorem far_le (k : Nat) (hk : k ≤ 60) (r : List Nat) (h : Row r) : farLen k r ≤ 5000 := by
  have hs := row_sum h
  unfold farLen
  by_cases h0 : 0 < r.sum
  · have := (rounds_big k r h0).2
    omega
  · have : r.sum = 0 := by omega
    rw [this]
    omega
/-- one window's sum -/
theorem win_sum (k : Nat) (r : List Nat) (h : Row r) (a : Nat) (ha : a < r.length) (p : Nat) (h1 : 1 ≤ p) (h2 : p ≤ k) :
    decide ((win (seen r 0 (farLen k r)) k (rounds k r * r.sum + here r a + 1 - p)).sum = 1) = decide (firstP k r a ≤ p ∧ p ≤ lastP k r a) ∧ rounds k r * r.sum + here r a + 1 - p + k ≤ farLen k r ∧ p ≤ rounds k r * r.sum + here r a + 1 := by
  have hne : r ≠ [] := by intro z; subst z; simp at ha
  have hpos := pos_sum r (row_pos h) hne
  have hb := rounds_big k r hpos
  have hl := here_lt (row_pos h) ha
  have hbd : rounds k r * r.sum + here r a + 1 - p + k ≤ farLen k r := by unfold farLen; omega
  refine ⟨?_, hbd, by omega⟩
  rw [win_get hne _ k _ hbd, sum_win]
  have hq : rounds k r = k / r.sum + 1 := by unfold rounds; rw [if_pos hpos]
  have hw := win_iff (row_pos h) ha (k / r.sum) k p h1 h2 (by rw [← hq]; omega)
  rw [← hq] at hw
  rw [Bool.eq_iff_iff, decide_eq_true_eq, decide_eq_true_eq, ← in_pl]
  unfold inPl
  constructor
  · intro q
    have := hw.mp (by omega)
    exact ⟨h1, h2, this.1, this.2⟩
  · rintro ⟨_, _, q1, q2⟩
    have := hw.mpr ⟨q1, q2⟩
    omega
def refs (n : Nat) (a : Nat) : List D := (List.range a).map fun b => D.ref (n + 1 + b)
def plCells (k : Nat) (r : List Nat) (a : Nat) : Sto := (List.range a).map fun b => Cell.lst ((plL k r b).map D.int)
def stP (st : Sto) (k : Nat) (r : List Nat) (a : Nat) : Sto := st ++ Cell.lst (refs st.length a) :: plCells k r a
theorem stP_len (st : Sto) (k : Nat) (r : List Nat) (a : Nat) : (stP st k r a).length = st.length + 1 + a := by simp [stP, plCells]; omega
theorem stP_get (st : Sto) (k : Nat) (r : List Nat) (a b : Nat) (h : b < a) : (stP st k r a)[st.length + 1 + b]? = some (Cell.lst ((plL k r b).map .int)) := by
  unfold stP
  rw [List.getElem?_append_right (by omega), show st.length + 1 + b - st.length = b + 1 by omega, List.getElem?_cons_succ]
  unfold plCells
  rw [List.getElem?_map, List.getElem?_range h]
  rfl
theorem stP_succ (st : Sto) (k : Nat) (r : List Nat) (a : Nat) : (stP st k r a ++ [Cell.lst ((plL k r a).map D.int)]).set st.length (Cell.lst (refs st.length a ++ [.ref (st.length + 1 + a)])) = stP st k r (a + 1) := by
  unfold stP
  rw [List.append_assoc, List.cons_append, app_set]
  congr 1
  simp [refs, plCells, List.range_succ]
theorem place1 (k : Nat) (hk1 : 1 ≤ k) (hk : k ≤ 60) (r : List Nat) (h : Row r) (a : Nat) (ha : a < r.length) (st : Sto) (x8 x9 x10 : Option D) :
    ∃ y8 y9, L1__law_places [some (.int (k : Nat)), some (rD r), some (.ref st.length), some (.int (here r a : Nat)), some (.int (r.sum : Nat)), some (.int (rounds k r : Nat)), some (.tup ((seen r 0 (farLen k r)).map .int)), some (.int (r.getD a 0 : Nat)), x8, x9, x10] (stP st k r a)
      = .nx [some (.int (k : Nat)), some (rD r), some (.ref st.length), some (.int (here r (a + 1) : Nat)), some (.int (r.sum : Nat)), some (.int (rounds k r : Nat)), some (.tup ((seen r 0 (farLen k r)).map .int)), some (.int (r.getD a 0 : Nat)), y8, y9, x10] (stP st k r (a + 1)) := by
  have hs := row_sum h
  have hb : bigR ((k : Int) + 1) = true := decide_eq_true (by omega)
  have hlen := h.1
  have hhs := here_succ ha
  refine ⟨some (.int ((rounds k r * r.sum + here r a : Nat) : Int)), some (.ref (st.length + 1 + a)), ?_⟩
  rw [L1__law_places_ap]
  have e0 : ((rounds k r : Nat) : Int) * ((r.sum : Nat) : Int) + ((here r a : Nat) : Int) = ((rounds k r * r.sum + here r a : Nat) : Int) := by
    rw [Int.natCast_add, Int.natCast_mul]
  have bm : b64 ((r.sum : Nat) : Int) = true := b64_nat (by omega)
  refine seq_nx (e1 := [some (.int (k : Nat)), some (rD r), some (.ref st.length), some (.int (here r a : Nat)), some (.int (r.sum : Nat)), some (.int (rounds k r : Nat)), some (.tup ((seen r 0 (farLen k r)).map .int)), some (.int (r.getD a 0 : Nat)), some (.int ((rounds k r * r.sum + here r a : Nat) : Int)), x9, x10]) (st1 := stP st k r a) ?_ ?_
  · refine (set_ok (i := 8) (d := .int ((rounds k r * r.sum + here r a : Nat) : Int)) (st1 := stP st k r a) ?_).trans rfl
    simp only [Mm.e2, eV, Mm.R.bind, List.getElem?_cons_succ, List.getElem?_cons_zero, oMul, bm, Bool.or_true, if_true, Mm.R.of, oAdd, e0]
  have c1 := lc_pure (own := [10]) (t := tgN 10) (c := I1__law_places) (f := E1__law_places) (e := [some (.int (k : Nat)), some (rD r), some (.ref st.length), some (.int (here r a : Nat)), some (.int (r.sum : Nat)), some (.int (rounds k r : Nat)), some (.tup ((seen r 0 (farLen k r)).map .int)), some (.int (r.getD a 0 : Nat)), some (.int ((rounds k r * r.sum + here r a : Nat) : Int)), x9, x10]) (st := stP st k r a) (st1 := stP st k r a) (src := iR2 (aC (eC (.int 1)) (aC (e2 oAdd (eV 0) (eC (.int 1))) aN))) (g := fun _ => true) (ds := (List.range' 1 k).map fun (i : Nat) => D.int i)
    (fun d => match d with | .int p => decide (firstP k r a ≤ p.toNat ∧ p.toNat ≤ lastP k r a) | _ => false) (fun d => d) (by
      simp only [iR2, aC, aN, eC, eV, Mm.e2, oAdd, Mm.R.bind, Mm.R.of, List.getElem?_cons_succ, List.getElem?_cons_zero, hb, show bigR 1 = true from rfl, Bool.and_self, if_true]
      rw [show ((k : Int) + 1 - 1).toNat = k by omega, ← ups_range k 1]
      rfl) (fun _ => rfl) (by simp; unfold lim; omega) (fun d hd => by
    obtain ⟨p, hp, rfl⟩ := List.mem_map.mp hd
    have hp2 := List.mem_range'_1.mp hp
    have hw := win_sum k r h a ha p hp2.1 (by omega)
    refine ⟨[some (.int (k : Nat)), some (rD r), some (.ref st.length), some (.int (here r a : Nat)), some (.int (r.sum : Nat)), some (.int (rounds k r : Nat)), some (.tup ((seen r 0 (farLen k r)).map .int)), some (.int (r.getD a 0 : Nat)), some (.int ((rounds k r * r.sum + here r a : Nat) : Int)), x9, some (.int (p : Nat))], rfl, fun acc => ?_, fun _ acc => by rw [E1__law_places_ap]; rfl⟩
    rw [I1__law_places_ap]
    simp only [Int.toNat_natCast]
    rw [← hw.1]
    have c2 := cut_both (seen r 0 (farLen k r)) (rounds k r * r.sum + here r a + 1 - p) k (by rw [seen_len]; exact hw.2.1)
    have e2 : ((rounds k r * r.sum + here r a : Nat) : Int) + 1 - (p : Int) = ((rounds k r * r.sum + here r a + 1 - p : Nat) : Int) := by omega
    have hi := intsOf_mapT (win (seen r 0 (farLen k r)) k (rounds k r * r.sum + here r a + 1 - p))
    rw [show ((seen r 0 (farLen k r)).drop (rounds k r * r.sum + here r a + 1 - p)).take k = win (seen r 0 (farLen k r)) k (rounds k r * r.sum + here r a + 1 - p) from rfl] at c2
    generalize win (seen r 0 (farLen k r)) k (rounds k r * r.sum + here r a + 1 - p) = W at *
    simp only [bB, Mm.e2, eN, aC, aN, eSl, eV, eC, Mm.R.bind, List.getElem?_cons_succ, List.getElem?_cons_zero, oAdd, oSub, Mm.R.of, e2, c2, oSum, seqOf, hi, Option.bind, Option.map, oEq, eqF])
  have hfl : (((List.range' 1 k).map fun (i : Nat) => D.int i).filter fun d => match d with | .int p => decide (firstP k r a ≤ p.toNat ∧ p.toNat ≤ lastP k r a) | _ => false).map (fun d => d) = (plL k r a).map .int := by
    rw [List.map_id', List.filter_map, ← pl_filter, List.map_map]
    rfl
  rw [hfl, stP_len] at c1
  refine seq_nx (set_ok c1) ?_
  simp only [List.set]
  have hget : (stP st k r a ++ [Cell.lst ((plL k r a).map D.int)])[st.length]? = some (Cell.lst (refs st.length a)) := by
    unfold stP
    simp
  have l1 : (refs st.length a).length < lim := by simp [refs]; unfold lim; omega
  have hset := stP_succ st k r a
  refine seq_nx (e1 := [some (.int (k : Nat)), some (rD r), some (.ref st.length), some (.int (here r a : Nat)), some (.int (r.sum : Nat)), some (.int (rounds k r : Nat)), some (.tup ((seen r 0 (farLen k r)).map .int)), some (.int (r.getD a 0 : Nat)), some (.int ((rounds k r * r.sum + here r a : Nat) : Int)), some (.ref (st.length + 1 + a)), x10]) (st1 := stP st k r (a + 1)) ?_ ?_
  · simp only [sEx, eM1, eV, Mm.R.bind, List.getElem?_cons_succ, List.getElem?_cons_zero, isLst, lstOf, hget, Option.isSome, if_true, oApp, l1, Mm.R.of, hset]
    rfl
  · refine (set_ok (i := 3) (d := .int (here r (a + 1) : Nat)) (st1 := stP st k r (a + 1)) ?_).trans rfl
    simp only [Mm.e2, eV, Mm.R.bind, List.getElem?_cons_succ, List.getElem?_cons_zero, oAdd, Mm.R.of, hhs, Int.natCast_add]
theorem place_loop (k : Nat) (hk1 : 1 ≤ k) (hk : k ≤ 60) (r : List Nat) (h : Row r) (st : Sto) : ∀ (j a : Nat) (x7 x8 x9 x10 : Option D), a + j = r.length →
    ∃ y7 y8 y9, forL (fun _ => true) (tgN 7) L1__law_places ((zr (r.drop a)).map .int) [some (.int (k : Nat)), some (rD r), some (.ref st.length), some (.int (here r a : Nat)), some (.int (r.sum : Nat)), some (.int (rounds k r : Nat)), some (.tup ((seen r 0 (farLen k r)).map .int)), x7, x8, x9, x10] (stP st k r a)
      = .nx [some (.int (k : Nat)), some (rD r), some (.ref st.length), some (.int (here r r.length : Nat)), some (.int (r.sum : Nat)), some (.int (rounds k r : Nat)), some (.tup ((seen r 0 (farLen k r)).map .int)), y7, y8, y9, x10] (stP st k r r.length)
  | 0, a, x7, x8, x9, x10, e => by
    have : a = r.length := by omega
    subst this
    refine ⟨x7, x8, x9, ?_⟩
    rw [List.drop_length]
    exact for_nil rfl
  | j + 1, a, x7, x8, x9, x10, e => by
    have ha : a < r.length := by omega
    obtain ⟨y8, y9, h1⟩ := place1 k hk1 hk r h a ha st x8 x9 x10
    obtain ⟨z7, z8, z9, h2⟩ := place_loop k hk1 hk r h st j (a + 1) (some (.int (r.getD a 0 : Nat))) y8 y9 x10 (by omega)
    refine ⟨z7, z8, z9, ?_⟩
    have e2 : (zr (r.drop a)).map D.int = .int (r.getD a 0 : Nat) :: (zr (r.drop (a + 1))).map .int := by
      rw [List.drop_eq_getElem_cons ha, show r.getD a 0 = r[a] by simp [List.getD, ha]]
      rfl
    rw [e2]
    exact for_nx rfl rfl h1 h2
theorem places_ok (k : Nat) (hk1 : 1 ≤ k) (hk : k ≤ 60) (r : List Nat) (h : Row r) (st : Sto) : s__law_places [.int (k : Nat), rD r] st = .ok (.ref st.length) (stP st k r r.length) := by
  have hs := row_sum h
  obtain ⟨y7, y8, y9, g1⟩ := place_loop k hk1 hk r h st r.length 0 none none none none (by omega)
  rw [List.drop_zero] at g1
  have g2 := cells_any h 0 (farLen k r) (far_le k hk r h) (st ++ [.lst []])
  have h0 : stP st k r 0 = st ++ [.lst []] := by simp [stP, refs, plCells]
  rw [h0] at g1
  have hi := intsOf_mapT (zr r)
  have hsum := zr_sum r
  have hr : ∀ (x2 x3 x6 x7 x8 x9 x10 : Option D) (S : Sto), eIf (bB (e2 oGt (eV 4) (eC (.int 0)))) (e2 oAdd (e2 oDiv (eV 0) (eV 4)) (eC (.int 1))) (eC (.int 0)) [some (.int (k : Nat)), some (rD r), x2, x3, some (.int (r.sum : Nat)), none, x6, x7, x8, x9, x10] S = .ok (.int (rounds k r : Nat)) S := by
    intro x2 x3 x6 x7 x8 x9 x10 S
    have f1 := fdiv_nat k r.sum
    unfold rounds
    generalize rD r = D0
    by_cases h0 : 0 < r.sum
    · have h1 : ((r.sum : Nat) : Int) ≠ 0 := by omega
      have h2 : ((r.sum : Nat) : Int).natAbs < 1073741824 := by omega
      have h3 : (0 : Int) < ((r.sum : Nat) : Int) := by omega
      rw [if_pos h0]
      generalize ((r.sum : Nat) : Int) = Z at *
      generalize k / r.sum = q at *
      simp [eIf, bB, Mm.e2, eV, eC, Mm.R.bind, Mm.R.of, oGt, oCmpI, h3, oDiv, h1, h2, f1, oAdd]
    · have h3 : ¬ (0 : Int) < ((r.sum : Nat) : Int) := by omega
      rw [if_neg h0]
      generalize ((r.sum : Nat) : Int) = Z at *
      simp [eIf, bB, Mm.e2, eV, eC, Mm.R.bind, Mm.R.of, oGt, oCmpI, h3]
  refine fn_ret (d := .ref st.length) (st' := stP st k r r.length) ?_ ?_
  · simp only [List.map_cons, List.map_nil, List.length_cons, List.length_nil, List.cons_append, List.nil_append, show 11 - (0 + 1 + 1) = 9 from rfl, List.replicate]
    refine seq_nx (e1 := [some (.int (k : Nat)), some (rD r), some (.ref st.length), some (.int (0 : Nat)), some (.int (r.sum : Nat)), none, none, none, none, none, none]) (st1 := st ++ [.lst []]) ?_ ?_
    · simp only [sPar3, eLst, aN, eC, eN, aC, eV, Mm.R.bind, Mm.R.st, List.getElem?_cons_succ, List.getElem?_cons_zero, oSum, seqOf, hi, Option.bind, Option.map, hsum, Mm.R.of, List.set]
      rfl
    refine seq_nx (e1 := [some (.int (k : Nat)), some (rD r), some (.ref st.length), some (.int (0 : Nat)), some (.int (r.sum : Nat)), some (.int (rounds k r : Nat)), none, none, none, none, none]) (st1 := st ++ [.lst []]) (set_ok (hr _ _ _ _ _ _ _ _)) ?_
    refine seq_nx (e1 := [some (.int (k : Nat)), some (rD r), some (.ref st.length), some (.int (0 : Nat)), some (.int (r.sum : Nat)), some (.int (rounds k r : Nat)), some (.tup ((seen r 0 (farLen k r)).map .int)), none, none, none, none]) (st1 := st ++ [.lst []]) ?_ ?_
    · have bm : b64 ((r.sum : Nat) : Int) = true := b64_nat (by omega)
      have e : ((rounds k r : Nat) : Int) * ((r.sum : Nat) : Int) + ((r.sum : Nat) : Int) + ((k : Nat) : Int) = ((farLen k r : Nat) : Int) := by
        unfold farLen
        rw [Int.natCast_add, Int.natCast_add, Int.natCast_mul]
      refine set_ok (e := [some (.int (k : Nat)), some (rD r), some (.ref st.length), some (.int (0 : Nat)), some (.int (r.sum : Nat)), some (.int (rounds k r : Nat)), none, none, none, none, none]) ?_
      simp only [eCall, aC, aN, eV, eC, Mm.R.bind, List.getElem?_cons_succ, List.getElem?_cons_zero, Mm.e2, oMul, bm, Bool.or_true, if_true, oAdd, Mm.R.of, e]
      exact g2
    refine seq_nx (e1 := [some (.int (k : Nat)), some (rD r), some (.ref st.length), some (.int (here r r.length : Nat)), some (.int (r.sum : Nat)), some (.int (rounds k r : Nat)), some (.tup ((seen r 0 (farLen k r)).map .int)), y7, y8, y9, none]) (st1 := stP st k r r.length) ?_ ?_
    · unfold sFor
      have e : iSeq (eV 1) [some (.int (k : Nat)), some (rD r), some (.ref st.length), some (.int (0 : Nat)), some (.int (r.sum : Nat)), some (.int (rounds k r : Nat)), some (.tup ((seen r 0 (farLen k r)).map .int)), none, none, none, none] (st ++ [.lst []]) = .ok ⟨(zr r).map .int, fun _ => true⟩ (st ++ [.lst []]) := rfl
      rw [e]
      exact g1
    · rfl
  · have hg : (stP st k r r.length)[st.length]? = some (.lst (refs st.length r.length)) := by unfold stP; exact app_get
    have ht : (stP st k r r.length).take st.length = st := by unfold stP; simp
    unfold fin
    rw [if_pos (.inl ht), if_neg (by simp [lowD])]
    simp only [hg, ht]
    split
    · rename_i hl
      cases hr2 : r.length with
      | zero => simp [stP, refs, plCells]
      | succ n =>
        rw [hr2] at hl
        simp [refs, List.range_succ_eq_map, lowDs, lowD] at hl
        exact absurd hl.1 (by omega)
    · rfl
end Gk05

namespace Gk05
open Mm
theorem low_app {n : Nat} {a b : Sto} : lowS n (a ++ b) = (lowS n a && lowS n b) := by simp [lowS, List.all_append]
theorem low_up {n m : Nat} (h : n ≤ m) {st : Sto} (q : lowS n st = true) : lowS m st = true := by
  simp only [lowS] at q ⊢
  rw [List.all_eq_true] at q ⊢
  exact fun c hc => lowC_mono h c (q c hc)
theorem low_flatc {n : Nat} {xs : List D} (h : flatDs xs = true) : lowS n [Cell.lst xs] = true := by
  simp only [lowS, List.all_cons, List.all_nil, lowC, lows_flat _ _ h, Bool.and_self]
/-- k and a row as they are drawn -/
theorem scene_ok {rest st : Sto} (hp : Pst rest st) (hr : lowS (4 + rest.length) rest = true) :
    ∃ (k : Nat) (r : List Nat) (st' : Sto), s__law_scene [.ref 3] st = .ok (.tup [.int (k : Nat), rD r]) st' ∧ 1 ≤ k ∧ k ≤ 60 ∧ Row r ∧ Pst rest st' := by
  have back : ∀ ns : List Int, (∀ x ∈ ns, 1 ≤ x ∧ x ≤ 99) → ∃ r : List Nat, zr r = ns ∧ r.length = ns.length ∧ ∀ x ∈ r, 1 ≤ x ∧ x ≤ 99 := by
    intro ns h
    refine ⟨ns.map Int.toNat, ?_, by simp, fun x hx => ?_⟩
    · simp only [zr, List.map_map]
      conv => rhs; rw [← List.map_id ns]
      refine List.map_congr_left fun x hx => ?_
      have := h x hx
      simp only [Function.comp_apply, id]
      omega
    · obtain ⟨y, hy, rfl⟩ := List.mem_map.mp hx
      have := h y hy
      omega
  -- the first: k
  have hk : ∃ (k : Nat) (R : Sto) (s1 : Sto), eIf (bB (e2 oGt (eCall s__law_draw (aC (eV 0) (aC (eC (.int 12)) aN))) (eC (.int 0)))) (eCall s__law_pick (aC (eV 0) (aC (eLst (aC (eC (.int 1)) (aC (eC (.int 2)) (aC (eC (.int 3)) (aC (eC (.int 3)) (aC (eC (.int 4)) (aC (eC (.int 5)) (aC (eC (.int 6)) (aC (eC (.int 7)) (aC (e2 oAdd (eC (.int 2)) (eCall s__law_draw (aC (eV 0) (aC (eC (.int 11)) aN)))) aN)))))))))) aN))) (e2 oAdd (eC (.int 13)) (eCall s__law_draw (aC (eV 0) (aC (eC (.int 48)) aN)))) [some (.ref 3), none, none] st = .ok (.int (k : Nat)) s1 ∧ 1 ≤ k ∧ k ≤ 60 ∧ Pst (rest ++ R) s1 ∧ lowS (4 + (rest ++ R).length) (rest ++ R) = true := by
    obtain ⟨v1, s1, p1, a1, b1, q1⟩ := draw_ok (many := 12) hp hr (by decide) (by decide)
    by_cases h0 : 0 < v1
    · obtain ⟨v2, s2, p2, a2, b2, q2⟩ := draw_ok (many := 11) q1 hr (by decide) (by decide)
      have hl2 := pst_len q2
      have q3 := pst_push q2 [Cell.lst (([1, 2, 3, 3, 4, 5, 6, 7, 2 + v2] : List Int).map D.int)]
      have hl3 : lowS (4 + (rest ++ [Cell.lst (([1, 2, 3, 3, 4, 5, 6, 7, 2 + v2] : List Int).map D.int)]).length) (rest ++ [Cell.lst (([1, 2, 3, 3, 4, 5, 6, 7, 2 + v2] : List Int).map D.int)]) = true := by
        have := lowS_push hr (flat_ints [1, 2, 3, 3, 4, 5, 6, 7, 2 + v2])
        simpa [Nat.add_assoc] using this
      obtain ⟨k, s3, m3, p3, q4⟩ := pick_ok [1, 2, 3, 3, 4, 5, 6, 7, 2 + v2] q3 hl3 (by simp) (by simp)
      have hkb : 1 ≤ k ∧ k ≤ 60 := by
        simp only [List.mem_cons, List.not_mem_nil, or_false] at m3
        omega
      refine ⟨k.toNat, _, s3, ?_, by omega, by omega, q4, hl3⟩
      rw [show ((k.toNat : Nat) : Int) = k by omega]
      simp only [List.map_cons, List.map_nil] at p3
      simp [eIf, bB, Mm.e2, eCall, aC, aN, eV, eC, Mm.R.bind, Mm.R.of, p1, oGt, oCmpI, h0, eLst, p2, oAdd, hl2, p3]
    · obtain ⟨v2, s2, p2, a2, b2, q2⟩ := draw_ok (many := 48) q1 hr (by decide) (by decide)
      refine ⟨(13 + v2).toNat, [], s2, ?_, by omega, by omega, by simpa using q2, by simpa using hr⟩
      rw [show (((13 + v2).toNat : Nat) : Int) = 13 + v2 by omega]
      simp [eIf, bB, Mm.e2, eCall, aC, aN, eV, eC, Mm.R.bind, Mm.R.of, p1, oGt, oCmpI, h0, p2, oAdd]
  obtain ⟨k, R, s1, p1, k1, k2, q1, l1⟩ := hk
  obtain ⟨way, s2, p2, a2, b2, q2⟩ := draw_ok (many := 5) q1 l1 (by decide) (by decide)
  have drawn : ∀ gaps : Int, 1 ≤ gaps → gaps ≤ 8 → ∃ (r : List Nat) (s3 : Sto), s__law_row_drawn [.ref 3, .int gaps, .int (k : Nat)] s2 = .ok (rD r) s3 ∧ (r.length : Int) ≤ 2 * gaps ∧ (∀ x ∈ r, 1 ≤ x ∧ x ≤ 99) ∧ Pst (rest ++ R) s3 := by
    intro gaps g1 g2
    obtain ⟨ns, s3, p3, n1, n2, n3, q3⟩ := drawn_ok q2 l1 gaps (k : Nat) g1 (by omega) (by omega) (by omega)
    obtain ⟨r, e1, e2, e3⟩ := back ns n3
    refine ⟨r, s3, by rw [p3, rD, e1], by omega, e3, q3⟩
  have close : ∀ (r : List Nat) (s3 : Sto), Row r → Pst (rest ++ R) s3 → (sSeq (sIf (bB (e2 oEq (eV 2) (eC (.int 0)))) (sRet (eTup (aC (eV 1) (aC (e2 oAdd (eTup (aC (eV 1) aN)) (eCall s__law_row_drawn (aC (eV 0) (aC (eC (.int 3)) (aC (eV 1) aN))))) aN)))) sNx) (sSeq (sIf (bB (e2 oEq (eV 2) (eC (.int 1)))) (sRet (eTup (aC (eV 1) (aC (e2 oAdd (eCall s__law_row_drawn (aC (eV 0) (aC (eC (.int 3)) (aC (eV 1) aN)))) (eTup (aC (eN oMin (aC (e2 oAdd (eV 1) (eC (.int 1))) (aC (eC (.int 99)) aN))) aN))) aN)))) sNx) (sRet (eTup (aC (eV 1) (aC (eCall s__law_row_drawn (aC (eV 0) (aC (eC (.int 8)) (aC (eV 1) aN)))) aN)))))) [some (.ref 3), some (.int (k : Nat)), some (.int way)] s2 = .ret (.tup [.int (k : Nat), rD r]) s3 →
      ∃ (k' : Nat) (r : List Nat) (st' : Sto), s__law_scene [.ref 3] st = .ok (.tup [.int (k' : Nat), rD r]) st' ∧ 1 ≤ k' ∧ k' ≤ 60 ∧ Row r ∧ Pst rest st' := by
    intro r s3 hrow q3 hb
    obtain ⟨st2, f1, f2⟩ := fin_pst (d := .tup [.int (k : Nat), rD r]) hp hr q3 (by simp only [flatD, flatDs, flat_ints, Bool.and_self])
    refine ⟨k, r, st2, fn_ret ?_ f1, k1, k2, hrow, f2⟩
    refine seq_nx (e1 := [some (.ref 3), some (.int (k : Nat)), none]) (st1 := s1) (set_ok p1) ?_
    refine seq_nx (e1 := [some (.ref 3), some (.int (k : Nat)), some (.int way)]) (st1 := s2) ?_ hb
    refine (set_ok (i := 2) (d := .int way) (st1 := s2) ?_).trans rfl
    simp only [eCall, aC, aN, eV, eC, Mm.R.bind, List.getElem?_cons_succ, List.getElem?_cons_zero, p2]
  by_cases w0 : way = 0
  · obtain ⟨r, s3, p3, n1, n2, q3⟩ := drawn 3 (by decide) (by decide)
    refine close (k :: r) s3 ⟨by simp only [List.length_cons]; omega, fun x hx => ?_⟩ q3 ?_
    · rcases List.mem_cons.mp hx with rfl | hx
      · omega
      · exact n2 x hx
    · have hl : ([D.int (k : Nat)] : List D).length + ((zr r).map D.int).length ≤ lim := by simp; unfold lim; omega
      refine seq_ret ?_
      have e : (D.tup [.int (k : Nat), rD (k :: r)]) = .tup [.int (k : Nat), .tup ([.int (k : Nat)] ++ (zr r).map .int)] := rfl
      rw [e]
      delta rD at p3
      generalize (zr r).map D.int = L at *
      subst w0
      simp only [List.length_cons, List.length_nil] at hl
      simp [sIf, bB, Mm.e2, eCall, aC, aN, eV, eC, Mm.R.bind, Mm.R.of, Mm.R.st, oEq, eqF, sRet, eTup, oAdd, p3, show 1 + L.length ≤ lim by omega]
  · by_cases w1 : way = 1
    · obtain ⟨r, s3, p3, n1, n2, q3⟩ := drawn 3 (by decide) (by decide)
      refine close (r ++ [k + 1]) s3 ⟨by simp only [List.length_append, List.length_singleton]; omega, fun x hx => ?_⟩ q3 ?_
      · rcases List.mem_append.mp hx with hx | hx
        · exact n2 x hx
        · rw [List.mem_singleton.mp hx]; omega
      · have hl : ((zr r).map D.int).length + 1 ≤ lim := by simp; unfold lim; omega
        have hmin : (if (99 : Int) < ((k : Nat) : Int) + 1 then (99 : Int) else ((k : Nat) : Int) + 1) = ((k + 1 : Nat) : Int) := by rw [if_neg (by omega)]; omega
        refine seq_if (by simp [bB, Mm.e2, eV, eC, Mm.R.bind, Mm.R.of, oEq, eqF, w0]) (seq_ret ?_)
        have e : (D.tup [.int (k : Nat), rD (r ++ [k + 1])]) = .tup [.int (k : Nat), .tup ((zr r).map .int ++ [.int ((k + 1 : Nat) : Int)])] := by simp [rD, zr]
        rw [e]
        delta rD at p3
        generalize (zr r).map D.int = L at *
        subst w1
        simp only [sIf, bB, Mm.e2, eCall, aC, aN, eV, eC, Mm.R.bind, Mm.R.of, Mm.R.st, oEq, eqF, sRet, eTup, oAdd, p3, List.getElem?_cons_succ, List.getElem?_cons_zero, eN, oMin, hmin, List.length_cons, List.length_nil, Nat.zero_add, hl, if_true, Option.map, decide_true]
    · obtain ⟨r, s3, p3, n1, n2, q3⟩ := drawn 8 (by decide) (by decide)
      refine close r s3 ⟨by omega, n2⟩ q3 ?_
      refine seq_if (by simp [bB, Mm.e2, eV, eC, Mm.R.bind, Mm.R.of, oEq, eqF, w0]) (seq_if (by simp [bB, Mm.e2, eV, eC, Mm.R.bind, Mm.R.of, oEq, eqF, w1]) ?_)
      generalize rD r = D0 at *
      simp [eCall, aC, aN, eV, eC, Mm.R.bind, Mm.R.st, sRet, eTup, p3]
end Gk05

namespace Gk05
open Mm
/-- a comprehension, with a word on what else is made -/
theorem lcL_q {g : Sto → Bool} {t : TX} {c : BX} {f : EX} {e0 : Mm.Env} {st : Sto} (Q : Sto → Prop) (p : D → Bool) (F : D → D) (hg : ∀ acc r, g (st ++ Cell.lst acc :: r) = true) : ∀ (ds acc : List D) (r : Sto), Q r → acc.length + ds.length ≤ lim →
    (∀ d ∈ ds, ∃ e1, t d e0 = some e1 ∧ (∀ acc r, Q r → ∃ r', c e1 (st ++ Cell.lst acc :: r) = .ok (p d) (st ++ Cell.lst acc :: r') ∧ Q r') ∧ (p d = true → ∀ acc r, Q r → ∃ r', f e1 (st ++ Cell.lst acc :: r) = .ok (F d) (st ++ Cell.lst acc :: r') ∧ Q r')) →
    ∃ r', lcL g t c f st.length e0 ds (st ++ Cell.lst acc :: r) = .ok (st ++ Cell.lst (acc ++ (ds.filter p).map F) :: r') ∧ Q r'
  | [], acc, r, q, _, _ => ⟨r, by rw [lcL, if_pos (hg acc r)]; simp, q⟩
  | d :: ds, acc, r, q, hl, h => by
    obtain ⟨e1, h1, h2, h3⟩ := h d (by simp)
    obtain ⟨r1, h4, q1⟩ := h2 acc r q
    simp only [List.length_cons] at hl
    by_cases hp : p d = true
    · obtain ⟨r2, h5, q2⟩ := h3 hp acc r1 q1
      obtain ⟨r3, h6, q3⟩ := lcL_q Q p F hg ds (acc ++ [F d]) r2 q2 (by simp; omega) (fun x hx => h x (by simp [hx]))
      refine ⟨r3, ?_, q3⟩
      rw [lcL, if_pos (hg acc r), h1]
      simp only
      rw [h4, hp]
      simp only
      rw [h5]
      simp only [lstOf, app_get, app_set]
      rw [if_pos (by omega), h6]
      simp [List.filter_cons, hp]
    · obtain ⟨r3, h6, q3⟩ := lcL_q Q p F hg ds acc r1 q1 (by omega) (fun x hx => h x (by simp [hx]))
      refine ⟨r3, ?_, q3⟩
      have hp' : p d = false := by simpa using hp
      rw [lcL, if_pos (hg acc r), h1]
      simp only
      rw [h4, hp']
      simp only
      rw [h6]
      simp [List.filter_cons, hp']
theorem lc_q {own : List Nat} {src : IX} {t : TX} {c : BX} {f : EX} {e : Mm.Env} {st st1 : Sto} {ds : List D} {g : Sto → Bool} (Q : Sto → Prop) (q0 : Q []) (p : D → Bool) (F : D → D) (hs : src e st = .ok ⟨ds, g⟩ st1) (hg : ∀ acc r, g (st1 ++ Cell.lst acc :: r) = true) (hl : ds.length ≤ lim)
    (h : ∀ d ∈ ds, ∃ e1, t d (wipeE e own) = some e1 ∧ (∀ acc r, Q r → ∃ r', c e1 (st1 ++ Cell.lst acc :: r) = .ok (p d) (st1 ++ Cell.lst acc :: r') ∧ Q r') ∧ (p d = true → ∀ acc r, Q r → ∃ r', f e1 (st1 ++ Cell.lst acc :: r) = .ok (F d) (st1 ++ Cell.lst acc :: r') ∧ Q r')) :
    ∃ r, eLc own src t c f e st = .ok (.ref st1.length) (st1 ++ Cell.lst ((ds.filter p).map F) :: r) ∧ Q r := by
  obtain ⟨r, h1, q1⟩ := lcL_q Q p F hg ds [] [] q0 (by simpa using hl) h
  refine ⟨r, ?_, q1⟩
  unfold eLc
  rw [hs]
  simp only
  rw [h1]
  simp
def Emp (r : Sto) : Prop := ∀ c ∈ r, c = Cell.lst []
theorem emp_add {r : Sto} (h : Emp r) : Emp (r ++ [.lst []]) := fun c hc => by
  rcases List.mem_append.mp hc with hc | hc
  · exact h c hc
  · exact List.mem_singleton.mp hc
theorem emp_low {r : Sto} (h : Emp r) (n : Nat) : lowS n r = true := by
  simp only [lowS, List.all_eq_true]
  intro c hc
  rw [h c hc]
  rfl
theorem pl_cons (k : Nat) (r : List Nat) (a : Nat) (h : firstP k r a ≤ lastP k r a) : ∃ l, plL k r a = ((firstP k r a : Nat) : Int) :: l ∧ L2.atI ((plL k r a).map D.int) (-1) = some (.int (lastP k r a : Nat)) ∧ (plL k r a).length = lastP k r a + 1 - firstP k r a := by
  have hl : (plL k r a).length = lastP k r a + 1 - firstP k r a := by unfold plL plN; rw [rng_len]
  obtain ⟨m, hm⟩ : ∃ m, plN k r a = m + 1 := ⟨lastP k r a - firstP k r a, by unfold plN; omega⟩
  have e1 : plL k r a = ((firstP k r a : Nat) : Int) :: (rng (firstP k r a : Nat) (m + 1)).tail := by
    unfold plL
    rw [hm]
    simp [rng, List.range_succ_eq_map]
  have e2 : plL k r a = rng (firstP k r a : Nat) m ++ [((lastP k r a : Nat) : Int)] := by
    unfold plL
    rw [hm, rng_succ]
    congr 2
    unfold plN at hm
    omega
  refine ⟨_, e1, ?_, hl⟩
  rw [e2]
  have : L2.ixN ((rng (firstP k r a : Nat) m ++ [((lastP k r a : Nat) : Int)]).map D.int).length (-1) = some m := by
    simp [L2.ixN, rng_len]
    omega
  unfold L2.atI
  rw [this]
  simp [rng_len]
theorem pl_nil (k : Nat) (r : List Nat) (a : Nat) (h : ¬ firstP k r a ≤ lastP k r a) : plL k r a = [] := by
  have : plN k r a = 0 := by unfold plN; omega
  unfold plL
  rw [this]
  rfl
/-- what is due of one list of places -/
theorem due1 (k : Nat) (r : List Nat) (b i : Nat) (S : Sto) (hi : S[i]? = some (.lst ((plL k r b).map .int))) (e : Mm.Env) (h7 : e[7]? = some (some (.ref i))) : E1_law e S = .ok (spanD k r b) (S ++ [.lst []]) := by
  have t1 := ne_nil (a := eV 7) (e := e) (st := S) (s1 := S) (i := i) (xs := (plL k r b).map .int) (by simp only [eV, h7]) hi (pys_ints _) (shaped_lints _)
  have hlt : i < S.length := (List.getElem?_eq_some_iff.mp hi).1
  have hi2 : (S ++ [Cell.lst []])[i]? = some (.lst ((plL k r b).map .int)) := by rw [app_low hlt]; exact hi
  rw [E1_law_ap]
  unfold eIf spanD
  by_cases hle : firstP k r b ≤ lastP k r b
  · obtain ⟨l, v1, v2, _⟩ := pl_cons k r b hle
    have a0 : L2.atI ((plL k r b).map D.int) 0 = some (.int (firstP k r b : Nat)) := by rw [v1]; exact at0 _ _
    have hem : ((plL k r b).map D.int).isEmpty = false := by rw [v1]; rfl
    rw [hem] at t1
    rw [if_pos hle]
    have b1 : bB (e2 oNe (eV 7) (eLst aN)) e S = .ok true (S ++ [.lst []]) := by unfold bB; rw [t1]; rfl
    rw [b1]
    generalize (plL k r b).map D.int = L at *
    simp only [Mm.R.bind, if_true, eTup, aC, aN, Mm.e2, Mm.e1, eV, eC, h7, oIx, oNeg, seqOf, cellItems, hi2, a0, v2, Option.map, Mm.R.of]
  · have v1 := pl_nil k r b hle
    have hem : ((plL k r b).map D.int).isEmpty = true := by rw [v1]; rfl
    rw [hem] at t1
    rw [if_neg hle]
    have b1 : bB (e2 oNe (eV 7) (eLst aN)) e S = .ok false (S ++ [.lst []]) := by unfold bB; rw [t1]; rfl
    rw [b1]
    rfl
/-- they stand one behind another -/
theorem next1 (k : Nat) (r : List Nat) (b i : Nat) (S : Sto) (hi : S[i]? = some (.lst ((plL k r b).map .int))) (e : Mm.Env) (h7 : e[7]? = some (some (.ref i))) : I1_law e S = .ok false (S ++ [.lst []]) := by
  have t1 := ne_nil (a := eV 7) (e := e) (st := S) (s1 := S) (i := i) (xs := (plL k r b).map .int) (by simp only [eV, h7]) hi (pys_ints _) (shaped_lints _)
  have hlt : i < S.length := (List.getElem?_eq_some_iff.mp hi).1
  have hi2 : (S ++ [Cell.lst []])[i]? = some (.lst ((plL k r b).map .int)) := by rw [app_low hlt]; exact hi
  rw [I1_law_ap]
  by_cases hle : firstP k r b ≤ lastP k r b
  · obtain ⟨l, v1, v2, v3⟩ := pl_cons k r b hle
    have a0 : L2.atI ((plL k r b).map D.int) 0 = some (.int (firstP k r b : Nat)) := by rw [v1]; exact at0 _ _
    have hem : ((plL k r b).map D.int).isEmpty = false := by rw [v1]; rfl
    have hlen : (((plL k r b).map D.int).length : Int) = ((lastP k r b : Nat) : Int) - ((firstP k r b : Nat) : Int) + 1 := by rw [List.length_map, v3]; omega
    rw [hem] at t1
    have b1 : bB (e2 oNe (eV 7) (eLst aN)) e S = .ok true (S ++ [.lst []]) := by unfold bB; rw [t1]; rfl
    unfold bAnd
    rw [b1]
    generalize (plL k r b).map D.int = L at *
    simp only [Mm.R.bind, if_true, bB, eN, aC, aN, Mm.e2, Mm.e1, eV, eC, h7, oIx, oNeg, oLen, seqOf, cellItems, hi2, a0, v2, Option.map, Mm.R.of, oSub, oAdd, oNe, eqF, hlen, decide_true, Bool.not_true]
  · have v1 := pl_nil k r b hle
    have hem : ((plL k r b).map D.int).isEmpty = true := by rw [v1]; rfl
    rw [hem] at t1
    have b1 : bB (e2 oNe (eV 7) (eLst aN)) e S = .ok false (S ++ [.lst []]) := by unfold bB; rw [t1]; rfl
    unfold bAnd
    rw [b1]
    rfl
/-! as texts -/
def spanP (k : Nat) (r : List Nat) (a : Nat) : PySem.PyData := if firstP k r a ≤ lastP k r a then .tuple [.int (firstP k r a : Nat), .int (lastP k r a : Nat)] else .none
theorem pys_spans (k : Nat) (r : List Nat) : ∀ as : List Nat, pys (as.map (spanD k r)) = some (as.map (spanP k r))
  | [] => rfl
  | a :: as => by
    have h1 : py (spanD k r a) = some (spanP k r a) := by
      unfold spanD spanP
      split <;> rfl
    simp only [List.map_cons, pys, h1, pys_spans k r as, Option.bind, Option.map]
theorem small60 {n : Nat} (h : n ≤ 61) : ((n : Int)).natAbs < 10 ^ 60 := Nat.lt_of_le_of_lt (by simpa using h) (by decide +kernel)
theorem spans_show (k : Nat) (hk : k ≤ 60) (r : List Nat) : ∀ as : List Nat, okPs (as.map (spanP k r)) = true ∧ PySem.PyData.depthAll (as.map (spanP k r)) ≤ 1 ∧ PySem.PyData.bulkAll (as.map (spanP k r)) ≤ 10 * as.length
  | [] => ⟨rfl, Nat.zero_le _, Nat.zero_le _⟩
  | a :: as => by
    obtain ⟨h1, h2, h3⟩ := spans_show k hk r as
    have l1 := last_le k r a
    have f1 : okP (spanP k r a) = true ∧ PySem.PyData.depth (spanP k r a) ≤ 1 ∧ PySem.PyData.bulk (spanP k r a) ≤ 9 := by
      unfold spanP
      by_cases hle : firstP k r a ≤ lastP k r a
      · rw [if_pos hle]
        refine ⟨?_, by simp only [PySem.PyData.depth, PySem.PyData.depthAll]; decide, by simp only [PySem.PyData.bulk, PySem.PyData.bulkAll]; omega⟩
        simp only [okP, okPs, small60 (show firstP k r a ≤ 61 by omega), small60 (show lastP k r a ≤ 61 by omega), decide_true, Bool.and_self]
      · rw [if_neg hle]
        exact ⟨rfl, by decide, by decide⟩
    refine ⟨by simp only [List.map_cons, okPs, f1.1, h1, Bool.and_self], ?_, ?_⟩
    · simp only [List.map_cons, PySem.PyData.depthAll]
      omega
    · simp only [List.map_cons, PySem.PyData.bulkAll, List.length_cons]
      omega
theorem spans_repr (k : Nat) (hk : k ≤ 60) (r : List Nat) (h : Row r) : ∃ s, ∀ st : Sto, oRepr [.tup (spansD k r r.length)] st = some (.str s, st) := by
  obtain ⟨h1, h2, h3⟩ := spans_show k hk r (List.range r.length)
  have hl := h.1
  rw [List.length_range] at h3
  refine ⟨_, fun st => repr_ok (p := .tuple ((List.range r.length).map (spanP k r))) ?_ ?_ ?_ ?_⟩
  · simp only [pyS, py, spansD, pys_spans]
    rfl
  · simp only [okP, h1]
  · simp only [PySem.PyData.depth]
    omega
  · simp only [PySem.PyData.bulk]
    omega
theorem alone_repr (k : Nat) (hk : k ≤ 60) (r : List Nat) : ∃ s, ∀ st : Sto, oRepr [.tup ((aloneL k r).map .int)] st = some (.str s, st) := by
  have hm : ∀ x ∈ aloneL k r, 1 ≤ x ∧ x ≤ 60 := fun x hx => alone_in hk x ((uniL_mem x _).mp hx)
  have hf : (aloneL k r).length < 64 := uni_few (alone_in (r := r) hk)
  refine ⟨_, fun st => repr_ok (p := .tuple ((aloneL k r).map .int)) ?_ ?_ ?_ ?_⟩
  · simp only [pyS, py, pys_ints]
    rfl
  · simp only [okP]
    exact okPs_ints _ fun n hn => by
      have := hm n hn
      exact Nat.lt_of_le_of_lt (show n.natAbs ≤ 60 by omega) (by decide +kernel)
  · simp only [PySem.PyData.depth, dep_ints]
    decide
  · simp only [PySem.PyData.bulk, bulk_ints]
    omega
end Gk05

namespace Gk05
open Mm
theorem refs_low (n a m : Nat) (h : n + 1 + a ≤ m) : lowDs m (refs n a) = true := by
  have : ∀ l : List Nat, (∀ b ∈ l, b < a) → lowDs m (l.map fun b => D.ref (n + 1 + b)) = true := by
    intro l
    induction l with
    | nil => intro _; rfl
    | cons b l ih =>
      intro hb
      have := hb b (by simp)
      simp only [List.map_cons, lowDs, lowD, ih fun c hc => hb c (by simp [hc]), Bool.and_true, decide_eq_true_eq]
      omega
  exact this _ fun b hb => List.mem_range.mp hb
theorem pl_low (k : Nat) (r : List Nat) (a n : Nat) : lowS n (plCells k r a) = true := by
  simp only [lowS, List.all_eq_true]
  intro c hc
  obtain ⟨b, _, rfl⟩ := List.mem_map.mp hc
  exact low_ints n _
theorem ne_same {fa fb : EX} {e : Mm.Env} {S S1 S2 : Sto} {d1 d2 : D} {s : PySem.Str} (h1 : fa e S = .ok d1 S1) (h2 : fb e S1 = .ok d2 S2) (g1 : oRepr [d1] S1 = some (.str s, S1)) (g2 : oRepr [d2] S2 = some (.str s, S2)) : bB (Mm.e2 oNe (eN oRepr (aC fa aN)) (eN oRepr (aC fb aN))) e S = .ok false S2 := by
  simp only [bB, Mm.e2, eN, aC, aN, h1, Mm.R.bind, g1, Mm.R.of, h2, g2, oNe, eqF, decide_true, Option.map, Bool.not_true]
theorem turn_ok (x0 x2 x3 x4 x5 x6 : Option D) (rest s : Sto) (hp : Pst rest s) (hr : lowS (4 + rest.length) rest = true) :
    ∃ y3 y4 y5 y6 s2 rest2, L1_law [x0, some (.ref 3), x2, x3, x4, x5, x6, none] s = .nx [x0, some (.ref 3), x2, y3, y4, y5, y6, none] s2 ∧ Pst rest2 s2 ∧ lowS (4 + rest2.length) rest2 = true := by
  obtain ⟨k, r, s1, p1, k1, k2, h, q1⟩ := scene_ok hp hr
  have hl := h.1
  have hs1 := pst_len q1
  have g2 := places_ok k k1 k2 r h s1
  have g3 := fun st => owned_ok k k1 k2 r h st
  have g4 := fun st => alone_ok k k1 k2 r h st
  have g5 := fun st => row_alone_ok k k2 r h st
  obtain ⟨t1, r1⟩ := spans_repr k k2 r h
  obtain ⟨t2, r2⟩ := alone_repr k k2 r
  obtain ⟨S, hS⟩ : ∃ S, S = stP s1 k r r.length := ⟨_, rfl⟩
  have hSl : S.length = s1.length + 1 + r.length := by rw [hS]; exact stP_len s1 k r r.length
  have hS0 : S[s1.length]? = some (.lst (refs s1.length r.length)) := by rw [hS]; unfold stP; exact app_get
  have hSb : ∀ b, b < r.length → S[s1.length + 1 + b]? = some (.lst ((plL k r b).map .int)) := fun b hb => by rw [hS]; exact stP_get s1 k r r.length b hb
  have hrl : (refs s1.length r.length).length = r.length := by simp [refs]
  have lt0 : s1.length < S.length := by omega
  -- what is due of all
  obtain ⟨j1, c1, m1⟩ := lc_q (own := [7]) (src := iSeq (eV 5)) (t := tgN 7) (c := bYes) (f := E1_law) (e := [x0, some (.ref 3), x2, some (.int (k : Nat)), some (rD r), some (.ref s1.length), x6, none]) (st := S) Emp (fun c hc => by cases hc) (fun _ => true) (fun d => match d with | .ref i => spanD k r (i - (s1.length + 1)) | d => d) (seq_new (i := s1.length) rfl hS0) (fun acc R => guard_app lt0) (by rw [hrl]; unfold lim; omega) (fun d hd => by
    obtain ⟨b, hb, rfl⟩ := List.mem_map.mp hd
    have hb := List.mem_range.mp hb
    refine ⟨[x0, some (.ref 3), x2, some (.int (k : Nat)), some (rD r), some (.ref s1.length), x6, some (.ref (s1.length + 1 + b))], rfl, fun acc R q => ⟨R, rfl, q⟩, fun _ acc R q => ⟨R ++ [.lst []], ?_, emp_add q⟩⟩
    have hlt := (List.getElem?_eq_some_iff.mp (hSb b hb)).1
    have := due1 k r b (s1.length + 1 + b) (S ++ Cell.lst acc :: R) (by rw [app_low hlt]; exact hSb b hb) [x0, some (.ref 3), x2, some (.int (k : Nat)), some (rD r), some (.ref s1.length), x6, some (.ref (s1.length + 1 + b))] rfl
    rw [this]
    simp [show s1.length + 1 + b - (s1.length + 1) = b by omega])
  have hF : ((refs s1.length r.length).filter fun _ => true).map (fun d => match d with | .ref i => spanD k r (i - (s1.length + 1)) | d => d) = spansD k r r.length := by
    rw [filt_all (fun _ _ => rfl)]
    unfold refs spansD
    rw [List.map_map]
    refine List.map_congr_left fun b _ => ?_
    simp [show s1.length + 1 + b - (s1.length + 1) = b by omega]
  rw [hF] at c1
  obtain ⟨S2, hS2⟩ : ∃ S2, S2 = S ++ Cell.lst (spansD k r r.length) :: j1 := ⟨_, rfl⟩
  rw [← hS2] at c1
  have hS2g : S2[S.length]? = some (.lst (spansD k r r.length)) := by rw [hS2]; exact app_get
  have hS20 : S2[s1.length]? = some (.lst (refs s1.length r.length)) := by rw [hS2, app_low lt0]; exact hS0
  have hS2l : S2.length = S.length + 1 + j1.length := by rw [hS2]; simp; omega
  -- none with a hole
  obtain ⟨j2, c2, m2⟩ := lc_q (own := [7]) (src := iSeq (eV 5)) (t := tgN 7) (c := I1_law) (f := E2_law) (e := [x0, some (.ref 3), x2, some (.int (k : Nat)), some (rD r), some (.ref s1.length), some (.tup (spansD k r r.length)), none]) (st := S2) Emp (fun c hc => by cases hc) (fun _ => false) (fun d => d) (seq_new (i := s1.length) rfl hS20) (fun acc R => guard_app (by omega)) (by rw [hrl]; unfold lim; omega) (fun d hd => by
    obtain ⟨b, hb, rfl⟩ := List.mem_map.mp hd
    have hb := List.mem_range.mp hb
    refine ⟨[x0, some (.ref 3), x2, some (.int (k : Nat)), some (rD r), some (.ref s1.length), some (.tup (spansD k r r.length)), some (.ref (s1.length + 1 + b))], rfl, fun acc R q => ⟨R ++ [.lst []], ?_, emp_add q⟩, fun hf => by cases hf⟩
    have hlt := (List.getElem?_eq_some_iff.mp (hSb b hb)).1
    have := next1 k r b (s1.length + 1 + b) (S2 ++ Cell.lst acc :: R) (by rw [hS2, List.append_assoc, app_low hlt]; exact hSb b hb) [x0, some (.ref 3), x2, some (.int (k : Nat)), some (rD r), some (.ref s1.length), some (.tup (spansD k r r.length)), some (.ref (s1.length + 1 + b))] rfl
    rw [this]
    simp)
  rw [List.filter_eq_nil_iff.mpr (fun _ _ => by simp), List.map_nil] at c2
  have c3 := ne_nil (xs := []) (ps := []) c2 app_get rfl shaped_nil
  obtain ⟨S3, hS3⟩ : ∃ S3, S3 = S2 ++ Cell.lst [] :: j2 ++ [Cell.lst []] := ⟨_, rfl⟩
  rw [← hS3] at c3
  have hnew : S3 ++ [Cell.lst ((aloneL k r).map D.int)] = s1 ++ (Cell.lst (refs s1.length r.length) :: plCells k r r.length ++ Cell.lst (spansD k r r.length) :: j1 ++ Cell.lst [] :: j2 ++ [Cell.lst []] ++ [Cell.lst ((aloneL k r).map D.int)]) := by
    rw [hS3, hS2, hS]
    simp [stP]
  refine ⟨some (.int (k : Nat)), some (rD r), some (.ref s1.length), some (.tup (spansD k r r.length)), S3 ++ [Cell.lst ((aloneL k r).map D.int)], rest ++ (Cell.lst (refs s1.length r.length) :: plCells k r r.length ++ Cell.lst (spansD k r r.length) :: j1 ++ Cell.lst [] :: j2 ++ [Cell.lst []] ++ [Cell.lst ((aloneL k r).map D.int)]), ?_, ?_, ?_⟩
  · rw [L1_law_ap]
    refine seq_nx (e1 := [x0, some (.ref 3), x2, some (.int (k : Nat)), some (rD r), x5, x6, none]) (st1 := s1) ?_ ?_
    · generalize rD r = D0 at *
      simp [sAsg, eCall, aC, aN, eV, Mm.R.bind, Mm.R.st, p1, tgTup, tgCons, tgN, tgNil]
    refine seq_nx (e1 := [x0, some (.ref 3), x2, some (.int (k : Nat)), some (rD r), some (.ref s1.length), x6, none]) (st1 := S) ?_ ?_
    · refine (set_ok (i := 5) (d := .ref s1.length) (st1 := S) ?_).trans rfl
      simp only [eCall, aC, aN, eV, Mm.R.bind, List.getElem?_cons_succ, List.getElem?_cons_zero, g2, hS]
    refine seq_nx (e1 := [x0, some (.ref 3), x2, some (.int (k : Nat)), some (rD r), some (.ref s1.length), some (.tup (spansD k r r.length)), none]) (st1 := S2) ?_ ?_
    · have l1 : (spansD k r r.length).length ≤ lim := by simp [spansD]; unfold lim; omega
      refine (set_ok (i := 6) (d := .tup (spansD k r r.length)) (st1 := S2) ?_).trans rfl
      simp only [eN, aC, aN, c1, Mm.R.bind, oTupOf, seqOf, hS2g, cellItems, Option.map, Mm.R.of]
    refine seq_nx (e1 := [x0, some (.ref 3), x2, some (.int (k : Nat)), some (rD r), some (.ref s1.length), some (.tup (spansD k r r.length)), none]) (st1 := S2) (if_no (ne_same (d1 := .tup (spansD k r r.length)) (d2 := .tup (spansD k r r.length)) (S1 := S2) (S2 := S2) ?_ rfl (r1 S2) (r1 S2))) ?_
    · simp only [eCall, aC, aN, eV, Mm.R.bind, List.getElem?_cons_succ, List.getElem?_cons_zero, g3]
    refine seq_nx (e1 := [x0, some (.ref 3), x2, some (.int (k : Nat)), some (rD r), some (.ref s1.length), some (.tup (spansD k r r.length)), none]) (st1 := S3) (if_no ?_) ?_
    · unfold bB
      rw [c3]
      rfl
    refine if_no (ne_same (d1 := .tup ((aloneL k r).map .int)) (d2 := .tup ((aloneL k r).map .int)) (S1 := S3) (S2 := S3 ++ [Cell.lst ((aloneL k r).map D.int)]) ?_ ?_ (r2 _) (r2 _))
    · simp only [eCall, aC, aN, eV, Mm.R.bind, List.getElem?_cons_succ, List.getElem?_cons_zero, g4]
    · have g9 : (S3 ++ [Cell.lst ((aloneL k r).map D.int)])[S3.length]? = some (.lst ((aloneL k r).map .int)) := by simp
      simp only [eN, eCall, aC, aN, eV, Mm.R.bind, List.getElem?_cons_succ, List.getElem?_cons_zero, g5, oTupOf, seqOf, g9, cellItems, Option.map, Mm.R.of]
  · rw [hnew]
    exact pst_push q1 _
  · have e1 : (rest ++ (Cell.lst (refs s1.length r.length) :: plCells k r r.length ++ Cell.lst (spansD k r r.length) :: j1 ++ Cell.lst [] :: j2 ++ [Cell.lst []] ++ [Cell.lst ((aloneL k r).map D.int)])).length = rest.length + 1 + r.length + 1 + j1.length + 1 + j2.length + 1 + 1 := by
      simp [plCells]
      omega
    rw [e1]
    have w1 : lowS (4 + (rest.length + 1 + r.length + 1 + j1.length + 1 + j2.length + 1 + 1)) rest = true := low_up (by omega) hr
    have w2 := refs_low s1.length r.length (4 + (rest.length + 1 + r.length + 1 + j1.length + 1 + j2.length + 1 + 1)) (by omega)
    generalize 4 + (rest.length + 1 + r.length + 1 + j1.length + 1 + j2.length + 1 + 1) = N at *
    have w3 := pl_low k r r.length N
    have w4 := lows_flat N _ (flat_spans k r r.length)
    have w5 := emp_low m1 N
    have w6 := emp_low m2 N
    have w7 := low_ints N (aloneL k r)
    simp only [lowS] at w1 w3 w5 w6 ⊢
    simp only [List.all_append, List.all_cons, List.all_nil, lowC, w1, w2, w3, w4, w5, w6, w7, lowDs, Bool.and_self]
theorem law_loop (x0 : Option D) : ∀ (j a : Nat) (x2 x3 x4 x5 x6 : Option D) (rest s : Sto), Pst rest s → lowS (4 + rest.length) rest = true →
    ∃ y2 y3 y4 y5 y6 s2, forL (fun _ => true) (tgN 2) L1_law (intsUp (a : Nat) j) [x0, some (.ref 3), x2, x3, x4, x5, x6, none] s = .nx [x0, some (.ref 3), y2, y3, y4, y5, y6, none] s2
  | 0, a, x2, x3, x4, x5, x6, rest, s, _, _ => ⟨x2, x3, x4, x5, x6, s, for_nil rfl⟩
  | j + 1, a, x2, x3, x4, x5, x6, rest, s, hp, hr => by
    obtain ⟨y3, y4, y5, y6, s2, rest2, h1, h2, h3⟩ := turn_ok x0 (some (.int (a : Nat))) x3 x4 x5 x6 rest s hp hr
    obtain ⟨z2, z3, z4, z5, z6, s3, h4⟩ := law_loop x0 j (a + 1) (some (.int (a : Nat))) y3 y4 y5 y6 rest2 s2 h2 h3
    rw [up_succ]
    exact ⟨z2, z3, z4, z5, z6, s3, for_nx rfl rfl h1 h4⟩
theorem own_lit (k : Nat) (hk : 1 ≤ k) (hk2 : k ≤ 60) (r : List Nat) (h : Row r) (ps : List PySem.PyData) (hp : pys (spansD k r r.length) = some ps) (hs : PySem.SeqAt.shaped (.tuple ps) = true) (he : (PySem.PyData.tuple ps).eqv (.tuple ps) = true) {fa fb : EX} {e : Mm.Env} (st : Sto) (h1 : fa e st = s_owned [.int (k : Nat), rD r] st) (h2 : fb e st = .ok (.tup (spansD k r r.length)) st) : bB (Mm.e2 oNe fa fb) e st = .ok false st := by
  have g := owned_ok k hk hk2 r h st
  have q := eqF_tup (st := st) hp hp hs hs he
  simp only [bB, Mm.e2, h1, g, Mm.R.bind, h2, oNe, q, Option.map, Mm.R.of, Bool.not_true]
theorem al_lit (k : Nat) (hk : 1 ≤ k) (hk2 : k ≤ 60) (r : List Nat) (h : Row r) {fa fb : EX} {e : Mm.Env} (st : Sto) (h1 : fa e st = s_alone [.int (k : Nat), rD r] st) (h2 : fb e st = .ok (.tup ((aloneL k r).map .int)) st) : bB (Mm.e2 oNe fa fb) e st = .ok false st := by
  have g := alone_ok k hk hk2 r h st
  have q := eq_tints (st := st) (a := aloneL k r) (b := aloneL k r)
  simp only [bB, Mm.e2, h1, g, Mm.R.bind, h2, oNe, q, Option.map, Mm.R.of, decide_true, Bool.not_true]
theorem row62 : Row [6, 2] := ⟨by decide, by decide⟩
theorem law_true (ns : List Int) (h : ns.length ≤ 63) : ∃ st', s_law [.ref 0] [.ro (ns.map D.int)] = .ok (.bl true) st' := by
  obtain ⟨st1, p1, q1⟩ := pool_ok ns h
  obtain ⟨y2, y3, y4, y5, y6, s2, g1⟩ := law_loop (some (.ref 0)) 4 0 none none none none none [] st1 q1 rfl
  obtain ⟨st', hs⟩ := fin_bool [Cell.ro (ns.map D.int)] s2 true
  refine ⟨st', ?_⟩
  unfold s_law
  refine fn_ret (d := .bl true) (st' := s2) ?_ hs
  refine seq_nx (e1 := [some (.ref 0), some (.ref 3), none, none, none, none, none, none]) (st1 := st1) (by simp [fnS, eV, eC, Mm.e1, Mm.e2, eN, aN, aC, eCall, eTup, eLst, eIf, eCh, eAndT, eOrT, eNotT, bB, bAnd, bOr, bNot, bTru, tru, sSeq, sSet, sEx, sRet, sRetN, sNx, sNo, sBrk, sCt, sIf, sPar, sPar3, sAsg, tgN, tgNil, tgCons, tgTup, Mm.R.bind, Mm.R.of, Mm.R.st, oAdd, oSub, mul_i, oDiv, oMod, oPow, oCmpI, oLt, oLe, oGt, oGe, oIs, oIsN, oEq, oNe, eqF, b64_of, oIx, seqOf, lstOf, cellItems, sStore, eSl, eO, oLen, oInt, oListOf, oTupOf, oMax, oMin, oSum, oGcd, intsOf, oIsi, tyName, oNeg, eM1, eM0, isLst, oApp, oExt, oPopAt, oPop, fin_i, fin_b, fin_n, fin_s, fin_t2, at0, at1, at2, at3, at4, cut1, ix0, ix1, ix2, p1]) ?_
  refine seq_if (or_ff ?_ (or_ff ?_ ?_)) ?_
  · exact own_lit 6 (by decide) (by decide) [6, 2] row62 [.tuple [.int 1, .int 2], .tuple [.int 5, .int 6]] rfl (by decide +kernel) (by decide +kernel) st1 rfl rfl
  · refine al_lit 6 (by decide) (by decide) [6, 2] row62 st1 rfl ?_
    rw [show aloneL 6 [6, 2] = [1, 2, 5, 6] by decide +kernel]
    rfl
  · exact own_lit 3 (by decide) (by decide) [1, 1] ⟨by decide, by decide⟩ [.none, .none] rfl (by decide +kernel) (by decide +kernel) st1 rfl rfl
  refine seq_if (or_ff ?_ (or_ff ?_ ?_)) ?_
  · exact own_lit 3 (by decide) (by decide) [] ⟨by decide, by decide⟩ [] rfl (by decide +kernel) (by decide +kernel) st1 rfl rfl
  · refine al_lit 3 (by decide) (by decide) [] ⟨by decide, by decide⟩ st1 rfl ?_
    rfl
  · exact own_lit 3 (by decide) (by decide) [9] ⟨by decide, by decide⟩ [.tuple [.int 1, .int 3]] rfl (by decide +kernel) (by decide +kernel) st1 rfl rfl
  refine seq_nx (e1 := [some (.ref 0), some (.ref 3), y2, y3, y4, y5, y6, none]) (st1 := s2) ?_ ?_
  · simp only [sFor, iR1, aC, aN, eC, Mm.R.bind, show bigR 4 = true from rfl, if_true]
    exact g1
  · rfl
end Gk05

namespace Gk05
open PySem L2 Mm PySem.Spec PyProof.Rows
theorem all_mk {l : PySem.W.OpenLaw} {w : World} {K : PySem.W.Frag} {h : Heap} {mg : Str → Option Value} {fa : Addr} (X : K.In h) (G : h.Ns mainGlobals mg) (hfa : mg "law" = some (.ref fa))
    {f_0 : Addr} {od_0 an_0 : Option Addr} {sl_0 : Array (Option Value)} {oc_0 kV_0 dc_0 pm_0 cd_0 ct_0 : Value} (a_0 : PySem.W.nsIn K mainGlobals "is_number" = some (some (.ref f_0))) (l_0 : K.lookup f_0 = some ⟨oc_0, od_0, .func (PySem.W.fnOf "is_number" "is_number" (defArgs (topS 5)) (defBody (topS 5)) (defScope (topS 5)) .none kV_0 dc_0 pm_0 an_0 cd_0 ct_0), sl_0⟩) (c_0 : PySem.W.codeIn K cd_0 "is_number" = true) (k_0 : PySem.W.keepIn K (.ref f_0) = true)
    {f_1 : Addr} {od_1 an_1 : Option Addr} {sl_1 : Array (Option Value)} {oc_1 kV_1 dc_1 pm_1 cd_1 ct_1 : Value} (a_1 : PySem.W.nsIn K mainGlobals "is_within" = some (some (.ref f_1))) (l_1 : K.lookup f_1 = some ⟨oc_1, od_1, .func (PySem.W.fnOf "is_within" "is_within" (defArgs (topS 6)) (defBody (topS 6)) (defScope (topS 6)) .none kV_1 dc_1 pm_1 an_1 cd_1 ct_1), sl_1⟩) (c_1 : PySem.W.codeIn K cd_1 "is_within" = true) (k_1 : PySem.W.keepIn K (.ref f_1) = true)
    {f_2 : Addr} {od_2 an_2 : Option Addr} {sl_2 : Array (Option Value)} {oc_2 kV_2 dc_2 pm_2 cd_2 ct_2 : Value} (a_2 : PySem.W.nsIn K mainGlobals "made_k" = some (some (.ref f_2))) (l_2 : K.lookup f_2 = some ⟨oc_2, od_2, .func (PySem.W.fnOf "made_k" "made_k" (defArgs (topS 12)) (defBody (topS 12)) (defScope (topS 12)) .none kV_2 dc_2 pm_2 an_2 cd_2 ct_2), sl_2⟩) (c_2 : PySem.W.codeIn K cd_2 "made_k" = true) (k_2 : PySem.W.keepIn K (.ref f_2) = true)
    {f_3 : Addr} {od_3 an_3 : Option Addr} {sl_3 : Array (Option Value)} {oc_3 kV_3 dc_3 pm_3 cd_3 ct_3 : Value} (a_3 : PySem.W.nsIn K mainGlobals "wrong_at" = some (some (.ref f_3))) (l_3 : K.lookup f_3 = some ⟨oc_3, od_3, .func (PySem.W.fnOf "wrong_at" "wrong_at" (defArgs (topS 7)) (defBody (topS 7)) (defScope (topS 7)) .none kV_3 dc_3 pm_3 an_3 cd_3 ct_3), sl_3⟩) (c_3 : PySem.W.codeIn K cd_3 "wrong_at" = true) (k_3 : PySem.W.keepIn K (.ref f_3) = true)
    {f_4 : Addr} {od_4 an_4 : Option Addr} {sl_4 : Array (Option Value)} {oc_4 kV_4 dc_4 pm_4 cd_4 ct_4 : Value} (a_4 : PySem.W.nsIn K mainGlobals "made_row" = some (some (.ref f_4))) (l_4 : K.lookup f_4 = some ⟨oc_4, od_4, .func (PySem.W.fnOf "made_row" "made_row" (defArgs (topS 13)) (defBody (topS 13)) (defScope (topS 13)) .none kV_4 dc_4 pm_4 an_4 cd_4 ct_4), sl_4⟩) (c_4 : PySem.W.codeIn K cd_4 "made_row" = true) (k_4 : PySem.W.keepIn K (.ref f_4) = true)
    {f_5 : Addr} {od_5 an_5 : Option Addr} {sl_5 : Array (Option Value)} {oc_5 kV_5 dc_5 pm_5 cd_5 ct_5 : Value} (a_5 : PySem.W.nsIn K mainGlobals "owned" = some (some (.ref f_5))) (l_5 : K.lookup f_5 = some ⟨oc_5, od_5, .func (PySem.W.fnOf "owned" "owned" (defArgs (topS 15)) (defBody (topS 15)) (defScope (topS 15)) .none kV_5 dc_5 pm_5 an_5 cd_5 ct_5), sl_5⟩) (c_5 : PySem.W.codeIn K cd_5 "owned" = true) (k_5 : PySem.W.keepIn K (.ref f_5) = true)
    {f_6 : Addr} {od_6 an_6 : Option Addr} {sl_6 : Array (Option Value)} {oc_6 kV_6 dc_6 pm_6 cd_6 ct_6 : Value} (a_6 : PySem.W.nsIn K mainGlobals "alone" = some (some (.ref f_6))) (l_6 : K.lookup f_6 = some ⟨oc_6, od_6, .func (PySem.W.fnOf "alone" "alone" (defArgs (topS 16)) (defBody (topS 16)) (defScope (topS 16)) .none kV_6 dc_6 pm_6 an_6 cd_6 ct_6), sl_6⟩) (c_6 : PySem.W.codeIn K cd_6 "alone" = true) (k_6 : PySem.W.keepIn K (.ref f_6) = true)
    {f_7 : Addr} {od_7 an_7 : Option Addr} {sl_7 : Array (Option Value)} {oc_7 kV_7 dc_7 pm_7 cd_7 ct_7 : Value} (a_7 : PySem.W.nsIn K mainGlobals "_law_pool" = some (some (.ref f_7))) (l_7 : K.lookup f_7 = some ⟨oc_7, od_7, .func (PySem.W.fnOf "_law_pool" "_law_pool" (defArgs (topS 18)) (defBody (topS 18)) (defScope (topS 18)) .none kV_7 dc_7 pm_7 an_7 cd_7 ct_7), sl_7⟩) (c_7 : PySem.W.codeIn K cd_7 "_law_pool" = true) (k_7 : PySem.W.keepIn K (.ref f_7) = true)
    {f_8 : Addr} {od_8 an_8 : Option Addr} {sl_8 : Array (Option Value)} {oc_8 kV_8 dc_8 pm_8 cd_8 ct_8 : Value} (a_8 : PySem.W.nsIn K mainGlobals "_law_row_cells" = some (some (.ref f_8))) (l_8 : K.lookup f_8 = some ⟨oc_8, od_8, .func (PySem.W.fnOf "_law_row_cells" "_law_row_cells" (defArgs (topS 21)) (defBody (topS 21)) (defScope (topS 21)) .none kV_8 dc_8 pm_8 an_8 cd_8 ct_8), sl_8⟩) (c_8 : PySem.W.codeIn K cd_8 "_law_row_cells" = true) (k_8 : PySem.W.keepIn K (.ref f_8) = true)
    {f_9 : Addr} {od_9 an_9 : Option Addr} {sl_9 : Array (Option Value)} {oc_9 kV_9 dc_9 pm_9 cd_9 ct_9 : Value} (a_9 : PySem.W.nsIn K mainGlobals "_law_row_views" = some (some (.ref f_9))) (l_9 : K.lookup f_9 = some ⟨oc_9, od_9, .func (PySem.W.fnOf "_law_row_views" "_law_row_views" (defArgs (topS 22)) (defBody (topS 22)) (defScope (topS 22)) .none kV_9 dc_9 pm_9 an_9 cd_9 ct_9), sl_9⟩) (c_9 : PySem.W.codeIn K cd_9 "_law_row_views" = true) (k_9 : PySem.W.keepIn K (.ref f_9) = true)
    {f_10 : Addr} {od_10 an_10 : Option Addr} {sl_10 : Array (Option Value)} {oc_10 kV_10 dc_10 pm_10 cd_10 ct_10 : Value} (a_10 : PySem.W.nsIn K mainGlobals "_law_row_alone" = some (some (.ref f_10))) (l_10 : K.lookup f_10 = some ⟨oc_10, od_10, .func (PySem.W.fnOf "_law_row_alone" "_law_row_alone" (defArgs (topS 23)) (defBody (topS 23)) (defScope (topS 23)) .none kV_10 dc_10 pm_10 an_10 cd_10 ct_10), sl_10⟩) (c_10 : PySem.W.codeIn K cd_10 "_law_row_alone" = true) (k_10 : PySem.W.keepIn K (.ref f_10) = true)
    {f_11 : Addr} {od_11 an_11 : Option Addr} {sl_11 : Array (Option Value)} {oc_11 kV_11 dc_11 pm_11 cd_11 ct_11 : Value} (a_11 : PySem.W.nsIn K mainGlobals "_law_draw" = some (some (.ref f_11))) (l_11 : K.lookup f_11 = some ⟨oc_11, od_11, .func (PySem.W.fnOf "_law_draw" "_law_draw" (defArgs (topS 19)) (defBody (topS 19)) (defScope (topS 19)) .none kV_11 dc_11 pm_11 an_11 cd_11 ct_11), sl_11⟩) (c_11 : PySem.W.codeIn K cd_11 "_law_draw" = true) (k_11 : PySem.W.keepIn K (.ref f_11) = true)
    {f_12 : Addr} {od_12 an_12 : Option Addr} {sl_12 : Array (Option Value)} {oc_12 kV_12 dc_12 pm_12 cd_12 ct_12 : Value} (a_12 : PySem.W.nsIn K mainGlobals "_law_pick" = some (some (.ref f_12))) (l_12 : K.lookup f_12 = some ⟨oc_12, od_12, .func (PySem.W.fnOf "_law_pick" "_law_pick" (defArgs (topS 20)) (defBody (topS 20)) (defScope (topS 20)) .none kV_12 dc_12 pm_12 an_12 cd_12 ct_12), sl_12⟩) (c_12 : PySem.W.codeIn K cd_12 "_law_pick" = true) (k_12 : PySem.W.keepIn K (.ref f_12) = true)
    {f_13 : Addr} {od_13 an_13 : Option Addr} {sl_13 : Array (Option Value)} {oc_13 kV_13 dc_13 pm_13 cd_13 ct_13 : Value} (a_13 : PySem.W.nsIn K mainGlobals "_law_row_drawn" = some (some (.ref f_13))) (l_13 : K.lookup f_13 = some ⟨oc_13, od_13, .func (PySem.W.fnOf "_law_row_drawn" "_law_row_drawn" (defArgs (topS 24)) (defBody (topS 24)) (defScope (topS 24)) .none kV_13 dc_13 pm_13 an_13 cd_13 ct_13), sl_13⟩) (c_13 : PySem.W.codeIn K cd_13 "_law_row_drawn" = true) (k_13 : PySem.W.keepIn K (.ref f_13) = true)
    {f_14 : Addr} {od_14 an_14 : Option Addr} {sl_14 : Array (Option Value)} {oc_14 kV_14 dc_14 pm_14 cd_14 ct_14 : Value} (a_14 : PySem.W.nsIn K mainGlobals "_law_scene" = some (some (.ref f_14))) (l_14 : K.lookup f_14 = some ⟨oc_14, od_14, .func (PySem.W.fnOf "_law_scene" "_law_scene" (defArgs (topS 25)) (defBody (topS 25)) (defScope (topS 25)) .none kV_14 dc_14 pm_14 an_14 cd_14 ct_14), sl_14⟩) (c_14 : PySem.W.codeIn K cd_14 "_law_scene" = true) (k_14 : PySem.W.keepIn K (.ref f_14) = true)
    {f_15 : Addr} {od_15 an_15 : Option Addr} {sl_15 : Array (Option Value)} {oc_15 kV_15 dc_15 pm_15 cd_15 ct_15 : Value} (a_15 : PySem.W.nsIn K mainGlobals "_law_places" = some (some (.ref f_15))) (l_15 : K.lookup f_15 = some ⟨oc_15, od_15, .func (PySem.W.fnOf "_law_places" "_law_places" (defArgs (topS 26)) (defBody (topS 26)) (defScope (topS 26)) .none kV_15 dc_15 pm_15 an_15 cd_15 ct_15), sl_15⟩) (c_15 : PySem.W.codeIn K cd_15 "_law_places" = true) (k_15 : PySem.W.keepIn K (.ref f_15) = true)
    {f_16 : Addr} {od_16 an_16 : Option Addr} {sl_16 : Array (Option Value)} {oc_16 kV_16 dc_16 pm_16 cd_16 ct_16 : Value} (a_16 : PySem.W.nsIn K mainGlobals "law" = some (some (.ref f_16))) (l_16 : K.lookup f_16 = some ⟨oc_16, od_16, .func (PySem.W.fnOf "law" "law" (defArgs (topS 27)) (defBody (topS 27)) (defScope (topS 27)) .none kV_16 dc_16 pm_16 an_16 cd_16 ct_16), sl_16⟩) (c_16 : PySem.W.codeIn K cd_16 "law" = true) (k_16 : PySem.W.keepIn K (.ref f_16) = true)
    (z_ValueError : PySem.W.nsIn K mainGlobals "ValueError" = some none)
    (z_bool : PySem.W.nsIn K mainGlobals "bool" = some none)
    (z_enumerate : PySem.W.nsIn K mainGlobals "enumerate" = some none)
    (z_int : PySem.W.nsIn K mainGlobals "int" = some none)
    (z_isinstance : PySem.W.nsIn K mainGlobals "isinstance" = some none)
    (z_len : PySem.W.nsIn K mainGlobals "len" = some none)
    (z_list : PySem.W.nsIn K mainGlobals "list" = some none)
    (z_max : PySem.W.nsIn K mainGlobals "max" = some none)
    (z_min : PySem.W.nsIn K mainGlobals "min" = some none)
    (z_range : PySem.W.nsIn K mainGlobals "range" = some none)
    (z_repr : PySem.W.nsIn K mainGlobals "repr" = some none)
    (z_set : PySem.W.nsIn K mainGlobals "set" = some none)
    (z_sorted : PySem.W.nsIn K mainGlobals "sorted" = some none)
    (z_sum : PySem.W.nsIn K mainGlobals "sum" = some none)
    (z_tuple : PySem.W.nsIn K mainGlobals "tuple" = some none)
    {k_GREATEST_GAP : Tok} (v_GREATEST_GAP : PySem.W.nsIn K mainGlobals "GREATEST_GAP" = some (some (.int (99) k_GREATEST_GAP)))
    {k_GREATEST_K : Tok} (v_GREATEST_K : PySem.W.nsIn K mainGlobals "GREATEST_K" = some (some (.int (60) k_GREATEST_K)))
    {k_MOST_GAPS : Tok} (v_MOST_GAPS : PySem.W.nsIn K mainGlobals "MOST_GAPS" = some (some (.int (24) k_MOST_GAPS)))
    {C_BadK : Addr} (q_BadK : PySem.W.nsIn K mainGlobals "BadK" = some (some (.ref C_BadK)))
    {C_BadRow : Addr} (q_BadRow : PySem.W.nsIn K mainGlobals "BadRow" = some (some (.ref C_BadRow)))
    {fI : Addr}
    (sp_G : PySem.W.specialIn K (.builtin "object.__class__") "__get__" = some (some (.builtin "getset_descriptor.__get__"))) (tk_G : PySem.W.takesIn K (.builtin "object.__class__") = some true) (op_G : PySem.W.nsIn K cStatics "thirdparty.any" = some none)
    {nm_BadK qn_BadK : Str} {NN_BadK : Addr} {bs_BadK bm_BadK : List Value} {sn_BadK : List Str} {sub_BadK : List Value} {ab_BadK : Bool} {col_BadK : Option Bool} {dd_BadK : Option Addr} {m0_BadK m1_BadK m2_BadK m3_BadK m5_BadK : Option Value} (xL_BadK : K.lookup C_BadK = some (excClassObj nm_BadK qn_BadK C_BadK NN_BadK bs_BadK bm_BadK true sn_BadK sub_BadK ab_BadK col_BadK dd_BadK m0_BadK m1_BadK m2_BadK m3_BadK m5_BadK "ValueError.__new__")) (rB_BadK : PySem.HandSPX.refsVE bm_BadK = true) (sa_BadK : PySem.W.findIn K (.ref C_BadK) "__setattr__" = some (some (.builtin "object.__setattr__"))) (ga_BadK : PySem.W.findIn K (.ref C_BadK) "__getattribute__" = some (some (.builtin "BaseException.__getattribute__"))) (gg_BadK : PySem.W.findIn K (.ref C_BadK) "__getattr__" = some none) (nw_BadK : PySem.W.findIn K (.ref C_BadK) "what" = some none) (ii_BadK : PySem.W.findIn K (.ref C_BadK) "__init__" = some (some (.ref fI))) (kC_BadK : PySem.W.keepIn K (.ref C_BadK) = true) (eC_BadK : PySem.W.subIn K (.ref C_BadK) (.type "BaseException") = some true) (tC_BadK : PySem.W.typeIn K (.ref C_BadK) = some (.type "type")) (hD_BadK : PySem.W.hasDictIn K C_BadK = true) (nk_BadK : PySem.W.findIn K (.ref C_BadK) "kind" = some none) (ci_BadK : (PySem.W.clsIn K C_BadK).isSome = true) (cd_BadK : PySem.W.findIn K (.ref C_BadK) "__class__" = some (some (.builtin "object.__class__"))) (mr_BadK : PySem.W.mroIn K C_BadK (.type "object") = some true) (kn_BadK : (keptName K C_BadK).isSome = true) (fc_BadK : PySem.W.findCls K (.ref C_BadK) (.type "type") "__name__" = some (.get (.builtin "getset_descriptor.__get__") (.builtin "type.__name__") (.ref C_BadK) (.type "type")))
    {nm_BadRow qn_BadRow : Str} {NN_BadRow : Addr} {bs_BadRow bm_BadRow : List Value} {sn_BadRow : List Str} {sub_BadRow : List Value} {ab_BadRow : Bool} {col_BadRow : Option Bool} {dd_BadRow : Option Addr} {m0_BadRow m1_BadRow m2_BadRow m3_BadRow m5_BadRow : Option Value} (xL_BadRow : K.lookup C_BadRow = some (excClassObj nm_BadRow qn_BadRow C_BadRow NN_BadRow bs_BadRow bm_BadRow true sn_BadRow sub_BadRow ab_BadRow col_BadRow dd_BadRow m0_BadRow m1_BadRow m2_BadRow m3_BadRow m5_BadRow "ValueError.__new__")) (rB_BadRow : PySem.HandSPX.refsVE bm_BadRow = true) (sa_BadRow : PySem.W.findIn K (.ref C_BadRow) "__setattr__" = some (some (.builtin "object.__setattr__"))) (ga_BadRow : PySem.W.findIn K (.ref C_BadRow) "__getattribute__" = some (some (.builtin "BaseException.__getattribute__"))) (gg_BadRow : PySem.W.findIn K (.ref C_BadRow) "__getattr__" = some none) (nw_BadRow : PySem.W.findIn K (.ref C_BadRow) "what" = some none) (ii_BadRow : PySem.W.findIn K (.ref C_BadRow) "__init__" = some (some (.ref fI))) (kC_BadRow : PySem.W.keepIn K (.ref C_BadRow) = true) (eC_BadRow : PySem.W.subIn K (.ref C_BadRow) (.type "BaseException") = some true) (tC_BadRow : PySem.W.typeIn K (.ref C_BadRow) = some (.type "type")) (hD_BadRow : PySem.W.hasDictIn K C_BadRow = true) (nk_BadRow : PySem.W.findIn K (.ref C_BadRow) "kind" = some none) (ci_BadRow : (PySem.W.clsIn K C_BadRow).isSome = true) (cd_BadRow : PySem.W.findIn K (.ref C_BadRow) "__class__" = some (some (.builtin "object.__class__"))) (mr_BadRow : PySem.W.mroIn K C_BadRow (.type "object") = some true) (kn_BadRow : (keptName K C_BadRow).isSome = true) (fc_BadRow : PySem.W.findCls K (.ref C_BadRow) (.type "type") "__name__" = some (.get (.builtin "getset_descriptor.__get__") (.builtin "type.__name__") (.ref C_BadRow) (.type "type")))
    {od_i an_i : Option Addr} {sl_i : Array (Option Value)} {oc_i kV_i dc_i pm_i cd_i ct_i : Value} (l_i : K.lookup fI = some ⟨oc_i, od_i, .func (PySem.W.fnOf "__init__" "Refused.__init__" (defArgs (inClass (topS 1) 0)) (defBody (inClass (topS 1) 0)) (defScope (inClass (topS 1) 0)) .none kV_i dc_i pm_i an_i cd_i ct_i), sl_i⟩) (c_i : PySem.W.codeIn K cd_i "Refused.__init__" = true) (k_i : PySem.W.keepIn K (.ref fI) = true) (t_i : PySem.W.typeIn K (.ref fI) = some (.type "function"))
    (v_V : PySem.W.findCls K (.type "ValueError") (.type "type") "__init__" = some (.val (.builtin "ValueError.__init__"))) :
    ∃ fd : FuncData, (∀ (s : Shared) (v : Value), BindsTo s fd ⟨[v], []⟩ [("script", v)]) ∧ ∀ base : Heap, K.In base → base.Ns mainGlobals mg → FnG l.prog w K mg base (L2.CX l.prog w) 7 fa fd ["script"] (SpG K [] mg 1 s_law) := by
  have e := hfa.symm.trans (PySem.W.mg_of X G a_16)
  cases e
  let t : Top K mg := {
    a_is_number := f_0
    d_is_number := _
    g_is_number := PySem.W.mg_of X G a_0
    F_is_number := fun_mk (st := topS 5) l_0 c_0 k_0
    b_is_number := (fun_mk (st := topS 5) l_0 c_0 k_0).binds (ps := ["thing"]) (fun _ _ _ _ _ _ us hl => match us, hl with | [_], _ => rfl)
    a_is_within := f_1
    d_is_within := _
    g_is_within := PySem.W.mg_of X G a_1
    F_is_within := fun_mk (st := topS 6) l_1 c_1 k_1
    b_is_within := (fun_mk (st := topS 6) l_1 c_1 k_1).binds (ps := ["thing", "low", "high"]) (fun _ _ _ _ _ _ us hl => match us, hl with | [_, _, _], _ => rfl)
    a_made_k := f_2
    d_made_k := _
    g_made_k := PySem.W.mg_of X G a_2
    F_made_k := fun_mk (st := topS 12) l_2 c_2 k_2
    b_made_k := (fun_mk (st := topS 12) l_2 c_2 k_2).binds (ps := ["thing"]) (fun _ _ _ _ _ _ us hl => match us, hl with | [_], _ => rfl)
    a_wrong_at := f_3
    d_wrong_at := _
    g_wrong_at := PySem.W.mg_of X G a_3
    F_wrong_at := fun_mk (st := topS 7) l_3 c_3 k_3
    b_wrong_at := (fun_mk (st := topS 7) l_3 c_3 k_3).binds (ps := ["thing", "fewest", "greatest", "low", "high"]) (fun _ _ _ _ _ _ us hl => match us, hl with | [_, _, _, _, _], _ => rfl)
    a_made_row := f_4
    d_made_row := _
    g_made_row := PySem.W.mg_of X G a_4
    F_made_row := fun_mk (st := topS 13) l_4 c_4 k_4
    b_made_row := (fun_mk (st := topS 13) l_4 c_4 k_4).binds (ps := ["thing"]) (fun _ _ _ _ _ _ us hl => match us, hl with | [_], _ => rfl)
    a_owned := f_5
    d_owned := _
    g_owned := PySem.W.mg_of X G a_5
    F_owned := fun_mk (st := topS 15) l_5 c_5 k_5
    b_owned := (fun_mk (st := topS 15) l_5 c_5 k_5).binds (ps := ["k", "row"]) (fun _ _ _ _ _ _ us hl => match us, hl with | [_, _], _ => rfl)
    a_alone := f_6
    d_alone := _
    g_alone := PySem.W.mg_of X G a_6
    F_alone := fun_mk (st := topS 16) l_6 c_6 k_6
    b_alone := (fun_mk (st := topS 16) l_6 c_6 k_6).binds (ps := ["k", "row"]) (fun _ _ _ _ _ _ us hl => match us, hl with | [_, _], _ => rfl)
    a__law_pool := f_7
    d__law_pool := _
    g__law_pool := PySem.W.mg_of X G a_7
    F__law_pool := fun_mk (st := topS 18) l_7 c_7 k_7
    b__law_pool := (fun_mk (st := topS 18) l_7 c_7 k_7).binds (ps := ["script"]) (fun _ _ _ _ _ _ us hl => match us, hl with | [_], _ => rfl)
    a__law_row_cells := f_8
    d__law_row_cells := _
    g__law_row_cells := PySem.W.mg_of X G a_8
    F__law_row_cells := fun_mk (st := topS 21) l_8 c_8 k_8
    b__law_row_cells := (fun_mk (st := topS 21) l_8 c_8 k_8).binds (ps := ["row", "start", "many"]) (fun _ _ _ _ _ _ us hl => match us, hl with | [_, _, _], _ => rfl)
    a__law_row_views := f_9
    d__law_row_views := _
    g__law_row_views := PySem.W.mg_of X G a_9
    F__law_row_views := fun_mk (st := topS 22) l_9 c_9 k_9
    b__law_row_views := (fun_mk (st := topS 22) l_9 c_9 k_9).binds (ps := ["k", "row"]) (fun _ _ _ _ _ _ us hl => match us, hl with | [_, _], _ => rfl)
    a__law_row_alone := f_10
    d__law_row_alone := _
    g__law_row_alone := PySem.W.mg_of X G a_10
    F__law_row_alone := fun_mk (st := topS 23) l_10 c_10 k_10
    b__law_row_alone := (fun_mk (st := topS 23) l_10 c_10 k_10).binds (ps := ["k", "row"]) (fun _ _ _ _ _ _ us hl => match us, hl with | [_, _], _ => rfl)
    a__law_draw := f_11
    d__law_draw := _
    g__law_draw := PySem.W.mg_of X G a_11
    F__law_draw := fun_mk (st := topS 19) l_11 c_11 k_11
    b__law_draw := (fun_mk (st := topS 19) l_11 c_11 k_11).binds (ps := ["pool", "many"]) (fun _ _ _ _ _ _ us hl => match us, hl with | [_, _], _ => rfl)
    a__law_pick := f_12
    d__law_pick := _
    g__law_pick := PySem.W.mg_of X G a_12
    F__law_pick := fun_mk (st := topS 20) l_12 c_12 k_12
    b__law_pick := (fun_mk (st := topS 20) l_12 c_12 k_12).binds (ps := ["pool", "things"]) (fun _ _ _ _ _ _ us hl => match us, hl with | [_, _], _ => rfl)
    a__law_row_drawn := f_13
    d__law_row_drawn := _
    g__law_row_drawn := PySem.W.mg_of X G a_13
    F__law_row_drawn := fun_mk (st := topS 24) l_13 c_13 k_13
    b__law_row_drawn := (fun_mk (st := topS 24) l_13 c_13 k_13).binds (ps := ["pool", "gaps", "top"]) (fun _ _ _ _ _ _ us hl => match us, hl with | [_, _, _], _ => rfl)
    a__law_scene := f_14
    d__law_scene := _
    g__law_scene := PySem.W.mg_of X G a_14
    F__law_scene := fun_mk (st := topS 25) l_14 c_14 k_14
    b__law_scene := (fun_mk (st := topS 25) l_14 c_14 k_14).binds (ps := ["pool"]) (fun _ _ _ _ _ _ us hl => match us, hl with | [_], _ => rfl)
    a__law_places := f_15
    d__law_places := _
    g__law_places := PySem.W.mg_of X G a_15
    F__law_places := fun_mk (st := topS 26) l_15 c_15 k_15
    b__law_places := (fun_mk (st := topS 26) l_15 c_15 k_15).binds (ps := ["k", "row"]) (fun _ _ _ _ _ _ us hl => match us, hl with | [_, _], _ => rfl)
    a_law := fa
    d_law := _
    g_law := PySem.W.mg_of X G a_16
    F_law := fun_mk (st := topS 27) l_16 c_16 k_16
    b_law := (fun_mk (st := topS 27) l_16 c_16 k_16).binds (ps := ["script"]) (fun _ _ _ _ _ _ us hl => match us, hl with | [_], _ => rfl)
    m_ValueError := PySem.W.mg_none_of X G z_ValueError
    m_bool := PySem.W.mg_none_of X G z_bool
    m_enumerate := PySem.W.mg_none_of X G z_enumerate
    m_int := PySem.W.mg_none_of X G z_int
    m_isinstance := PySem.W.mg_none_of X G z_isinstance
    m_len := PySem.W.mg_none_of X G z_len
    m_list := PySem.W.mg_none_of X G z_list
    m_max := PySem.W.mg_none_of X G z_max
    m_min := PySem.W.mg_none_of X G z_min
    m_range := PySem.W.mg_none_of X G z_range
    m_repr := PySem.W.mg_none_of X G z_repr
    m_set := PySem.W.mg_none_of X G z_set
    m_sorted := PySem.W.mg_none_of X G z_sorted
    m_sum := PySem.W.mg_none_of X G z_sum
    m_tuple := PySem.W.mg_none_of X G z_tuple
    k_GREATEST_GAP := k_GREATEST_GAP
    c_GREATEST_GAP := PySem.W.mg_of X G v_GREATEST_GAP
    k_GREATEST_K := k_GREATEST_K
    c_GREATEST_K := PySem.W.mg_of X G v_GREATEST_K
    k_MOST_GAPS := k_MOST_GAPS
    c_MOST_GAPS := PySem.W.mg_of X G v_MOST_GAPS
    C_BadK := C_BadK
    q_BadK := PySem.W.mg_of X G q_BadK
    C_BadRow := C_BadRow
    q_BadRow := PySem.W.mg_of X G q_BadRow
    E_BadK := { gC := PySem.W.mg_of X G q_BadK, T := ⟨⟨_, _, _, _, _, _, _, _, _, _, _, _, _, _, _, xL_BadK, rB_BadK⟩, sa_BadK, eC_BadK, tC_BadK, kC_BadK⟩, iC := ii_BadK, noW := nw_BadK, xf := ⟨ga_BadK, gg_BadK, eC_BadK, hD_BadK⟩, noK := nk_BadK, xi := ⟨ci_BadK, ga_BadK, gg_BadK, eC_BadK, cd_BadK, sp_G, tk_G, mr_BadK⟩, nm := ⟨kn_BadK, tC_BadK, op_G, fc_BadK⟩ }
    E_BadRow := { gC := PySem.W.mg_of X G q_BadRow, T := ⟨⟨_, _, _, _, _, _, _, _, _, _, _, _, _, _, _, xL_BadRow, rB_BadRow⟩, sa_BadRow, eC_BadRow, tC_BadRow, kC_BadRow⟩, iC := ii_BadRow, noW := nw_BadRow, xf := ⟨ga_BadRow, gg_BadRow, eC_BadRow, hD_BadRow⟩, noK := nk_BadRow, xi := ⟨ci_BadRow, ga_BadRow, gg_BadRow, eC_BadRow, cd_BadRow, sp_G, tk_G, mr_BadRow⟩, nm := ⟨kn_BadRow, tC_BadRow, op_G, fc_BadRow⟩ }
    fI := fI
    d_init := _
    F_init := fun_mk (st := (inClass (topS 1) 0)) l_i c_i k_i
    b_init := (fun_mk (st := (inClass (topS 1) 0)) l_i c_i k_i).binds (ps := ["self", "what"]) (fun _ _ _ _ _ _ us hl => match us, hl with | [_, _], _ => rfl)
    tI := t_i
    vV := v_V }
  exact ⟨_, fun s v => .of_eq rfl, fun base _ _ => ok_law t⟩
end Gk05

open PySem PySem.W PyProof.Rows in
set_option maxHeartbeats 0 in
theorem PySem.Challenge.cw_undertwo_k05_places_of_dots_holds : PySem.Challenge.rw_undertwo_k05_places_of_dots.Holds := by
  w_on; o_law; k_head; (case hw => w_witness2)
  k_fill
  refine Mm.walk_ofG (l := PySem.Challenge.rw_undertwo_k05_places_of_dots) (n := 63) (k := 7) (x := "script") (g := Gk05.s_law) rfl (by decide) rfl ⟨rfl, by decide, by decide⟩ (fun w h Y => PySem.W.kIn_of Y) ?F Gk05.law_true
  case F =>
    intro w mg fa h KX G hmg
    refine' Gk05.all_mk KX G hmg ?a_0 ?l_0 ?c_0 ?k_0 ?a_1 ?l_1 ?c_1 ?k_1 ?a_2 ?l_2 ?c_2 ?k_2 ?a_3 ?l_3 ?c_3 ?k_3 ?a_4 ?l_4 ?c_4 ?k_4 ?a_5 ?l_5 ?c_5 ?k_5 ?a_6 ?l_6 ?c_6 ?k_6 ?a_7 ?l_7 ?c_7 ?k_7 ?a_8 ?l_8 ?c_8 ?k_8 ?a_9 ?l_9 ?c_9 ?k_9 ?a_10 ?l_10 ?c_10 ?k_10 ?a_11 ?l_11 ?c_11 ?k_11 ?a_12 ?l_12 ?c_12 ?k_12 ?a_13 ?l_13 ?c_13 ?k_13 ?a_14 ?l_14 ?c_14 ?k_14 ?a_15 ?l_15 ?c_15 ?k_15 ?a_16 ?l_16 ?c_16 ?k_16 ?z_ValueError ?z_bool ?z_enumerate ?z_int ?z_isinstance ?z_len ?z_list ?z_max ?z_min ?z_range ?z_repr ?z_set ?z_sorted ?z_sum ?z_tuple ?v_GREATEST_GAP ?v_GREATEST_K ?v_MOST_GAPS ?q_BadK ?q_BadRow ?sp_G ?tk_G ?op_G ?xL_BadK ?rB_BadK ?sa_BadK ?ga_BadK ?gg_BadK ?nw_BadK ?ii_BadK ?kC_BadK ?eC_BadK ?tC_BadK ?hD_BadK ?nk_BadK ?ci_BadK ?cd_BadK ?mr_BadK ?kn_BadK ?fc_BadK ?xL_BadRow ?rB_BadRow ?sa_BadRow ?ga_BadRow ?gg_BadRow ?nw_BadRow ?ii_BadRow ?kC_BadRow ?eC_BadRow ?tC_BadRow ?hD_BadRow ?nk_BadRow ?ci_BadRow ?cd_BadRow ?mr_BadRow ?kn_BadRow ?fc_BadRow ?l_i ?c_i ?k_i ?t_i ?v_V
    (case a_0 => k_is)
    (case l_0 => k_is)
    (case c_0 => k_is)
    (case k_0 => k_is)
    (case a_1 => k_is)
    (case l_1 => k_is)
    (case c_1 => k_is)
    (case k_1 => k_is)
    (case a_2 => k_is)
    (case l_2 => k_is)
    (case c_2 => k_is)
    (case k_2 => k_is)
    (case a_3 => k_is)
    (case l_3 => k_is)
    (case c_3 => k_is)
    (case k_3 => k_is)
    (case a_4 => k_is)
    (case l_4 => k_is)
    (case c_4 => k_is)
    (case k_4 => k_is)
    (case a_5 => k_is)
    (case l_5 => k_is)
    (case c_5 => k_is)
    (case k_5 => k_is)
    (case a_6 => k_is)
    (case l_6 => k_is)
    (case c_6 => k_is)
    (case k_6 => k_is)
    (case a_7 => k_is)
    (case l_7 => k_is)
    (case c_7 => k_is)
    (case k_7 => k_is)
    (case a_8 => k_is)
    (case l_8 => k_is)
    (case c_8 => k_is)
    (case k_8 => k_is)
    (case a_9 => k_is)
    (case l_9 => k_is)
    (case c_9 => k_is)
    (case k_9 => k_is)
    (case a_10 => k_is)
    (case l_10 => k_is)
    (case c_10 => k_is)
    (case k_10 => k_is)
    (case a_11 => k_is)
    (case l_11 => k_is)
    (case c_11 => k_is)
    (case k_11 => k_is)
    (case a_12 => k_is)
    (case l_12 => k_is)
    (case c_12 => k_is)
    (case k_12 => k_is)
    (case a_13 => k_is)
    (case l_13 => k_is)
    (case c_13 => k_is)
    (case k_13 => k_is)
    (case a_14 => k_is)
    (case l_14 => k_is)
    (case c_14 => k_is)
    (case k_14 => k_is)
    (case a_15 => k_is)
    (case l_15 => k_is)
    (case c_15 => k_is)
    (case k_15 => k_is)
    (case a_16 => k_is)
    (case l_16 => k_is)
    (case c_16 => k_is)
    (case k_16 => k_is)
    (case z_ValueError => k_is)
    (case z_bool => k_is)
    (case z_enumerate => k_is)
    (case z_int => k_is)
    (case z_isinstance => k_is)
    (case z_len => k_is)
    (case z_list => k_is)
    (case z_max => k_is)
    (case z_min => k_is)
    (case z_range => k_is)
    (case z_repr => k_is)
    (case z_set => k_is)
    (case z_sorted => k_is)
    (case z_sum => k_is)
    (case z_tuple => k_is)
    (case v_GREATEST_GAP => k_is)
    (case v_GREATEST_K => k_is)
    (case v_MOST_GAPS => k_is)
    (case q_BadK => k_is)
    (case q_BadRow => k_is)
    (case sp_G => first | k_is | rfl | decide +kernel)
    (case tk_G => first | k_is | rfl | decide +kernel)
    (case op_G => first | k_is | rfl | decide +kernel)
    (case xL_BadK => k_is)
    (case rB_BadK => first | rfl | decide +kernel)
    (case sa_BadK => k_is)
    (case ga_BadK => k_is)
    (case gg_BadK => k_is)
    (case nw_BadK => k_is)
    (case ii_BadK => k_is)
    (case kC_BadK => k_is)
    (case eC_BadK => k_is)
    (case tC_BadK => k_is)
    (case hD_BadK => k_is)
    (case nk_BadK => k_is)
    (case ci_BadK => first | k_is | rfl | decide +kernel)
    (case cd_BadK => first | k_is | rfl | decide +kernel)
    (case mr_BadK => first | k_is | rfl | decide +kernel)
    (case kn_BadK => first | k_is | rfl | decide +kernel)
    (case fc_BadK => first | k_is | rfl | decide +kernel)
    (case xL_BadRow => k_is)
    (case rB_BadRow => first | rfl | decide +kernel)
    (case sa_BadRow => k_is)
    (case ga_BadRow => k_is)
    (case gg_BadRow => k_is)
    (case nw_BadRow => k_is)
    (case ii_BadRow => k_is)
    (case kC_BadRow => k_is)
    (case eC_BadRow => k_is)
    (case tC_BadRow => k_is)
    (case hD_BadRow => k_is)
    (case nk_BadRow => k_is)
    (case ci_BadRow => first | k_is | rfl | decide +kernel)
    (case cd_BadRow => first | k_is | rfl | decide +kernel)
    (case mr_BadRow => first | k_is | rfl | decide +kernel)
    (case kn_BadRow => first | k_is | rfl | decide +kernel)
    (case fc_BadRow => first | k_is | rfl | decide +kernel)
    (case l_i => k_is)
    (case c_i => k_is)
    (case k_i => k_is)
    (case t_i => first | k_is | rfl | decide +kernel)
    (case v_V => first | k_is | rfl | decide +kernel)
