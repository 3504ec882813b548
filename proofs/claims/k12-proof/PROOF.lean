import PyProof.Rows.All
import Wide.All
import OpenK.AllK
import Wide.FinOn
import HandS.ForMost
import HandS.Evl
import HandS.TryMany
import HandS.ExcInit
import HandS.ExcOwn
import HandS.Lambda
import HandS.IsInst
import HandS.Style
import HandS.Wide
import HandS.TupMul
import HandS.TupAny
import HandS.Gcd
import HandS.Conv
import HandS.Walk
import HandS.Flow
import HandS.SortInts
import HandS.RaiseMore
import KE.DataMinMax
import KE.KTupSum
import KE.GoesEnum
import HandS.ExcField
import HandS.ExcIs
import KE.KTypeName
import HandS.WordsExc
import HandS.EndTab
import PyProof.ReprBulk
import PyProof.Rows.StrJoinMade
import HandS.Star
import KE.GoesNew
import KE.GoesMore
import KE.KExcIs
import KE.SortData
import HandS.Strs
import HandS.NoneIn
import PySem.Challenge.RW_undertwo_k12_cheapest_by_shares
set_option Elab.async false
set_option linter.all false
set_option maxRecDepth 100000
set_option maxHeartbeats 4000000
/-! Mm: programs over data. A store of cells, what expressions and statements do to it, and that the machine does the same. -/
namespace Mm
open PySem L2

/-! ### data -/
inductive D where
  | non | bl (b : Bool) | int (i : Int) | str (x : Str) | tup (xs : List D) | ref (i : Nat)
inductive Cell where
  | lst (xs : List D)
  | ro (xs : List D)
abbrev Sto := List Cell
structure Exn where
  cls : Str
  what : D
inductive R (a : Type) where
  | ok (x : a) (st : Sto) | ex (x : Exn) (st : Sto) | no
def R.bind {a b : Type} (r : R a) (k : a → Sto → R b) : R b := match r with
  | .ok x st => k x st
  | .ex x st => .ex x st
  | .no => .no
abbrev Env := List (Option D)
abbrev EX := Env → Sto → R D
abbrev AX := Env → Sto → R (List D)
abbrev BX := Env → Sto → R Bool
inductive RS where
  | nx (e : Env) (st : Sto) | ret (d : D) (st : Sto) | brk (e : Env) (st : Sto) | ct (e : Env) (st : Sto) | exc (x : Exn) (e : Env) (st : Sto) | no
abbrev SX := Env → Sto → RS

mutual
def D.beq : D → D → Bool
  | .non, .non => true
  | .bl a, .bl b => a == b
  | .int a, .int b => decide (a = b)
  | .str a, .str b => decide (a = b)
  | .tup xs, .tup ys => D.beqs xs ys
  | .ref a, .ref b => Nat.beq a b
  | _, _ => false
def D.beqs : List D → List D → Bool
  | [], [] => true
  | x :: xs, y :: ys => D.beq x y && D.beqs xs ys
  | _, _ => false
end
mutual
theorem D.beq_eq : ∀ {x y : D}, D.beq x y = true → x = y
  | .non, .non, _ => rfl
  | .bl a, .bl b, h => by simp only [D.beq, beq_iff_eq] at h; rw [h]
  | .int a, .int b, h => by simp only [D.beq, decide_eq_true_eq] at h; rw [h]
  | .str a, .str b, h => by simp only [D.beq, decide_eq_true_eq] at h; rw [h]
  | .tup xs, .tup ys, h => by simp only [D.beq] at h; rw [D.beqs_eq h]
  | .ref a, .ref b, h => by rw [show a = b from Nat.eq_of_beq_eq_true h]
  | .non, .bl _, h | .non, .int _, h | .non, .str _, h | .non, .tup _, h | .non, .ref _, h => by simp [D.beq] at h
  | .bl _, .non, h | .bl _, .int _, h | .bl _, .str _, h | .bl _, .tup _, h | .bl _, .ref _, h => by simp [D.beq] at h
  | .int _, .non, h | .int _, .bl _, h | .int _, .str _, h | .int _, .tup _, h | .int _, .ref _, h => by simp [D.beq] at h
  | .str _, .non, h | .str _, .bl _, h | .str _, .int _, h | .str _, .tup _, h | .str _, .ref _, h => by simp [D.beq] at h
  | .tup _, .non, h | .tup _, .bl _, h | .tup _, .int _, h | .tup _, .str _, h | .tup _, .ref _, h => by simp [D.beq] at h
  | .ref _, .non, h | .ref _, .bl _, h | .ref _, .int _, h | .ref _, .str _, h | .ref _, .tup _, h => by simp [D.beq] at h
theorem D.beqs_eq : ∀ {xs ys : List D}, D.beqs xs ys = true → xs = ys
  | [], [], _ => rfl
  | x :: xs, y :: ys, h => by simp only [D.beqs, Bool.and_eq_true] at h; rw [D.beq_eq h.1, D.beqs_eq h.2]
  | [], _ :: _, h => by simp [D.beqs] at h
  | _ :: _, [], h => by simp [D.beqs] at h
end
mutual
theorem D.beq_refl : ∀ (x : D), D.beq x x = true
  | .non => rfl
  | .bl a => by simp [D.beq]
  | .int a => by simp [D.beq]
  | .str a => by simp [D.beq]
  | .tup xs => by simp only [D.beq]; exact D.beqs_refl xs
  | .ref a => by simp [D.beq]
theorem D.beqs_refl : ∀ (xs : List D), D.beqs xs xs = true
  | [] => rfl
  | x :: xs => by simp only [D.beqs, D.beq_refl x, D.beqs_refl xs, Bool.and_self]
end
instance : DecidableEq D := fun a b => if h : D.beq a b = true then .isTrue (D.beq_eq h) else .isFalse fun e => h (e ▸ D.beq_refl a)
instance : DecidableEq Cell := fun a b => match a, b with
  | .lst x, .lst y => if h : x = y then .isTrue (by rw [h]) else .isFalse fun e => h (Cell.lst.inj e)
  | .ro x, .ro y => if h : x = y then .isTrue (by rw [h]) else .isFalse fun e => h (Cell.ro.inj e)
  | .lst _, .ro _ => .isFalse fun e => nomatch e
  | .ro _, .lst _ => .isFalse fun e => nomatch e

/-! ### what stands for what -/
abbrev tupO (us : List Value) : Obj := { cls := .type "tuple", data := .seq us.toArray }
/-- the object at a has no dict of its own -/
def Nd (K : PySem.W.Frag) (H : Hp) (a : Addr) : Prop := (∃ o u, H a = some (.frz o u) ∧ o.dict = none) ∨ ∃ o, K.lookup a = some o ∧ o.dict = none
/-- a tuple without a dict of its own -/
structure SqN (K : PySem.W.Frag) (H : Hp) (a : Addr) (xs : List V) : Prop where
  sq : SqT K H a xs
  nd : Nd K H a
theorem SqN.new {K : PySem.W.Frag} {H : Hp} {p : Addr} {o : Obj} {xs : List V} (ho : o.dict = none) : SqN K (upd H p (.frz o (.tup xs))) p xs :=
  ⟨.inl (.inr ⟨o, upd_same⟩), .inl ⟨o, _, upd_same, ho⟩⟩
section
variable (K : PySem.W.Frag) (H : Hp) (m : List Addr)
mutual
def Rep : D → V → Prop
  | .non, v => v = .non
  | .bl b, v => v = .bl b
  | .int i, v => v = .int i
  | .str x, v => v = .str x
  | .tup ds, v => ∃ a vs, v = .ref a ∧ SqN K H a vs ∧ Reps ds vs
  | .ref i, v => ∃ a, m[i]? = some a ∧ v = .ref a
def Reps : List D → List V → Prop
  | [], vs => vs = []
  | d :: ds, vs => ∃ v r, vs = v :: r ∧ Rep d v ∧ Reps ds r
end
end
/-- what stays of the heap -/
structure Le (H H' : Hp) : Prop where
  tup : ∀ a xs, H a = some (.tup xs) → H' a = some (.tup xs)
  frz : ∀ a o u, H a = some (.frz o u) → H' a = some (.frz o u)
  cod : ∀ a q, H a = some (LamX.CodeO a q) → H' a = some (LamX.CodeO a q)
theorem Le.refl (H : Hp) : Le H H := ⟨fun _ _ h => h, fun _ _ _ h => h, fun _ _ h => h⟩
theorem Le.trans {H H1 H2 : Hp} (a : Le H H1) (b : Le H1 H2) : Le H H2 :=
  ⟨fun x xs h => b.tup x xs (a.tup x xs h), fun x o u h => b.frz x o u (a.frz x o u h), fun x q h => b.cod x q (a.cod x q h)⟩
theorem Le.new {H : Hp} {p : Addr} {o : HO} (h : H p = none) : Le H (upd H p o) := by
  refine ⟨fun a xs e => ?_, fun a o u e => ?_, fun a q e => ?_⟩
  · rw [upd_ne (ne_of_none e h)]; exact e
  · rw [upd_ne (ne_of_none e h)]; exact e
  · rw [upd_ne (ne_of_none e h)]; exact e
/-- a list is written -/
theorem Le.set {H : Hp} {p : Addr} {xs : List V} {o : HO} (h : H p = some (.lst xs)) : Le H (upd H p o) := by
  refine ⟨fun a ys e => ?_, fun a o u e => ?_, fun a q e => ?_⟩
  · rw [upd_ne (ne_of e h (by intro z; cases z))]; exact e
  · rw [upd_ne (ne_of e h (by intro z; cases z))]; exact e
  · rw [upd_ne (ne_of e h (by intro z; unfold LamX.CodeO at z; cases z))]; exact e
theorem Le.sqT {K : PySem.W.Frag} {H H' : Hp} {a : Addr} {xs : List V} (e : Le H H') (h : SqT K H a xs) : SqT K H' a xs := by
  rcases h with (h | ⟨o, h⟩) | h
  · exact .inl (.inl (e.tup _ _ h))
  · exact .inl (.inr ⟨o, e.frz _ _ _ h⟩)
  · exact .inr h
theorem Le.nd {K : PySem.W.Frag} {H H' : Hp} {a : Addr} (e : Le H H') (h : Nd K H a) : Nd K H' a := h.imp (fun ⟨o, u, q, d⟩ => ⟨o, u, e.frz _ _ _ q, d⟩) id
theorem Le.sqN {K : PySem.W.Frag} {H H' : Hp} {a : Addr} {xs : List V} (e : Le H H') (h : SqN K H a xs) : SqN K H' a xs := ⟨e.sqT h.sq, e.nd h.nd⟩
def Pre (m m' : List Addr) : Prop := ∃ r, m' = m ++ r
theorem Pre.refl (m : List Addr) : Pre m m := ⟨[], by simp⟩
theorem Pre.trans {a b c : List Addr} (h : Pre a b) (h2 : Pre b c) : Pre a c := by
  obtain ⟨r, rfl⟩ := h
  obtain ⟨s, rfl⟩ := h2
  exact ⟨r ++ s, by simp⟩
theorem Pre.add (m : List Addr) (a : Addr) : Pre m (m ++ [a]) := ⟨[a], rfl⟩
theorem Pre.get {m m' : List Addr} (h : Pre m m') {i : Nat} {a : Addr} (e : m[i]? = some a) : m'[i]? = some a := by
  obtain ⟨r, rfl⟩ := h
  rw [List.getElem?_append_left (List.getElem?_eq_some_iff.mp e).1]
  exact e
section
variable {K : PySem.W.Frag} {H H' : Hp} {m m' : List Addr}
mutual
theorem Rep.mono (e : Le H H') (p : Pre m m') : ∀ {d : D} {v : V}, Rep K H m d v → Rep K H' m' d v
  | .non, _, h => h
  | .bl _, _, h => h
  | .int _, _, h => h
  | .str _, _, h => h
  | .tup ds, v, h => by
    obtain ⟨a, vs, h1, h2, h3⟩ := h
    exact ⟨a, vs, h1, e.sqN h2, Reps.mono e p h3⟩
  | .ref i, v, h => by
    obtain ⟨a, h1, h2⟩ := h
    exact ⟨a, p.get h1, h2⟩
theorem Reps.mono (e : Le H H') (p : Pre m m') : ∀ {ds : List D} {vs : List V}, Reps K H m ds vs → Reps K H' m' ds vs
  | [], _, h => h
  | d :: ds, vs, h => by
    obtain ⟨v, r, h1, h2, h3⟩ := h
    exact ⟨v, r, h1, Rep.mono e p h2, Reps.mono e p h3⟩
end
theorem Reps.length : ∀ {ds : List D} {vs : List V}, Reps K H m ds vs → ds.length = vs.length
  | [], _, h => by cases h; rfl
  | d :: ds, vs, h => by
    obtain ⟨v, r, rfl, _, h3⟩ := h
    simp [Reps.length h3]
theorem Reps.get : ∀ {ds : List D} {vs : List V} {i : Nat} {d : D}, Reps K H m ds vs → ds[i]? = some d → ∃ v, vs[i]? = some v ∧ Rep K H m d v
  | [], _, _, _, _, e => by simp at e
  | d :: ds, vs, 0, x, h, e => by
    obtain ⟨v, r, rfl, h2, _⟩ := h
    simp at e; subst e
    exact ⟨v, rfl, h2⟩
  | d :: ds, vs, i + 1, x, h, e => by
    obtain ⟨v, r, rfl, _, h3⟩ := h
    obtain ⟨u, e1, e2⟩ := Reps.get h3 (show ds[i]? = some x by simpa using e)
    exact ⟨u, by simpa using e1, e2⟩
theorem Reps.back : ∀ {ds : List D} {vs : List V} {i : Nat} {v : V}, Reps K H m ds vs → vs[i]? = some v → ∃ d, ds[i]? = some d ∧ Rep K H m d v
  | [], _, _, _, h, e => by cases h; simp at e
  | d :: ds, vs, 0, x, h, e => by
    obtain ⟨v, r, rfl, h2, _⟩ := h
    simp at e; subst e
    exact ⟨d, rfl, h2⟩
  | d :: ds, vs, i + 1, x, h, e => by
    obtain ⟨v, r, rfl, _, h3⟩ := h
    obtain ⟨u, e1, e2⟩ := Reps.back h3 (show r[i]? = some x by simpa using e)
    exact ⟨u, by simpa using e1, e2⟩
theorem Reps.append : ∀ {ds es : List D} {vs ws : List V}, Reps K H m ds vs → Reps K H m es ws → Reps K H m (ds ++ es) (vs ++ ws)
  | [], _, _, _, h, g => by cases h; exact g
  | d :: ds, es, vs, ws, h, g => by
    obtain ⟨v, r, rfl, h2, h3⟩ := h
    exact ⟨v, r ++ ws, rfl, h2, Reps.append h3 g⟩
theorem Reps.one {d : D} {v : V} (h : Rep K H m d v) : Reps K H m [d] [v] := ⟨v, [], rfl, h, rfl⟩
theorem Reps.set : ∀ {ds : List D} {vs : List V} {i : Nat} {d : D} {v : V}, Reps K H m ds vs → Rep K H m d v → Reps K H m (ds.set i d) (vs.set i v)
  | [], _, _, _, _, h, _ => by cases h; rfl
  | d :: ds, vs, 0, x, u, h, g => by
    obtain ⟨v, r, rfl, h2, h3⟩ := h
    exact ⟨u, r, rfl, g, h3⟩
  | d :: ds, vs, i + 1, x, u, h, g => by
    obtain ⟨v, r, rfl, h2, h3⟩ := h
    exact ⟨v, r.set i u, rfl, h2, Reps.set h3 g⟩
theorem Reps.take : ∀ {ds : List D} {vs : List V} (n : Nat), Reps K H m ds vs → Reps K H m (ds.take n) (vs.take n)
  | [], _, n, h => by cases h; simp; rfl
  | d :: ds, vs, 0, h => by simp; rfl
  | d :: ds, vs, n + 1, h => by
    obtain ⟨v, r, rfl, h2, h3⟩ := h
    exact ⟨v, r.take n, rfl, h2, Reps.take n h3⟩
theorem Reps.drop : ∀ {ds : List D} {vs : List V} (n : Nat), Reps K H m ds vs → Reps K H m (ds.drop n) (vs.drop n)
  | [], _, n, h => by cases h; simp; rfl
  | d :: ds, vs, 0, h => h
  | d :: ds, vs, n + 1, h => by
    obtain ⟨v, r, rfl, h2, h3⟩ := h
    exact Reps.drop n h3
theorem Reps.dropLast {ds : List D} {vs : List V} (h : Reps K H m ds vs) : Reps K H m ds.dropLast vs.dropLast := by
  rw [List.dropLast_eq_take, List.dropLast_eq_take, ← h.length]
  exact h.take _
theorem Reps.erase {ds : List D} {vs : List V} (h : Reps K H m ds vs) (i : Nat) : Reps K H m (ds.eraseIdx i) (vs.eraseIdx i) := by
  rw [List.eraseIdx_eq_take_drop_succ, List.eraseIdx_eq_take_drop_succ]
  exact (h.take i).append (h.drop (i + 1))
theorem Reps.reverse : ∀ {ds : List D} {vs : List V}, Reps K H m ds vs → Reps K H m ds.reverse vs.reverse
  | [], _, h => by cases h; rfl
  | d :: ds, vs, h => by
    obtain ⟨v, r, rfl, h2, h3⟩ := h
    rw [List.reverse_cons, List.reverse_cons]
    exact (Reps.reverse h3).append (Reps.one h2)
theorem Reps.ints : ∀ {ns : List Int} {vs : List V}, Reps K H m (ns.map D.int) vs → vs = ns.map V.int
  | [], _, h => h
  | n :: ns, vs, h => by
    obtain ⟨v, r, rfl, h2, h3⟩ := h
    rw [show v = V.int n from h2, Reps.ints h3]
    rfl
theorem Reps.of_ints : ∀ (ns : List Int), Reps K H m (ns.map D.int) (ns.map V.int)
  | [] => rfl
  | n :: ns => ⟨.int n, ns.map V.int, rfl, rfl, Reps.of_ints ns⟩
end
def lim : Nat := 100000
theorem lim_le {n : Nat} (h : n ≤ lim) : n ≤ sizeLine := Nat.le_trans h (by decide)
theorem lim_lt {n : Nat} (h : n ≤ lim) : n < sizeLine := Nat.lt_of_le_of_lt h (by decide)
def CellOk (K : PySem.W.Frag) (H : Hp) (m : List Addr) (a : Addr) : Cell → Prop
  | .lst ds => ∃ vs, H a = some (.lst vs) ∧ Reps K H m ds vs
  | .ro ds => ∃ vs, (∀ H', Le H H' → SqL K H' a vs) ∧ Reps K H m ds vs
structure Ok (K : PySem.W.Frag) (T : List (Addr × Str)) (H : Hp) (m : List Addr) (st : Sto) : Prop where
  len : m.length = st.length
  nd : ∀ (i j : Nat) (a : Addr) (xs ys : List D), m[i]? = some a → m[j]? = some a → st[i]? = some (.lst xs) → st[j]? = some (.lst ys) → i = j
  cell : ∀ (i : Nat) (c : Cell), st[i]? = some c → ∃ a, m[i]? = some a ∧ CellOk K H m a c
  tabs : LamX.Tabs T H
/-- an exception of a class of the module, its own dict -/
def XRep (K : PySem.W.Frag) (mg : Str → Option Value) (H : Hp) (m : List Addr) (x : Exn) (cls : Value) (dd : Option Addr) : Prop :=
  ∃ C d v fs, cls = .ref C ∧ mg x.cls = some (.ref C) ∧ dd = some d ∧ H d = some (.xd fs) ∧ fs.lookup ("what" : Str) = some v ∧ Rep K H m x.what v
def EnvOk (K : PySem.W.Frag) (H : Hp) (m : List Addr) (s : L2.St) (e : Env) : Prop :=
  e.length = s.length ∧ ∀ (i : Nat) (d : D), e[i]? = some (some d) → ∃ v, s[i]? = some (some v) ∧ Rep K H m d v
theorem CellOk.list {K : PySem.W.Frag} {H : Hp} {m : List Addr} {a : Addr} : ∀ {c : Cell}, CellOk K H m a c → ∃ ds vs, (c = .lst ds ∨ c = .ro ds) ∧ SqL K H a vs ∧ Reps K H m ds vs
  | .lst ds, h => by
    obtain ⟨vs, h1, h2⟩ := h
    exact ⟨ds, vs, .inl rfl, .of h1, h2⟩
  | .ro ds, h => by
    obtain ⟨vs, h1, h2⟩ := h
    exact ⟨ds, vs, .inr rfl, h1 H (.refl H), h2⟩
end Mm

namespace Mm
open PySem L2
theorem EnvOk.mono {K : PySem.W.Frag} {H H' : Hp} {m m' : List Addr} {s : L2.St} {e : Env} (h : EnvOk K H m s e) (l : Le H H') (p : Pre m m') : EnvOk K H' m' s e :=
  ⟨h.1, fun i d q => by
    obtain ⟨v, h1, h2⟩ := h.2 i d q
    exact ⟨v, h1, h2.mono l p⟩⟩
theorem EnvOk.set {K : PySem.W.Frag} {H : Hp} {m : List Addr} {s : L2.St} {e : Env} {d : D} {v : V} (h : EnvOk K H m s e) (i : Nat) (r : Rep K H m d v) : EnvOk K H m (s.set i (some v)) (e.set i (some d)) := by
  refine ⟨by simp [h.1], fun j x q => ?_⟩
  by_cases hij : i = j
  · subst hij
    have hl : i < e.length := by
      have := (List.getElem?_eq_some_iff.mp q).1
      simpa using this
    rw [List.getElem?_set_self hl] at q
    cases q
    exact ⟨v, List.getElem?_set_self (by rw [← h.1]; exact hl), r⟩
  · rw [List.getElem?_set_ne hij] at q ⊢
    exact h.2 j x q
theorem Pre.take {m m' : List Addr} (h : Pre m m') {n : Nat} (hn : n = m.length) : m'.take n = m := by
  obtain ⟨r, rfl⟩ := h
  subst hn
  simp
section
variable {K : PySem.W.Frag} {T : List (Addr × Str)} {H H' : Hp} {m m' : List Addr} {st : Sto}
/-- a new object beside the store's -/
theorem Ok.new {p : Addr} {o : HO} (h : Ok K T H m st) (hp : H p = none) : Ok K T (upd H p o) m st := by
  have le := Le.new (o := o) hp
  refine ⟨h.len, h.nd, fun i c hc => ?_, h.tabs.ext fun b u e => by rw [upd_ne (ne_of_none e hp)]; exact e⟩
  obtain ⟨a, h1, h2⟩ := h.cell i c hc
  refine ⟨a, h1, ?_⟩
  cases c with
  | lst ds =>
    obtain ⟨vs, h3, h4⟩ := h2
    exact ⟨vs, by rw [upd_ne (ne_of_none h3 hp)]; exact h3, h4.mono le (.refl m)⟩
  | ro ds =>
    obtain ⟨vs, h3, h4⟩ := h2
    exact ⟨vs, fun H' l => h3 H' (le.trans l), h4.mono le (.refl m)⟩
theorem Ok.lt {i : Nat} {a : Addr} (h : Ok K T H m st) (e : m[i]? = some a) : i < st.length := by
  rw [← h.len]; exact (List.getElem?_eq_some_iff.mp e).1
theorem CellOk.mono {a : Addr} {c : Cell} (l : Le H H') (p : Pre m m') (hk : ∀ vs, c = .lst vs → H' a = H a) (h : CellOk K H m a c) : CellOk K H' m' a c := by
  cases c with
  | lst ds =>
    obtain ⟨vs, h3, h4⟩ := h
    exact ⟨vs, by rw [hk _ rfl]; exact h3, h4.mono l p⟩
  | ro ds =>
    obtain ⟨vs, h3, h4⟩ := h
    exact ⟨vs, fun H2 l2 => h3 H2 (l.trans l2), h4.mono l p⟩
theorem Ok.lst {i : Nat} {ds : List D} (h : Ok K T H m st) (e : st[i]? = some (.lst ds)) : ∃ a vs, m[i]? = some a ∧ H a = some (.lst vs) ∧ Reps K H m ds vs := by
  obtain ⟨a, h1, vs, h2, h3⟩ := h.cell i _ e
  exact ⟨a, vs, h1, h2, h3⟩
/-- a new cell: a list -/
theorem Ok.newCell {p : Addr} {ds : List D} {vs : List V} (h : Ok K T H m st) (hp : H p = none) (r : Reps K H m ds vs) : Ok K T (upd H p (.lst vs)) (m ++ [p]) (st ++ [.lst ds]) := by
  have le := Le.new (o := .lst vs) hp
  have old : ∀ (i : Nat) (c : Cell) (a : Addr), (st ++ [Cell.lst ds])[i]? = some c → (m ++ [p])[i]? = some a → (st[i]? = some c ∧ m[i]? = some a) ∨ (i = st.length ∧ c = .lst ds ∧ a = p) := by
    intro i c a hc ha
    by_cases hi : i < st.length
    · rw [List.getElem?_append_left hi] at hc
      rw [List.getElem?_append_left (by rw [h.len]; exact hi)] at ha
      exact .inl ⟨hc, ha⟩
    · have hl : i = st.length := by
        have := (List.getElem?_eq_some_iff.mp hc).1
        simp at this; omega
      subst hl
      rw [← h.len] at ha
      simp at hc ha
      exact .inr ⟨rfl, hc.symm, ha.symm⟩
  have ne : ∀ (i : Nat) (xs : List D), st[i]? = some (.lst xs) → m[i]? ≠ some p := fun i xs e z => by
    obtain ⟨a, vs, h1, h2, _⟩ := h.lst e
    rw [z] at h1; cases h1
    rw [hp] at h2; cases h2
  refine ⟨by simp [h.len], fun i j a xs ys h1 h2 h3 h4 => ?_, fun i c hc => ?_, h.tabs.ext fun b u e => by rw [upd_ne (ne_of_none e hp)]; exact e⟩
  · rcases old i _ a h3 h1 with ⟨p1, p2⟩ | ⟨p1, p2, p3⟩
    · rcases old j _ a h4 h2 with ⟨q1, q2⟩ | ⟨q1, q2, q3⟩
      · exact h.nd i j a xs ys p2 q2 p1 q1
      · exact absurd (q3 ▸ p2) (ne i xs p1)
    · rcases old j _ a h4 h2 with ⟨q1, q2⟩ | ⟨q1, q2, q3⟩
      · exact absurd (p3 ▸ q2) (ne j ys q1)
      · rw [p1, q1]
  · by_cases hi : i < st.length
    · rw [List.getElem?_append_left hi] at hc
      obtain ⟨a, h1, h2⟩ := h.cell i c hc
      refine ⟨a, by rw [List.getElem?_append_left (by rw [h.len]; exact hi)]; exact h1, ?_⟩
      refine h2.mono le (.add m p) fun ds hd => upd_ne fun z => ?_
      subst hd
      exact ne i _ hc (z ▸ h1)
    · have hl : i = st.length := by
        have := (List.getElem?_eq_some_iff.mp hc).1
        simp at this; omega
      subst hl
      simp at hc
      subst hc
      exact ⟨p, by rw [← h.len]; simp, vs, upd_same, r.mono le (.add m p)⟩
/-- a list is changed -/
theorem Ok.setCell {i : Nat} {a : Addr} {xs ds : List D} {ws vs : List V} (h : Ok K T H m st) (hi : st[i]? = some (.lst xs)) (hm : m[i]? = some a) (ha : H a = some (.lst ws)) (r : Reps K H m ds vs) : Ok K T (upd H a (.lst vs)) m (st.set i (.lst ds)) := by
  have le := Le.set (o := .lst vs) ha
  have hl : i < st.length := (List.getElem?_eq_some_iff.mp hi).1
  have kind : ∀ (j : Nat) (ys : List D), (st.set i (.lst ds))[j]? = some (.lst ys) → ∃ zs, st[j]? = some (.lst zs) := fun j ys e => by
    by_cases hj : i = j
    · subst hj; exact ⟨xs, hi⟩
    · rw [List.getElem?_set_ne hj] at e; exact ⟨ys, e⟩
  refine ⟨by simp [h.len], fun j k b ys zs h1 h2 h3 h4 => ?_, fun j c hc => ?_, fun p hp => ?_⟩
  · obtain ⟨ys', h3⟩ := kind j ys h3
    obtain ⟨zs', h4⟩ := kind k zs h4
    exact h.nd j k b ys' zs' h1 h2 h3 h4
  · by_cases hj : i = j
    · subst hj
      rw [List.getElem?_set_self hl] at hc
      cases hc
      exact ⟨a, hm, vs, upd_same, r.mono le (.refl m)⟩
    · rw [List.getElem?_set_ne hj] at hc
      obtain ⟨b, h1, h2⟩ := h.cell j c hc
      refine ⟨b, h1, h2.mono le (.refl m) fun ds' hd => upd_ne fun z => ?_⟩
      subst hd
      exact hj (h.nd i j a xs ds' hm (z ▸ h1) hi hc)
  · obtain ⟨ps, h1, h2, h3⟩ := h.tabs p hp
    refine ⟨ps, by rw [upd_ne (ne_of h1 ha (by intro z; cases z))]; exact h1, h2, fun pos cv hc => ?_⟩
    obtain ⟨c, e1, e2⟩ := h3 pos cv hc
    exact ⟨c, e1, by rw [upd_ne (ne_of e2 ha (by intro z; unfold LamX.CodeO at z; cases z))]; exact e2⟩
end

/-! ### what a result means -/
section
variable (K : PySem.W.Frag) (T : List (Addr × Str)) (mg : Str → Option Value) (W : WX)
/-- the result r, told of what stands at H, m: what must hold so that what follows, Q, holds -/
def Den {a b : Type} (RA : Hp → List Addr → a → b → Prop) (s : L2.St) (H : Hp) (m : List Addr) (r : R a) (Q : b → Hp → Prop) : Prop :=
  match r with
  | .no => False
  | .ok x st' => ∀ y H' m', Le H H' → Pre m m' → Ok K T H' m' st' → RA H' m' x y → Q y H'
  | .ex x st' => ∀ cls dd H' m', Le H H' → Pre m m' → Ok K T H' m' st' → XRep K mg H' m' x cls dd → W cls dd s H'
def RD (H : Hp) (m : List Addr) (d : D) (v : V) : Prop := Rep K H m d v
def RL (H : Hp) (m : List Addr) (d : List D) (v : List V) : Prop := Reps K H m d v
def RB (_ : Hp) (_ : List Addr) (x y : Bool) : Prop := x = y
def tE (f : EX) : TE := fun s H Q => ∃ e st m, EnvOk K H m s e ∧ Ok K T H m st ∧ Den K T mg W (RD K) s H m (f e st) Q
def tA (f : AX) : TA := fun s H Q => ∃ e st m, EnvOk K H m s e ∧ Ok K T H m st ∧ Den K T mg W (RL K) s H m (f e st) Q
def tT (f : BX) : TT := fun s H Q => ∃ e st m, EnvOk K H m s e ∧ Ok K T H m st ∧ Den K T mg W RB s H m (f e st) Q
def DenS (H : Hp) (m : List Addr) (r : RS) (F : Ends) : Prop :=
  match r with
  | .no => False
  | .nx e st' => ∀ s' H' m', Le H H' → Pre m m' → Ok K T H' m' st' → EnvOk K H' m' s' e → F.nx s' H'
  | .ct e st' => ∀ s' H' m', Le H H' → Pre m m' → Ok K T H' m' st' → EnvOk K H' m' s' e → F.ct s' H'
  | .brk e st' => ∀ s' H' m', Le H H' → Pre m m' → Ok K T H' m' st' → EnvOk K H' m' s' e → F.bk s' H'
  | .ret d st' => ∀ v H' m', Le H H' → Pre m m' → Ok K T H' m' st' → Rep K H' m' d v → F.rt v H'
  | .exc x e st' => ∀ cls dd s' H' m', Le H H' → Pre m m' → Ok K T H' m' st' → EnvOk K H' m' s' e → XRep K mg H' m' x cls dd → W cls dd s' H'
def tS (f : SX) : TS := fun F s H => ∃ e st m, EnvOk K H m s e ∧ Ok K T H m st ∧ DenS K T mg W H m (f e st) F
end
section
variable {K : PySem.W.Frag} {T : List (Addr × Str)} {mg : Str → Option Value} {W : WX} {s : L2.St} {H H1 : Hp} {m m1 : List Addr} {st : Sto} {e : Env}
theorem Den.bind {a b c d : Type} {RA : Hp → List Addr → a → b → Prop} {RC : Hp → List Addr → c → d → Prop} {r : R a} {k : a → Sto → R c} {Q : d → Hp → Prop}
    (h : Den K T mg W RC s H m (r.bind k) Q) {Q' : b → Hp → Prop} (q : ∀ x y st1 H1 m1, r = .ok x st1 → Le H H1 → Pre m m1 → Ok K T H1 m1 st1 → RA H1 m1 x y → Den K T mg W RC s H1 m1 (k x st1) Q → Q' y H1) : Den K T mg W RA s H m r Q' := by
  cases r with
  | no => exact h
  | ok x st1 =>
    intro y H1 m1 le pr ok ra
    refine q x y st1 H1 m1 rfl le pr ok ra ?_
    have h' : Den K T mg W RC s H m (k x st1) Q := h
    revert h'
    generalize k x st1 = r2
    intro h'
    cases r2 with
    | no => exact h'
    | ok x2 st2 => exact fun y2 H2 m2 l2 p2 => h' y2 H2 m2 (le.trans l2) (pr.trans p2)
    | ex x2 st2 => exact fun cls dd H2 m2 l2 p2 => h' cls dd H2 m2 (le.trans l2) (pr.trans p2)
  | ex x st1 => exact h
theorem Den.of_ok {a b : Type} {RA : Hp → List Addr → a → b → Prop} {x : a} {y : b} {Q : b → Hp → Prop} (h : Den K T mg W RA s H m (.ok x st) Q) (le : Le H H1) (pr : Pre m m1) (ok : Ok K T H1 m1 st) (r : RA H1 m1 x y) : Q y H1 := h y H1 m1 le pr ok r
end

/-! ### expressions -/
section
variable {X : Cx} {t t' : TE} {u u' : TT} {w w' : TA} {v v' : TS} {ex : Expr} {es : List Expr} {sm : Stmt} {sms : List Stmt}
theorem pe_weak (h : PE X ex t) (k : ∀ s H Q, t' s H Q → t s H Q) : PE X ex t' := ⟨fun pins s σ H Q I hw => h.run pins s σ H Q I (k σ H Q hw)⟩
theorem pt_weak (h : PT X ex u) (k : ∀ s H Q, u' s H Q → u s H Q) : PT X ex u' := ⟨fun pins s σ H Q I hw => h.run pins s σ H Q I (k σ H Q hw)⟩
theorem pa_weak (h : PA X es w) (k : ∀ s H Q, w' s H Q → w s H Q) : PA X es w' := ⟨fun pos pins s σ H Q I hw => h.run pos pins s σ H Q I (k σ H Q hw)⟩
theorem ps_weak (h : PS X sm v) (k : ∀ F s H, v' F s H → v F s H) : PS X sm v' := ⟨fun pins s σ H D I hw => h.run pins s σ H D I (k D σ H hw)⟩
theorem pss_weak (h : PSs X sms v) (k : ∀ F s H, v' F s H → v F s H) : PSs X sms v' := ⟨fun pins s σ H D I hw => h.run pins s σ H D I (k D σ H hw)⟩
end
abbrev J (X : Cx) (T : List (Addr × Str)) (W : WX) (ex : Expr) (f : EX) : Prop := PE X ex (tE X.K T X.mg W f)
abbrev JT (X : Cx) (T : List (Addr × Str)) (W : WX) (ex : Expr) (f : BX) : Prop := PT X ex (tT X.K T X.mg W f)
structure JA (X : Cx) (T : List (Addr × Str)) (W : WX) (es : List Expr) (f : AX) : Prop where
  pa : PA X es (tA X.K T X.mg W f)
  len : ∀ e st ds st', f e st = .ok ds st' → ds.length = es.length
abbrev JS (X : Cx) (T : List (Addr × Str)) (W : WX) (sm : Stmt) (f : SX) : Prop := PS X sm (tS X.K T X.mg W f)
abbrev JB (X : Cx) (T : List (Addr × Str)) (W : WX) (sms : List Stmt) (f : SX) : Prop := PSs X sms (tS X.K T X.mg W f)

def eV (i : Nat) : EX := fun e st => match e[i]? with
  | some (some d) => .ok d st
  | _ => .no
def eC (d : D) : EX := fun _ st => .ok d st
abbrev O1 := D → Sto → Option (D × Sto)
abbrev O2 := D → D → Sto → Option (D × Sto)
abbrev ON := List D → Sto → Option (D × Sto)
def R.of : Option (D × Sto) → R D
  | some (d, st) => .ok d st
  | none => .no
def e1 (o : O1) (a : EX) : EX := fun e st => (a e st).bind fun x st1 => .of (o x st1)
def e2 (o : O2) (a b : EX) : EX := fun e st => (a e st).bind fun x st1 => (b e st1).bind fun y st2 => .of (o x y st2)
def eN (o : ON) (as : AX) : EX := fun e st => (as e st).bind fun ds st1 => .of (o ds st1)
def aN : AX := fun _ st => .ok [] st
def aC (a : EX) (r : AX) : AX := fun e st => (a e st).bind fun x st1 => (r e st1).bind fun xs st2 => .ok (x :: xs) st2
def eCall (g : List D → Sto → R D) (as : AX) : EX := fun e st => (as e st).bind fun ds st1 => g ds st1
def eTup (as : AX) : EX := fun e st => (as e st).bind fun ds st1 => .ok (.tup ds) st1
def eLst (as : AX) : EX := fun e st => (as e st).bind fun ds st1 => .ok (.ref st1.length) (st1 ++ [.lst ds])
def eIf (c : BX) (a b : EX) : EX := fun e st => (c e st).bind fun k st1 => if k = true then a e st1 else b e st1
/-- a op b op' c -/
def eCh (o o' : O2) (a b c : EX) : EX := fun e st => (a e st).bind fun x st1 => (b e st1).bind fun y st2 => (R.of (o x y st2)).bind fun z st3 => match z with
  | .bl true => (c e st3).bind fun w st4 => .of (o' y w st4)
  | .bl false => .ok (.bl false) st3
  | _ => .no
def eAnd (a b : EX) : EX := fun e st => (a e st).bind fun x st1 => match x with
  | .bl true => b e st1
  | .bl false => .ok (.bl false) st1
  | _ => .no
def eOr (a b : EX) : EX := fun e st => (a e st).bind fun x st1 => match x with
  | .bl true => .ok (.bl true) st1
  | .bl false => b e st1
  | _ => .no
def eNot (a : EX) : EX := fun e st => (a e st).bind fun x st1 => match x with
  | .bl k => .ok (.bl (!k)) st1
  | _ => .no
def bB (a : EX) : BX := fun e st => (a e st).bind fun x st1 => match x with
  | .bl k => .ok k st1
  | _ => .no
def bAnd (a b : BX) : BX := fun e st => (a e st).bind fun x st1 => if x = true then b e st1 else .ok false st1
def bOr (a b : BX) : BX := fun e st => (a e st).bind fun x st1 => if x = true then .ok true st1 else b e st1
def bNot (a : BX) : BX := fun e st => (a e st).bind fun x st1 => .ok (!x) st1
/-- the truth of a value -/
def tru (st : Sto) : D → Option Bool
  | .non => some false
  | .bl b => some b
  | .int i => some (i != 0)
  | .tup xs => some (!xs.isEmpty)
  | .ref i => match st[i]? with
    | some (.lst xs) => some (!xs.isEmpty)
    | some (.ro xs) => some (!xs.isEmpty)
    | none => none
  | .str _ => none
def bTru (a : EX) : BX := fun e st => (a e st).bind fun x st1 => match tru st1 x with
  | some k => .ok k st1
  | none => .no

def DenO (K : PySem.W.Frag) (T : List (Addr × Str)) (H : Hp) (m : List Addr) (r : Option (D × Sto)) (Q : VK) : Prop :=
  match r with
  | none => False
  | some (d, st') => ∀ v H' m', Le H H' → Pre m m' → Ok K T H' m' st' → Rep K H' m' d v → Q v H'
def r1 (K : PySem.W.Frag) (T : List (Addr × Str)) (o : O1) : V → Hp → VK → Prop := fun x H Q => ∃ dx st m, Rep K H m dx x ∧ Ok K T H m st ∧ DenO K T H m (o dx st) Q
def r2 (K : PySem.W.Frag) (T : List (Addr × Str)) (o : O2) : R2 := fun x y H Q => ∃ dx dy st m, Rep K H m dx x ∧ Rep K H m dy y ∧ Ok K T H m st ∧ DenO K T H m (o dx dy st) Q
def rN (K : PySem.W.Frag) (T : List (Addr × Str)) (o : ON) : List V → Hp → VK → Prop := fun xs H Q => ∃ ds st m, Reps K H m ds xs ∧ Ok K T H m st ∧ DenO K T H m (o ds st) Q
theorem den_of {K : PySem.W.Frag} {T : List (Addr × Str)} {mg : Str → Option Value} {W : WX} {s : L2.St} {H : Hp} {m : List Addr} {r : Option (D × Sto)} {Q : VK} (h : Den K T mg W (RD K) s H m (.of r) Q) : DenO K T H m r Q := by
  cases r with
  | none => exact h
  | some p => exact h
section
variable {X : Cx} {T : List (Addr × Str)} {W : WX} {a b c : Expr} {fa fb fc : EX} {pos : Pos}
theorem j_var {i : Nat} {x : Str} (h : PE X (.Name x pos) (tVar i)) : J X T W (.Name x pos) (eV i) := pe_weak h fun s H Q ⟨e, st, m, he, ok, h⟩ => by
  unfold eV at h
  split at h
  · rename_i d hd
    obtain ⟨v, h1, h2⟩ := he.2 i d hd
    exact ⟨v, h1, h v H m (.refl H) (.refl m) ok h2⟩
  · exact False.elim h
theorem j_c {d : D} {v : V} (h : PE X a (tC v)) (r : ∀ H m, Rep X.K H m d v) : J X T W a (eC d) := pe_weak h fun s H Q ⟨e, st, m, he, ok, h⟩ => h v H m (.refl H) (.refl m) ok (r H m)
theorem j_int {i j} : J X T W (.Constant (.int i) j pos) (eC (.int i)) := j_c pe_int fun _ _ => rfl
theorem j_bl {i j} : J X T W (.Constant (.bool i) j pos) (eC (.bl i)) := j_c pe_bl fun _ _ => rfl
theorem j_non {j} : J X T W (.Constant .none j pos) (eC .non) := j_c pe_non fun _ _ => rfl
theorem j_str {i j} : J X T W (.Constant (.str i) j pos) (eC (.str i)) := j_c pe_str fun _ _ => rfl
theorem j_un {op : UnaryOp} {o : O1} (hr : UnR X (unaryOp op) (r1 X.K T o)) (ha : J X T W a fa) : J X T W (.UnaryOp op a pos) (e1 o fa) := pe_weak (pe_un hr ha) fun s H Q ⟨e, st, m, he, ok, h⟩ =>
  ⟨e, st, m, he, ok, h.bind fun dx x st1 H1 m1 _ l1 p1 ok1 rx h1 => ⟨dx, st1, m1, rx, ok1, den_of h1⟩⟩
theorem bin_weak {f : R2} {o : O2} (hf : f = r2 X.K T o) {s : L2.St} {H : Hp} {Q : VK} (h : tE X.K T X.mg W (e2 o fa fb) s H Q) : tOp f (tE X.K T X.mg W fa) (tE X.K T X.mg W fb) s H Q := by
  subst hf
  obtain ⟨e, st, m, he, ok, h⟩ := h
  refine ⟨e, st, m, he, ok, h.bind fun dx x st1 H1 m1 _ l1 p1 ok1 rx h1 => ?_⟩
  refine ⟨e, st1, m1, he.mono l1 p1, ok1, h1.bind fun dy y st2 H2 m2 _ l2 p2 ok2 ry h2 => ?_⟩
  exact ⟨dx, dy, st2, m2, rx.mono l2 p2, ry, ok2, den_of h2⟩
theorem j_bin {op : Operator} {o : O2} (hr : OpR X (binaryOp op) (r2 X.K T o)) (ha : J X T W a fa) (hb : J X T W b fb) : J X T W (.BinOp a op b pos) (e2 o fa fb) := pe_weak (pe_op hr ha hb) fun s H Q => bin_weak rfl
theorem j_cmp {op : CmpOp} {o : O2} (hr : OpR X (compareOp op) (r2 X.K T o)) (ha : J X T W a fa) (hb : J X T W b fb) (hm : behindInMarks op b = false) : J X T W (.Compare a [op] [b] pos) (e2 o fa fb) := pe_weak (pe_cmpR hr ha hb hm) fun s H Q => bin_weak rfl
theorem j_ix {o : O2} (hr : IxR X (r2 X.K T o)) (ha : J X T W a fa) (hb : J X T W b fb) (hs : PlainIx b) : J X T W (.Subscript a b pos) (e2 o fa fb) := pe_weak (pe_ix hr ha hb hs) fun s H Q => bin_weak rfl
theorem j_chain {op op' : CmpOp} {o o' : O2} (hr : OpR X (compareOp op) (r2 X.K T o)) (hr' : OpR X (compareOp op') (r2 X.K T o')) (ha : J X T W a fa) (hb : J X T W b fb) (hc : J X T W c fc) (hm : lastMarks [op, op'] [b, c] = false := by rfl) :
    J X T W (.Compare a [op, op'] [b, c] pos) (eCh o o' fa fb fc) := pe_weak (pe_chain hr hr' ha hb hc hm) fun s H Q h => by
  obtain ⟨e, st, m, he, ok, h⟩ := h
  refine ⟨e, st, m, he, ok, h.bind fun dx x st1 H1 m1 _ l1 p1 ok1 rx h1 => ?_⟩
  refine ⟨e, st1, m1, he.mono l1 p1, ok1, h1.bind fun dy y st2 H2 m2 _ l2 p2 ok2 ry h2 => ?_⟩
  refine ⟨dx, dy, st2, m2, rx.mono l2 p2, ry, ok2, den_of (mg := X.mg) (W := W) (s := s) (h2.bind fun dz z st3 H3 m3 _ l3 p3 ok3 rz h3 => ?_)⟩
  cases dz with
  | bl k =>
    refine ⟨k, rz, ?_⟩
    cases k with
    | true =>
      rw [if_pos rfl]
      refine ⟨e, st3, m3, ((he.mono l1 p1).mono l2 p2).mono l3 p3, ok3, h3.bind fun dw w st4 H4 m4 _ l4 p4 ok4 rw' h4 => ?_⟩
      exact ⟨dy, dw, st4, m4, (ry.mono l3 p3).mono l4 p4, rw', ok4, den_of h4⟩
    | false =>
      rw [if_neg Bool.false_ne_true]
      exact h3 _ H3 m3 (.refl H3) (.refl m3) ok3 rfl
  | non => exact False.elim h3
  | int _ => exact False.elim h3
  | str _ => exact False.elim h3
  | tup _ => exact False.elim h3
  | ref _ => exact False.elim h3
end
end Mm

namespace Mm
open PySem L2
section
variable {X : Cx} {T : List (Addr × Str)} {W : WX} {a b c : Expr} {fa fb fc : EX} {pos : Pos} {es : List Expr} {fr : AX}
/-! arguments -/
theorem ja_nil : JA X T W [] aN := ⟨pa_weak pa_nil fun s H Q ⟨e, st, m, he, ok, h⟩ => h [] H m (.refl H) (.refl m) ok rfl, fun e st ds st' h => by cases h; rfl⟩
theorem ja_cons (ha : J X T W a fa) (hr : JA X T W es fr) (hs : starEach (a :: es) X.env = (false, eval a X.env) :: starEach es X.env := by rfl) : JA X T W (a :: es) (aC fa fr) := by
  refine ⟨pa_weak (pa_cons ha hr.pa hs) fun s H Q ⟨e, st, m, he, ok, h⟩ => ?_, fun e st ds st' h => ?_⟩
  · refine ⟨e, st, m, he, ok, h.bind fun dx x st1 H1 m1 _ l1 p1 ok1 rx h1 => ?_⟩
    refine ⟨e, st1, m1, he.mono l1 p1, ok1, h1.bind fun ds xs st2 H2 m2 _ l2 p2 ok2 rs h2 => ?_⟩
    exact h2 (x :: xs) H2 m2 (.refl H2) (.refl m2) ok2 ⟨x, xs, rfl, rx.mono l2 p2, rs⟩
  · unfold aC at h
    cases h1 : fa e st with
    | no => rw [h1] at h; cases h
    | ex x st1 => rw [h1] at h; cases h
    | ok x st1 =>
      rw [h1] at h
      have h : (fr e st1).bind (fun xs st2 => R.ok (x :: xs) st2) = .ok ds st' := h
      cases h2 : fr e st1 with
      | no => rw [h2] at h; cases h
      | ex x st1 => rw [h2] at h; cases h
      | ok xs st2 =>
        rw [h2] at h
        cases h
        simp [hr.len e st1 xs _ h2]
theorem Den.len {K : PySem.W.Frag} {mg : Str → Option Value} {s : L2.St} {H : Hp} {m : List Addr} {e : Env} {st : Sto} (hr : JA X T W es fr) {Q : List V → Hp → Prop}
    {x : List D} {y : List V} {H1 : Hp} {m1 : List Addr} {st1 : Sto} (h : fr e st = .ok x st1) (r : Reps K H1 m1 x y) : y.length = es.length := by
  rw [← r.length]; exact hr.len _ _ _ _ h
/-- a tuple display, the new object without a dict of its own -/
def tTupN (t : TA) : TE := fun σ H Q => t σ H fun xs H1 => xs.length ≤ sizeLine ∧ ∀ p o, H1 p = none → o.dict = none → Q (.ref p) (upd H1 p (.frz o (.tup xs)))
theorem pe_tupN {X : Cx} {es : List Expr} {t : TA} {k : Nat} {pos : Pos} (h : PA X es t) : PE X (.Tuple es k pos) (tTupN t) := ⟨fun pins s σ H Q I hq =>
  wpAny_Tuple_spliced (thn (h.run pos pins s σ H _ I hq) fun us s1 ⟨xs, H1, I1, r, z, q⟩ => ⟨by rw [← r.length]; exact z,
    .ref s1.heap.objs.size, _, I1.laid (t' := s1.toks) (o := .frz (tupO us) (.tup xs)) (fun b u e => Heap.get?_push_of_some _ e) (Nat.le_refl _) ⟨Heap.get?_push_size _ rfl, z, us, r, _, Heap.get?_push_size _ rfl, rfl, _, rfl⟩, rfl, q _ _ (I1.hok.fresh (Nat.le_refl _)) rfl⟩)⟩
theorem j_tup {k : Nat} (hr : JA X T W es fr) (hl : es.length ≤ lim := by decide) : J X T W (.Tuple es k pos) (eTup fr) := pe_weak (pe_tupN hr.pa) fun s H Q ⟨e, st, m, he, ok, h⟩ =>
  ⟨e, st, m, he, ok, h.bind fun ds xs st1 H1 m1 hf l1 p1 ok1 rs h1 => by
    have hn : xs.length = es.length := by rw [← Reps.length rs]; exact hr.len _ _ _ _ hf
    refine ⟨lim_le (by rw [hn]; exact hl), fun p o hp ho => ?_⟩
    exact h1 _ _ m1 (Le.new hp) (.refl m1) (ok1.new hp) ⟨p, xs, rfl, .new ho, Reps.mono (Le.new hp) (.refl m1) rs⟩⟩
theorem j_lst (hr : JA X T W es fr) (hl : es.length ≤ lim := by decide) : J X T W (.List es pos) (eLst fr) := pe_weak (pe_lst hr.pa) fun s H Q ⟨e, st, m, he, ok, h⟩ =>
  ⟨e, st, m, he, ok, h.bind fun ds xs st1 H1 m1 hf l1 p1 ok1 rs h1 => by
    have hn : xs.length = es.length := by rw [← Reps.length rs]; exact hr.len _ _ _ _ hf
    refine ⟨lim_le (by rw [hn]; exact hl), fun p hp => ?_⟩
    exact h1 _ _ (m1 ++ [p]) (Le.new hp) (.add m1 p) (ok1.newCell hp rs) ⟨p, by rw [← ok1.len]; simp, rfl⟩⟩
/-! tests, and, or, not -/
variable {ba bb : BX}
theorem jt_val (ha : J X T W a fa) (he : ∀ whole, isTrue a X.env whole = (do let v ← whole; standAt a.pos; holding [v] (truthy v)) := by intro _; rfl) : JT X T W a (bB fa) := pt_weak (pt_val ha he) fun s H Q ⟨e, st, m, he, ok, h⟩ =>
  ⟨e, st, m, he, ok, h.bind fun dx x st1 H1 m1 _ l1 p1 ok1 rx h1 => by
    cases dx with
    | bl k => exact ⟨k, rx, h1 k H1 m1 (.refl H1) (.refl m1) ok1 rfl⟩
    | non | int _ | str _ | tup _ | ref _ => exact False.elim h1⟩
theorem tru_ok {K : PySem.W.Frag} {H : Hp} {m : List Addr} {st : Sto} {d : D} {x : V} {k : Bool} (ok : Ok K T H m st) (r : Rep K H m d x) (h : tru st d = some k) : TruV K x H k := by
  cases d with
  | non => cases r; cases h; rfl
  | bl b => cases r; cases h; rfl
  | int i => cases r; cases h; rfl
  | str z => cases h
  | tup xs =>
    obtain ⟨a, vs, rfl, hs, hr⟩ := r
    cases h
    refine .inr (.inl ⟨vs, hs.sq, ?_⟩)
    have e := Reps.length hr
    cases xs <;> cases vs <;> simp_all
  | ref i =>
    obtain ⟨a, hm, rfl⟩ := r
    unfold tru at h
    cases hc : st[i]? with
    | none => simp [hc] at h
    | some c =>
      obtain ⟨a', h1, h2⟩ := ok.cell i c hc
      rw [hm] at h1; cases h1
      obtain ⟨ds, vs, hcs, hl, hr⟩ := h2.list
      have e := Reps.length hr
      refine .inl ⟨vs, hl, ?_⟩
      have hk : k = !ds.isEmpty := by
        rcases hcs with rfl | rfl <;> simp only [hc, Option.some.injEq] at h <;> exact h.symm
      rw [hk]
      cases ds <;> cases vs <;> simp_all
theorem jt_tru (ha : J X T W a fa) (he : ∀ whole, isTrue a X.env whole = (do let v ← whole; standAt a.pos; holding [v] (truthy v)) := by intro _; rfl) : JT X T W a (bTru fa) := pt_weak (pt_truth ha he) fun s H Q ⟨e, st, m, he, ok, h⟩ =>
  ⟨e, st, m, he, ok, h.bind fun dx x st1 H1 m1 _ l1 p1 ok1 rx h1 => by
    cases hk : tru st1 dx with
    | none => rw [hk] at h1; exact False.elim h1
    | some k =>
      rw [hk] at h1
      exact ⟨k, tru_ok ok1 rx hk, h1 k H1 m1 (.refl H1) (.refl m1) ok1 rfl⟩⟩
theorem test_weak {f : TE} {s : L2.St} {H : Hp} {Q : Bool → Hp → Prop} {o : EX} (k : ∀ s H Q, tE X.K T X.mg W o s H Q → f s H Q) (h : tT X.K T X.mg W (bB o) s H Q) : tTest f s H Q := by
  refine k _ _ _ ?_
  obtain ⟨e, st, m, he, ok, h⟩ := h
  exact ⟨e, st, m, he, ok, h.bind fun dx x st1 H1 m1 _ l1 p1 ok1 rx h1 => by
    cases dx with
    | bl k => exact ⟨k, rx, h1 k H1 m1 (.refl H1) (.refl m1) ok1 rfl⟩
    | non | int _ | str _ | tup _ | ref _ => exact False.elim h1⟩
theorem jt_cmp {op : CmpOp} {o : O2} (hr : OpR X (compareOp op) (r2 X.K T o)) (ha : J X T W a fa) (hb : J X T W b fb) (hm : behindInMarks op b = false) : JT X T W (.Compare a [op] [b] pos) (bB (e2 o fa fb)) :=
  pt_weak (pt_cmpR hr ha hb hm) fun s H Q => test_weak fun s H Q => bin_weak rfl
theorem chain_weak {op op' : CmpOp} {o o' : O2} {s : L2.St} {H : Hp} {Q : VK} (h : tE X.K T X.mg W (eCh o o' fa fb fc) s H Q) : tChain (r2 X.K T o) (r2 X.K T o') (tE X.K T X.mg W fa) (tE X.K T X.mg W fb) (tE X.K T X.mg W fc) s H Q := by
  obtain ⟨e, st, m, he, ok, h⟩ := h
  refine ⟨e, st, m, he, ok, h.bind fun dx x st1 H1 m1 _ l1 p1 ok1 rx h1 => ?_⟩
  refine ⟨e, st1, m1, he.mono l1 p1, ok1, h1.bind fun dy y st2 H2 m2 _ l2 p2 ok2 ry h2 => ?_⟩
  refine ⟨dx, dy, st2, m2, rx.mono l2 p2, ry, ok2, den_of (mg := X.mg) (W := W) (s := s) (h2.bind fun dz z st3 H3 m3 _ l3 p3 ok3 rz h3 => ?_)⟩
  cases dz with
  | bl k =>
    refine ⟨k, rz, ?_⟩
    cases k with
    | true =>
      rw [if_pos rfl]
      refine ⟨e, st3, m3, ((he.mono l1 p1).mono l2 p2).mono l3 p3, ok3, h3.bind fun dw w st4 H4 m4 _ l4 p4 ok4 rw' h4 => ?_⟩
      exact ⟨dy, dw, st4, m4, (ry.mono l3 p3).mono l4 p4, rw', ok4, den_of h4⟩
    | false =>
      rw [if_neg Bool.false_ne_true]
      exact h3 _ H3 m3 (.refl H3) (.refl m3) ok3 rfl
  | non | int _ | str _ | tup _ | ref _ => exact False.elim h3
theorem jt_chain {op op' : CmpOp} {o o' : O2} (hr : OpR X (compareOp op) (r2 X.K T o)) (hr' : OpR X (compareOp op') (r2 X.K T o')) (ha : J X T W a fa) (hb : J X T W b fb) (hc : J X T W c fc) (hm : lastMarks [op, op'] [b, c] = false := by rfl) :
    JT X T W (.Compare a [op, op'] [b, c] pos) (bB (eCh o o' fa fb fc)) := pt_weak (pt_chain hr hr' ha hb hc hm) fun s H Q => test_weak fun s H Q => chain_weak (op := op) (op' := op')
abbrev JW (X : Cx) (T : List (Addr × Str)) (W : WX) (ex : Expr) (f : BX) : Prop := PW X ex (tT X.K T X.mg W f)
theorem pw_weak {u u' : TT} {ex : Expr} (h : PW X ex u) (k : ∀ s H Q, u' s H Q → u s H Q) : PW X ex u' := ⟨fun wh pins s σ H Q I hw => h.run wh pins s σ H Q I (k σ H Q hw)⟩
theorem jw_and1 (ha : JT X T W a ba) : JW X T W (.BoolOp .And [a] pos) ba := pw_and1 ha
theorem jw_or1 (ha : JT X T W a ba) : JW X T W (.BoolOp .Or [a] pos) ba := pw_or1 ha
theorem jw_and {rest : List Expr} (ha : JT X T W a ba) (hb : JW X T W (.BoolOp .And (b :: rest) pos) bb) : JW X T W (.BoolOp .And (a :: b :: rest) pos) (bAnd ba bb) := pw_weak (pw_and ha hb) fun s H Q ⟨e, st, m, he, ok, h⟩ =>
  ⟨e, st, m, he, ok, h.bind fun x y st1 H1 m1 _ l1 p1 ok1 rx h1 => by
    cases rx
    cases x with
    | true => exact ⟨e, st1, m1, he.mono l1 p1, ok1, h1⟩
    | false => exact h1 false H1 m1 (.refl H1) (.refl m1) ok1 rfl⟩
theorem jw_or {rest : List Expr} (ha : JT X T W a ba) (hb : JW X T W (.BoolOp .Or (b :: rest) pos) bb) : JW X T W (.BoolOp .Or (a :: b :: rest) pos) (bOr ba bb) := pw_weak (pw_or ha hb) fun s H Q ⟨e, st, m, he, ok, h⟩ =>
  ⟨e, st, m, he, ok, h.bind fun x y st1 H1 m1 _ l1 p1 ok1 rx h1 => by
    cases rx
    cases x with
    | true => exact h1 true H1 m1 (.refl H1) (.refl m1) ok1 rfl
    | false => exact ⟨e, st1, m1, he.mono l1 p1, ok1, h1⟩⟩
theorem jt_w (h : JW X T W a ba) : JT X T W a ba := h.pt
theorem jt_not (ha : JT X T W a ba) : JT X T W (.UnaryOp .Not a pos) (bNot ba) := pt_weak (pt_not ha) fun s H Q ⟨e, st, m, he, ok, h⟩ =>
  ⟨e, st, m, he, ok, h.bind fun x y st1 H1 m1 _ l1 p1 ok1 rx h1 => by
    cases rx
    exact h1 (!x) H1 m1 (.refl H1) (.refl m1) ok1 rfl⟩
/-- and, or, not as values -/
theorem j_one {op : BoolOp} (ha : J X T W a fa) : J X T W (.BoolOp op [a] pos) fa := pe_one ha
def eAndT (a b : EX) : EX := fun e st => (a e st).bind fun x st1 => match tru st1 x with
  | some true => b e st1
  | some false => .ok x st1
  | none => .no
def eOrT (a b : EX) : EX := fun e st => (a e st).bind fun x st1 => match tru st1 x with
  | some true => .ok x st1
  | some false => b e st1
  | none => .no
def eNotT (a : EX) : EX := fun e st => (a e st).bind fun x st1 => match tru st1 x with
  | some k => .ok (.bl (!k)) st1
  | none => .no
theorem j_and {rest : List Expr} (ha : J X T W a fa) (hb : J X T W (.BoolOp .And (b :: rest) pos) fb) : J X T W (.BoolOp .And (a :: b :: rest) pos) (eAndT fa fb) := pe_weak (pe_andT ha hb) fun s H Q ⟨e, st, m, he, ok, h⟩ =>
  ⟨e, st, m, he, ok, h.bind fun dx x st1 H1 m1 _ l1 p1 ok1 rx h1 => by
    cases hk : tru st1 dx with
    | none => rw [hk] at h1; exact False.elim h1
    | some k =>
      rw [hk] at h1
      refine ⟨k, tru_ok ok1 rx hk, ?_⟩
      cases k with
      | true => exact ⟨e, st1, m1, he.mono l1 p1, ok1, h1⟩
      | false => exact h1 x H1 m1 (.refl H1) (.refl m1) ok1 rx⟩
theorem j_or {rest : List Expr} (ha : J X T W a fa) (hb : J X T W (.BoolOp .Or (b :: rest) pos) fb) : J X T W (.BoolOp .Or (a :: b :: rest) pos) (eOrT fa fb) := pe_weak (pe_orT ha hb) fun s H Q ⟨e, st, m, he, ok, h⟩ =>
  ⟨e, st, m, he, ok, h.bind fun dx x st1 H1 m1 _ l1 p1 ok1 rx h1 => by
    cases hk : tru st1 dx with
    | none => rw [hk] at h1; exact False.elim h1
    | some k =>
      rw [hk] at h1
      refine ⟨k, tru_ok ok1 rx hk, ?_⟩
      cases k with
      | true => exact h1 x H1 m1 (.refl H1) (.refl m1) ok1 rx
      | false => exact ⟨e, st1, m1, he.mono l1 p1, ok1, h1⟩⟩
theorem j_not (ha : J X T W a fa) : J X T W (.UnaryOp .Not a pos) (eNotT fa) := pe_weak (pe_notT ha) fun s H Q ⟨e, st, m, he, ok, h⟩ =>
  ⟨e, st, m, he, ok, h.bind fun dx x st1 H1 m1 _ l1 p1 ok1 rx h1 => by
    cases hk : tru st1 dx with
    | none => rw [hk] at h1; exact False.elim h1
    | some k =>
      rw [hk] at h1
      exact ⟨k, tru_ok ok1 rx hk, h1 _ H1 m1 (.refl H1) (.refl m1) ok1 rfl⟩⟩
theorem j_if (hc : JT X T W c ba) (ha : J X T W a fa) (hb : J X T W b fb) : J X T W (.IfExp c a b pos) (eIf ba fa fb) := pe_weak (pe_ifExp hc ha hb) fun s H Q ⟨e, st, m, he, ok, h⟩ =>
  ⟨e, st, m, he, ok, h.bind fun x y st1 H1 m1 _ l1 p1 ok1 rx h1 => by
    cases rx
    cases x with
    | true => exact ⟨e, st1, m1, he.mono l1 p1, ok1, h1⟩
    | false => exact ⟨e, st1, m1, he.mono l1 p1, ok1, h1⟩⟩
end

/-! ### statements -/
def sNx : SX := fun e st => .nx e st
def sSeq (f g : SX) : SX := fun e st => match f e st with
  | .nx e1 st1 => g e1 st1
  | r => r
def R.st (e : Env) (r : R D) (k : D → Sto → RS) : RS := match r with
  | .ok d st => k d st
  | .ex x st => .exc x e st
  | .no => .no
def sSet (i : Nat) (f : EX) : SX := fun e st => (f e st).st e fun d st1 => .nx (e.set i (some d)) st1
def sEx (f : EX) : SX := fun e st => (f e st).st e fun _ st1 => .nx e st1
def sRet (f : EX) : SX := fun e st => (f e st).st e fun d st1 => .ret d st1
def sRetN : SX := fun _ st => .ret .non st
def sBrk : SX := fun e st => .brk e st
def sCt : SX := fun e st => .ct e st
def sNo : SX := fun _ _ => .no
def sIf (c : BX) (f g : SX) : SX := fun e st => match c e st with
  | .ok true st1 => f e st1
  | .ok false st1 => g e st1
  | .ex x st1 => .exc x e st1
  | .no => .no
section
variable {X : Cx} {T : List (Addr × Str)} {W : WX} {a b c : Expr} {fa fb fc : EX} {pos : Pos} {es : List Expr} {fr : AX} {ba : BX} {sm : Stmt} {l1 l2 : List Stmt} {f g : SX}
theorem DenS.mono {K : PySem.W.Frag} {mg : Str → Option Value} {H H' : Hp} {m m' : List Addr} {r : RS} {F : Ends} (h : DenS K T mg W H m r F) (l : Le H H') (p : Pre m m') : DenS K T mg W H' m' r F := by
  cases r with
  | no => exact h
  | nx e st => exact fun s' H2 m2 l2 p2 => h s' H2 m2 (l.trans l2) (p.trans p2)
  | ct e st => exact fun s' H2 m2 l2 p2 => h s' H2 m2 (l.trans l2) (p.trans p2)
  | brk e st => exact fun s' H2 m2 l2 p2 => h s' H2 m2 (l.trans l2) (p.trans p2)
  | ret d st => exact fun s' H2 m2 l2 p2 => h s' H2 m2 (l.trans l2) (p.trans p2)
  | exc x e st => exact fun cls dd s' H2 m2 l2 p2 => h cls dd s' H2 m2 (l.trans l2) (p.trans p2)
/-- an expression, then what the statement does with its value -/
theorem st_of {K : PySem.W.Frag} {mg : Str → Option Value} {s : L2.St} {H : Hp} {m : List Addr} {e : Env} {r : R D} {k : D → Sto → RS} {F : Ends} {Q : VK} (he : EnvOk K H m s e) (h : DenS K T mg W H m (r.st e k) F)
    (q : ∀ x y st1 H1 m1, r = .ok x st1 → Le H H1 → Pre m m1 → Ok K T H1 m1 st1 → Rep K H1 m1 x y → DenS K T mg W H1 m1 (k x st1) F → Q y H1) : Den K T mg W (RD K) s H m r Q := by
  cases r with
  | no => exact h
  | ok x st1 => exact fun y H1 m1 l p ok rx => q x y st1 H1 m1 rfl l p ok rx (DenS.mono h l p)
  | ex x st1 => exact fun cls dd H1 m1 l p ok xr => h cls dd s H1 m1 l p ok (he.mono l p) xr
theorem js_nil : JB X T W [] sNx := pss_weak pss_nil fun F s H ⟨e, st, m, he, ok, h⟩ => h s H m (.refl H) (.refl m) ok he
theorem seq_den {K : PySem.W.Frag} {mg : Str → Option Value} {H : Hp} {m : List Addr} {r : RS} {k : Env → Sto → RS} {F : Ends} (h : DenS K T mg W H m (match r with | .nx e1 st1 => k e1 st1 | r => r) F) :
    DenS K T mg W H m r { F with nx := fun s' H' => ∃ e1 st1 m', EnvOk K H' m' s' e1 ∧ Ok K T H' m' st1 ∧ DenS K T mg W H' m' (k e1 st1) F } := by
  cases r with
  | no => exact h
  | nx e st => exact fun s' H2 m2 l2 p2 ok2 he2 => ⟨e, st, m2, he2, ok2, DenS.mono h l2 p2⟩
  | ct e st => exact h
  | brk e st => exact h
  | ret d st => exact h
  | exc x e st => exact h
theorem js_cons (h1 : JS X T W sm f) (h2 : JB X T W l1 g) : JB X T W (sm :: l1) (sSeq f g) := pss_weak (pss_cons h1 h2) fun F s H ⟨e, st, m, he, ok, h⟩ => ⟨e, st, m, he, ok, seq_den h⟩
theorem js_one (h1 : JS X T W sm f) : JB X T W [sm] f := pss_one h1
theorem js_pass : JS X T W (.Pass pos) sNx := ps_weak ps_pass fun F s H ⟨e, st, m, he, ok, h⟩ => h s H m (.refl H) (.refl m) ok he
theorem js_brk : JS X T W (.Break pos) sBrk := ps_weak ps_break fun F s H ⟨e, st, m, he, ok, h⟩ => h s H m (.refl H) (.refl m) ok he
theorem js_ct : JS X T W (.Continue pos) sCt := ps_weak ps_continue fun F s H ⟨e, st, m, he, ok, h⟩ => h s H m (.refl H) (.refl m) ok he
theorem js_no : JS X T W sm sNo := ps_weak ps_never fun F s H ⟨e, st, m, he, ok, h⟩ => h
theorem jb_no : JB X T W l1 sNo := pss_weak pss_never fun F s H ⟨e, st, m, he, ok, h⟩ => h
theorem js_ex (ha : J X T W a fa) (hs : swapsWith a none pos.line X.env = pure false := by rfl) : JS X T W (.Expr a pos) (sEx fa) := ps_weak (ps_expr ha hs) fun F s H ⟨e, st, m, he, ok, h⟩ =>
  ⟨e, st, m, he, ok, st_of he h fun x y st1 H1 m1 _ l p ok1 rx h1 => h1 s H1 m1 (.refl H1) (.refl m1) ok1 (he.mono l p)⟩
theorem js_doc {x j pos'} : JS X T W (.Expr (.Constant (.str x) j pos) pos') sNx := ps_weak ps_doc fun F s H ⟨e, st, m, he, ok, h⟩ => h s H m (.refl H) (.refl m) ok he
theorem js_ret (ha : J X T W a fa) : JS X T W (.Return (some a) pos) (sRet fa) := ps_weak (ps_ret ha) fun F s H ⟨e, st, m, he, ok, h⟩ =>
  ⟨e, st, m, he, ok, st_of he h fun x y st1 H1 m1 _ l p ok1 rx h1 => h1 y H1 m1 (.refl H1) (.refl m1) ok1 rx⟩
theorem js_retN : JS X T W (.Return none pos) sRetN := ps_weak ps_retN fun F s H ⟨e, st, m, he, ok, h⟩ => h .non H m (.refl H) (.refl m) ok rfl
theorem js_if (hc : JT X T W c ba) (ha : JB X T W l1 f) (hb : JB X T W l2 g) : JS X T W (.If c l1 l2 pos) (sIf ba f g) := ps_weak (ps_if hc ha hb) fun F s H ⟨e, st, m, he, ok, h⟩ => by
  refine ⟨e, st, m, he, ok, ?_⟩
  unfold sIf at h
  revert h
  generalize ba e st = r
  intro h
  cases r with
  | no => exact h
  | ex x st1 => exact fun cls dd H1 m1 l p ok1 xr => h cls dd s H1 m1 l p ok1 (he.mono l p) xr
  | ok x st1 =>
    intro y H1 m1 l p ok1 rx
    cases rx
    cases x with
    | true => exact ⟨e, st1, m1, he.mono l p, ok1, DenS.mono h l p⟩
    | false => exact ⟨e, st1, m1, he.mono l p, ok1, DenS.mono h l p⟩
theorem js_set {i : Nat} {x : Str} {p' : Pos} (hN : X.N.Nodup) (hi : X.N[i]? = some x) (hx : Loc X.env.scope x) (ha : J X T W a fa) (hs : swapsWith a (some (.Name x p')) pos.line X.env = pure false := by rfl)
    (hf : X.fn x = true ∨ X.env.scope.names.lookup x = some .local := by first | exact .inl rfl | exact .inr rfl | assumption) : JS X T W (.Assign [.Name x p'] a pos) (sSet i fa) :=
  ps_weak (ps_set hN hi hx ha hs hf) fun F s H ⟨e, st, m, he, ok, h⟩ =>
    ⟨e, st, m, he, ok, st_of he h fun x y st1 H1 m1 _ l p ok1 rx h1 => h1 _ H1 m1 (.refl H1) (.refl m1) ok1 ((he.mono l p).set i rx)⟩
end
end Mm

namespace Mm
open PySem L2
/-! ### targets -/
abbrev TX := D → Env → Option Env
/-- all slots but those at ts are as they were -/
def But (ts : List Nat) (s s' : L2.St) : Prop := s'.length = s.length ∧ ∀ j, j ∉ ts → s'[j]? = s[j]?
theorem But.refl (ts : List Nat) (s : L2.St) : But ts s s := ⟨rfl, fun _ _ => rfl⟩
theorem But.trans {ts us : List Nat} {s s1 s2 : L2.St} (a : But ts s s1) (b : But us s1 s2) : But (ts ++ us) s s2 :=
  ⟨b.1.trans a.1, fun j h => by rw [b.2 j (fun z => h (List.mem_append_right _ z)), a.2 j (fun z => h (List.mem_append_left _ z))]⟩
theorem But.set (i : Nat) (s : L2.St) (v : Option V) : But [i] s (s.set i v) := ⟨by simp, fun j h => List.getElem?_set_ne fun z => h (by simp [z])⟩
theorem But.wipe {ts vs : List Nat} {s s' : L2.St} (b : But ts s s') (h : ∀ i ∈ ts, i ∈ vs) : L2.wipe s' vs = L2.wipe s vs := by
  refine List.ext_getElem? fun i => ?_
  have one : ∀ (x : L2.St) (us : List Nat), i ∈ us → i < x.length → (L2.wipe x us)[i]? = some none := by
    intro x us
    induction us with
    | nil => intro h; cases h
    | cons u us ih =>
      intro hm hl
      unfold L2.wipe
      by_cases hu : u = i
      · subst hu
        exact List.getElem?_set_self (by rw [L2.wipe_length]; exact hl)
      · rw [List.getElem?_set_ne hu]
        exact ih ((List.mem_cons.mp hm).resolve_left fun z => hu z.symm) hl
  by_cases hi : i ∈ vs
  · by_cases hl : i < s.length
    · rw [one s vs hi hl, one s' vs hi (by rw [b.1]; exact hl)]
    · rw [List.getElem?_eq_none (by rw [L2.wipe_length, b.1]; omega), List.getElem?_eq_none (by rw [L2.wipe_length]; omega)]
  · rw [L2.wipe_out hi, L2.wipe_out hi]
    exact b.2 i fun z => hi (h i z)
/-- what stands for what; at the top, with b, a tuple that may have a dict of its own -/
def RepB (b : Bool) (K : PySem.W.Frag) (H : Hp) (m : List Addr) (d : D) (v : V) : Prop := match b, d with
  | true, .tup ds => ∃ a vs, v = .ref a ∧ SqT K H a vs ∧ Reps K H m ds vs
  | _, d => Rep K H m d v
theorem Rep.b {b : Bool} {K : PySem.W.Frag} {H : Hp} {m : List Addr} {d : D} {v : V} (h : Rep K H m d v) : RepB b K H m d v := by
  cases d with
  | tup ds =>
    cases b with
    | true => obtain ⟨a, vs, e, hs, hr⟩ := h; exact ⟨a, vs, e, hs.sq, hr⟩
    | false => exact h
  | non | bl _ | int _ | str _ | ref _ => cases b <;> exact h
theorem RepB.rep {K : PySem.W.Frag} {H : Hp} {m : List Addr} {d : D} {v : V} (h : RepB false K H m d v) : Rep K H m d v := by
  cases d <;> exact h
theorem RepB.tup {b : Bool} {K : PySem.W.Frag} {H : Hp} {m : List Addr} {ds : List D} {v : V} (h : RepB b K H m (.tup ds) v) : ∃ a vs, v = .ref a ∧ SqT K H a vs ∧ Reps K H m ds vs := by
  cases b with
  | true => exact h
  | false => obtain ⟨a, vs, e, hs, hr⟩ := h.rep; exact ⟨a, vs, e, hs.sq, hr⟩
def gT (b : Bool) (K : PySem.W.Frag) (T : List (Addr × Str)) (ts : List Nat) (f : TX) : TG := fun v s H Q => ∃ d e st m, RepB b K H m d v ∧ EnvOk K H m s e ∧ Ok K T H m st ∧ ∃ e', f d e = some e' ∧ ∀ s', EnvOk K H m s' e' → But ts s s' → Q s' H
def gTs (K : PySem.W.Frag) (T : List (Addr × Str)) (ts : List Nat) (f : List D → Env → Option Env) : TGs := fun vs s H Q => ∃ ds e st m, Reps K H m ds vs ∧ EnvOk K H m s e ∧ Ok K T H m st ∧ ∃ e', f ds e = some e' ∧ ∀ s', EnvOk K H m s' e' → But ts s s' → Q s' H
def tgN (i : Nat) : TX := fun d e => some (e.set i (some d))
def tgNil : List D → Env → Option Env := fun ds e => match ds with
  | [] => some e
  | _ => none
def tgCons (f : TX) (g : List D → Env → Option Env) : List D → Env → Option Env := fun ds e => match ds with
  | d :: r => (f d e).bind fun e1 => g r e1
  | [] => none
def tgTup (g : List D → Env → Option Env) : TX := fun d e => match d with
  | .tup ds => g ds e
  | _ => none
theorem pg_weak {X : Cx} {t : Expr} {g g' : TG} (h : PG X t g) (k : ∀ v s H Q, g' v s H Q → g v s H Q) : PG X t g' := ⟨fun pins s σ H v u Q I r hw => h.run pins s σ H v u Q I r (k v σ H Q hw)⟩
theorem pgs_weak {X : Cx} {t : List Expr} {g g' : TGs} (h : PGs X t g) (k : ∀ v s H Q, g' v s H Q → g v s H Q) : PGs X t g' := ⟨fun pins s σ H v u Q I r hw => h.run pins s σ H v u Q I r (k v σ H Q hw)⟩
abbrev JG (b : Bool) (X : Cx) (T : List (Addr × Str)) (us : List Nat) (t : Expr) (f : TX) : Prop := PG X t (gT b X.K T us f)
structure JGs (X : Cx) (T : List (Addr × Str)) (us : List Nat) (ts : List Expr) (f : List D → Env → Option Env) : Prop where
  pg : PGs X ts (gTs X.K T us f)
  len : ∀ ds e e', f ds e = some e' → ds.length = ts.length
section
variable {X : Cx} {T : List (Addr × Str)} {W : WX} {pos : Pos} {t : Expr} {ts : List Expr} {f : TX} {g : List D → Env → Option Env}
theorem jg_name {i : Nat} {x : Str} (hN : X.N.Nodup) (hi : X.N[i]? = some x) (hx : Loc X.env.scope x) (hf : X.fn x = true ∨ X.env.scope.names.lookup x = some .local := by first | exact .inl rfl | exact .inr rfl | assumption) : JG false X T [i] (.Name x pos) (tgN i) :=
  pg_weak (pg_name hN hi hx hf) fun v s H Q ⟨d, e, st, m, rd, he, ok, e', h1, h2⟩ => by
    cases h1
    exact h2 _ (he.set i rd.rep) (.set i s _)
theorem jgs_nil : JGs X T [] [] tgNil := by
  refine ⟨pgs_weak pgs_nil fun vs s H Q ⟨ds, e, st, m, rd, he, ok, e', h1, h2⟩ => ?_, fun ds e e' h => ?_⟩
  · cases ds with
    | nil => cases h1; cases rd; exact ⟨rfl, h2 s he (.refl _ s)⟩
    | cons d r => cases h1
  · cases ds with
    | nil => rfl
    | cons d r => cases h
theorem jgs_cons {u1 u2 : List Nat} (h1 : JG false X T u1 t f) (h2 : JGs X T u2 ts g) (hs : (assignEach (t :: ts) X.env).map (·.2) = assign t X.env :: (assignEach ts X.env).map (·.2) := by rfl) : JGs X T (u1 ++ u2) (t :: ts) (tgCons f g) := by
  refine ⟨pgs_weak (pgs_cons h1 h2.pg hs) fun vs s H Q ⟨ds, e, st, m, rd, he, ok, e', q1, q2⟩ => ?_, fun ds e e' h => ?_⟩
  · cases ds with
    | nil => cases q1
    | cons d r =>
      obtain ⟨v, vr, rfl, rv, rr⟩ := rd
      unfold tgCons at q1
      cases hf : f d e with
      | none => simp [hf] at q1
      | some e1 =>
        simp [hf] at q1
        exact ⟨v, vr, rfl, d, e, st, m, rv.b, he, ok, e1, hf, fun s' he' b1 => ⟨r, e1, st, m, rr, he', ok, e', q1, fun s2 he2 b2 => q2 s2 he2 (b1.trans b2)⟩⟩
  · cases ds with
    | nil => cases h
    | cons d r =>
      unfold tgCons at h
      cases hf : f d e with
      | none => simp [hf] at h
      | some e1 =>
        simp [hf] at h
        simp [h2.len r e1 e' h]
theorem jg_tup {b : Bool} {u1 : List Nat} {k : Nat} {n : Nat} (hc : X.calm = true) (h : JGs X T u1 ts g) (hn : (assignEach ts X.env).length = n := by rfl) (hst : (assignEach ts X.env).findIdx? (·.1) = none := by rfl) (hl : ts.length = n := by rfl) : JG b X T u1 (.Tuple ts k pos) (tgTup g) :=
  pg_weak (pg_tup hc h.pg hn hst) fun v s H Q ⟨d, e, st, m, rd, he, ok, e', h1, h2⟩ => by
    cases d with
    | tup ds =>
      obtain ⟨a, vs, rfl, hs, hr⟩ := rd.tup
      have e1 := Reps.length hr
      have e2 := h.len ds e e' h1
      exact ⟨a, vs, rfl, hs, by rw [← e1, e2, hl], ds, e, st, m, hr, he, ok, e', h1, h2⟩
    | non | int _ | str _ | bl _ | ref _ => cases h1
end
def sAsg (f : EX) (t : TX) : SX := fun e st => (f e st).st e fun d st1 => match t d e with
  | some e1 => .nx e1 st1
  | none => .no
section
variable {X : Cx} {T : List (Addr × Str)} {W : WX} {a b c : Expr} {fa fb fc : EX} {pos : Pos} {es : List Expr} {fr : AX} {ba : BX} {t : Expr} {f : TX} {sb : SX} {body : List Stmt}
theorem js_asg {us : List Nat} (ha : J X T W a fa) (hg : JG false X T us t f) (hs : swapsWithSole [t] a pos.line X.env = pure false := by rfl) (hw : swappedStores [t] a X.env = pure none := by rfl)
    (h1 : (assignEach [t] X.env).map (·.2) = [assign t X.env] := by rfl) : JS X T W (.Assign [t] a pos) (sAsg fa f) := ps_weak (ps_asg ha hg hs hw h1) fun F s H ⟨e, st, m, he, ok, h⟩ =>
  ⟨e, st, m, he, ok, st_of he h fun x y st1 H1 m1 _ l p ok1 rx h1 => by
    cases hf : f x e with
    | none => rw [hf] at h1; exact False.elim h1
    | some e1 =>
      rw [hf] at h1
      exact ⟨x, e, st1, m1, rx.b, he.mono l p, ok1, e1, hf, fun s' he' _ => h1 s' H1 m1 (.refl H1) (.refl m1) ok1 he'⟩⟩
/-- x, y = a, b -/
def sPar (i j : Nat) (fa fb : EX) : SX := fun e st => (fa e st).st e fun x st1 => (fb e st1).st e fun y st2 => .nx ((e.set i (some x)).set j (some y)) st2
theorem js_par {i j : Nat} {x y : Str} {px py pt : Pos} {kt k2 pt2} (hc : X.calm = true) (hN : X.N.Nodup) (hi : X.N[i]? = some x) (hj : X.N[j]? = some y) (hij : i ≠ j)
    (hx : X.env.scope.names.lookup x = some .local) (hy : X.env.scope.names.lookup y = some .local) (ha : J X T W a fa) (hb : J X T W b fb) (he1 : starEach (a :: [b]) X.env = (false, eval a X.env) :: starEach [b] X.env := by rfl) (he2 : starEach (b :: []) X.env = (false, eval b X.env) :: starEach [] X.env := by rfl)
    (hw : swappedStores [.Tuple [.Name x px, .Name y py] kt pt] (.Tuple [a, b] k2 pt2) X.env = pure (some [x, y]) := by rfl)
    (hs : swapsWithSole [.Tuple [.Name x px, .Name y py] kt pt] (.Tuple [a, b] k2 pt2) pos.line X.env = pure false := by rfl) :
    JS X T W (.Assign [.Tuple [.Name x px, .Name y py] kt pt] (.Tuple [a, b] k2 pt2) pos) (sPar i j fa fb) :=
  ps_weak (ps_par hc hN hi hj hij hx hy (pa_cons ha (pa_cons hb pa_nil he2) he1) hw hs) fun F s H ⟨e, st, m, he, ok, h⟩ =>
    ⟨e, st, m, he, ok, st_of he h fun x y st1 H1 m1 _ l p ok1 rx h1 =>
      ⟨e, st1, m1, he.mono l p, ok1, st_of (he.mono l p) h1 fun x2 y2 st2 H2 m2 _ l2 p2 ok2 rx2 h2 =>
        ⟨y, y2, rfl, h2 _ H2 m2 (.refl H2) (.refl m2) ok2 ((((he.mono l p).mono l2 p2).set i (rx.mono l2 p2)).set j rx2)⟩⟩⟩
def sPar3 (i j k : Nat) (fa fb fc : EX) : SX := fun e st => (fa e st).st e fun x st1 => (fb e st1).st e fun y st2 => (fc e st2).st e fun z st3 => .nx (((e.set i (some x)).set j (some y)).set k (some z)) st3
theorem js_par3 {i j l : Nat} {x y z : Str} {px py pz pt : Pos} {kt k2 pt2} (hc : X.calm = true) (hN : X.N.Nodup) (hi : X.N[i]? = some x) (hj : X.N[j]? = some y) (hl : X.N[l]? = some z) (hij : i ≠ j) (hil : i ≠ l) (hjl : j ≠ l)
    (hx : X.env.scope.names.lookup x = some .local) (hy : X.env.scope.names.lookup y = some .local) (hz : X.env.scope.names.lookup z = some .local) (ha : J X T W a fa) (hb : J X T W b fb) (hcc : J X T W c fc)
    (he1 : starEach (a :: [b, c]) X.env = (false, eval a X.env) :: starEach [b, c] X.env := by rfl) (he2 : starEach (b :: [c]) X.env = (false, eval b X.env) :: starEach [c] X.env := by rfl) (he3 : starEach (c :: []) X.env = (false, eval c X.env) :: starEach [] X.env := by rfl)
    (hw : swappedStores [.Tuple [.Name x px, .Name y py, .Name z pz] kt pt] (.Tuple [a, b, c] k2 pt2) X.env = pure (some [x, y, z]) := by rfl)
    (hs : swapsWithSole [.Tuple [.Name x px, .Name y py, .Name z pz] kt pt] (.Tuple [a, b, c] k2 pt2) pos.line X.env = pure false := by rfl) :
    JS X T W (.Assign [.Tuple [.Name x px, .Name y py, .Name z pz] kt pt] (.Tuple [a, b, c] k2 pt2) pos) (sPar3 i j l fa fb fc) :=
  ps_weak (ps_par3 hc hN hi hj hl hij hil hjl hx hy hz (pa_cons ha (pa_cons hb (pa_cons hcc pa_nil he3) he2) he1) hw hs) fun F s H ⟨e, st, m, he, ok, h⟩ =>
    ⟨e, st, m, he, ok, st_of he h fun x y st1 H1 m1 _ l p ok1 rx h1 =>
      ⟨e, st1, m1, he.mono l p, ok1, st_of (he.mono l p) h1 fun x2 y2 st2 H2 m2 _ l2 p2 ok2 rx2 h2 =>
        ⟨e, st2, m2, (he.mono l p).mono l2 p2, ok2, st_of ((he.mono l p).mono l2 p2) h2 fun x3 y3 st3 H3 m3 _ l3 p3 ok3 rx3 h3 =>
          ⟨y, y2, y3, rfl, h3 _ H3 m3 (.refl H3) (.refl m3) ok3 ((((((he.mono l p).mono l2 p2).mono l3 p3).set i ((rx.mono l2 p2).mono l3 p3)).set j (rx2.mono l3 p3)).set _ rx3)⟩⟩⟩⟩
end

/-! ### what is walked -/
structure Src where
  items : List D
  ok : Sto → Bool
abbrev IX := Env → Sto → R Src
/-- the walk J goes over the items, while the store's guard holds -/
def Good (b : Bool) (K : PySem.W.Frag) (T : List (Addr × Str)) (J : It) (s : Src) (H0 : Hp) (m0 : List Addr) : Prop :=
  ∀ H m st, Le H0 H → Pre m0 m → Ok K T H m st → s.ok st = true →
    (∀ i, i < s.items.length → J.go i H) ∧ J.stop s.items.length H ∧ ∀ i x H', i < s.items.length → J.yld i H x H' → Le H H' ∧ Ok K T H' m st ∧ ∃ d, s.items[i]? = some d ∧ RepB b K H' m d x
def DenI (b : Bool) (K : PySem.W.Frag) (T : List (Addr × Str)) (mg : Str → Option Value) (W : WX) (s : L2.St) (H : Hp) (m : List Addr) (r : R Src) (Q : It → Hp → Prop) : Prop :=
  match r with
  | .no => False
  | .ok x st' => ∀ J H' m', Le H H' → Pre m m' → Ok K T H' m' st' → Good b K T J x H' m' → Q J H'
  | .ex x st' => ∀ cls dd H' m', Le H H' → Pre m m' → Ok K T H' m' st' → XRep K mg H' m' x cls dd → W cls dd s H'
def tI (b : Bool) (K : PySem.W.Frag) (T : List (Addr × Str)) (mg : Str → Option Value) (W : WX) (f : IX) : TI := fun s H Q => ∃ e st m, EnvOk K H m s e ∧ Ok K T H m st ∧ DenI b K T mg W s H m (f e st) Q
theorem pi_weak {X : Cx} {t a : Expr} {g g' : TI} (h : PI X t a g) (k : ∀ s H Q, g' s H Q → g s H Q) : PI X t a g' := ⟨fun pins s σ H R I hw => h.run pins s σ H R I (k σ H R hw)⟩
abbrev JI (b : Bool) (X : Cx) (T : List (Addr × Str)) (W : WX) (t a : Expr) (f : IX) : Prop := PI X t a (tI b X.K T X.mg W f)
def forL (g : Sto → Bool) (t : TX) (body : SX) : List D → Env → Sto → RS
  | [], e, st => if g st = true then .nx e st else .no
  | d :: ds, e, st => if g st = true then match t d e with
    | none => .no
    | some e1 => match body e1 st with
      | .nx e2 st2 => forL g t body ds e2 st2
      | .ct e2 st2 => forL g t body ds e2 st2
      | .brk e2 st2 => .nx e2 st2
      | r => r
    else .no
def sFor (src : IX) (t : TX) (body : SX) : SX := fun e st => match src e st with
  | .ok s st1 => forL s.ok t body s.items e st1
  | .ex x st1 => .exc x e st1
  | .no => .no
section
variable {X : Cx} {T : List (Addr × Str)} {W : WX} {a b c : Expr} {fa fb fc : EX} {pos : Pos} {ba : BX} {t : Expr} {f : TX} {sb : SX} {body : List Stmt} {src : IX}
theorem den_false {K : PySem.W.Frag} {mg : Str → Option Value} {H : Hp} {m : List Addr} {F : Ends} {r : RS} (h : DenS K T mg W H m r F) (e : r = .no) : False := by
  subst e; exact h
theorem js_for (hp : PassesOwn (model X.prog X.w) X.A X.env X.xe) (hc : X.calm = true) {bb : Bool} {us : List Nat} (hi : JI bb X T W t a src) (hg : JG bb X T us t f) (hb : JB X T W body sb)
    (hs : ∀ x, foldedSetIterable a X.env x = pure x := by intro _; rfl) : JS X T W (.For t a body [] pos) (sFor src f sb) := by
  refine ps_weak (ps_for hp hc hi hg hb hs) fun F s H ⟨e, st, m, he, ok, h⟩ => ⟨e, st, m, he, ok, ?_⟩
  unfold sFor at h
  revert h
  generalize src e st = r
  intro h
  cases r with
  | no => exact h
  | ex x st1 => exact fun cls dd H1 m1 l p ok1 xr => h cls dd s H1 m1 l p ok1 (he.mono l p) xr
  | ok sr st1 =>
    intro Jw H1 m1 l p ok1 good
    have h : DenS X.K T X.mg W H m (forL sr.ok f sb sr.items e st1) F := h
    refine ⟨fun i n s' H' => ∃ e' st' m', n = sr.items.length - i ∧ i ≤ sr.items.length ∧ Le H1 H' ∧ Pre m1 m' ∧ EnvOk X.K H' m' s' e' ∧ Ok X.K T H' m' st' ∧ DenS X.K T X.mg W H' m' (forL sr.ok f sb (sr.items.drop i) e' st') F,
      ⟨sr.items.length, e, st1, m1, by simp, Nat.zero_le _, .refl H1, .refl m1, he.mono l p, ok1, by simpa using DenS.mono h l p⟩, ?_⟩
    rintro i n s' H' ⟨e', st', m', rfl, hle, l1, p1, he1, ok', hd⟩
    by_cases hlt : i < sr.items.length
    · rw [List.drop_eq_getElem_cons hlt, forL] at hd
      by_cases hg' : sr.ok st' = true
      · rw [if_pos hg'] at hd
        obtain ⟨gg, gs, gy⟩ := good H' m' st' l1 p1 ok' hg'
        refine .inr ⟨gg i hlt, fun s2 H2 => ∃ e2 st2 m2, Le H1 H2 ∧ Pre m1 m2 ∧ EnvOk X.K H2 m2 s2 e2 ∧ Ok X.K T H2 m2 st2 ∧ DenS X.K T X.mg W H2 m2 (forL sr.ok f sb (sr.items.drop (i + 1)) e2 st2) F, ?_, ?_⟩
        · rintro s2 H2 ⟨e2, st2, m2, l2, p2, he2, ok2, hd2⟩
          exact ⟨sr.items.length - (i + 1), by omega, e2, st2, m2, rfl, hlt, l2, p2, he2, ok2, hd2⟩
        · intro x H2 hy
          obtain ⟨l2, ok2, d, hdd, rx⟩ := gy i x H2 hlt hy
          rw [List.getElem?_eq_getElem hlt] at hdd
          cases hdd
          cases ht : f sr.items[i] e' with
          | none => rw [ht] at hd; exact False.elim hd
          | some e1 =>
            rw [ht] at hd
            dsimp only at hd
            refine ⟨_, e', st', m', rx, he1.mono l2 (.refl m'), ok2, e1, ht, fun s2 he2 _ => ?_⟩
            refine ⟨e1, st', m', he2, ok2, ?_⟩
            have hd := DenS.mono hd l2 (.refl m')
            revert hd
            generalize sb e1 st' = r
            intro hd
            have l12 := l1.trans l2
            cases r with
            | no => exact hd
            | nx e2 st2 => exact fun s3 H3 m3 l3 p3 ok3 he3 => ⟨e2, st2, m3, l12.trans l3, p1.trans p3, he3, ok3, DenS.mono hd l3 p3⟩
            | ct e2 st2 => exact fun s3 H3 m3 l3 p3 ok3 he3 => ⟨e2, st2, m3, l12.trans l3, p1.trans p3, he3, ok3, DenS.mono hd l3 p3⟩
            | brk e2 st2 => exact hd
            | ret d st2 => exact hd
            | exc x e2 st2 => exact hd
      · rw [if_neg hg'] at hd
        exact False.elim hd
    · have e0 : i = sr.items.length := by omega
      subst e0
      rw [List.drop_length, forL] at hd
      by_cases hg' : sr.ok st' = true
      · rw [if_pos hg'] at hd
        obtain ⟨gg, gs, gy⟩ := good H' m' st' l1 p1 ok' hg'
        exact .inl ⟨gs, hd s' H' m' (.refl H') (.refl m') ok' he1⟩
      · rw [if_neg hg'] at hd
        exact False.elim hd
/-! while -/
def whL (c : BX) (body : SX) : Nat → Env → Sto → RS
  | 0, _, _ => .no
  | n + 1, e, st => match c e st with
    | .ok true st1 => match body e st1 with
      | .nx e2 st2 => whL c body n e2 st2
      | .ct e2 st2 => whL c body n e2 st2
      | .brk e2 st2 => .nx e2 st2
      | r => r
    | .ok false st1 => .nx e st1
    | .ex x st1 => .exc x e st1
    | .no => .no
def whMost : Nat := 1000000000
def sWh (c : BX) (body : SX) : SX := fun e st => whL c body whMost e st
theorem js_wh (hp : PassesOwn (model X.prog X.w) X.A X.env X.xe) (hcd : JT X T W c ba) (hb : JB X T W body sb) : JS X T W (.While c body [] pos) (sWh ba sb) := by
  refine ps_weak (ps_while hp hcd hb) fun F s H ⟨e, st, m, he, ok, h⟩ => ?_
  refine ⟨fun n s' H' => ∃ e' st' m', EnvOk X.K H' m' s' e' ∧ Ok X.K T H' m' st' ∧ DenS X.K T X.mg W H' m' (whL ba sb n e' st') F, ⟨whMost, e, st, m, he, ok, h⟩, ?_⟩
  rintro n s' H' ⟨e', st', m', he', ok', hd⟩
  cases n with
  | zero => exact False.elim hd
  | succ n =>
    refine ⟨e', st', m', he', ok', ?_⟩
    rw [whL] at hd
    revert hd
    generalize ba e' st' = r
    intro hd
    cases r with
    | no => exact hd
    | ex x st1 => exact fun cls dd H1 m1 l p ok1 xr => hd cls dd s' H1 m1 l p ok1 (he'.mono l p) xr
    | ok x st1 =>
      intro y H1 m1 l p ok1 rx
      cases rx
      cases x with
      | false => exact hd s' H1 m1 l p ok1 (he'.mono l p)
      | true =>
        rw [if_pos rfl]
        refine ⟨fun s2 H2 => ∃ e2 st2 m2, EnvOk X.K H2 m2 s2 e2 ∧ Ok X.K T H2 m2 st2 ∧ DenS X.K T X.mg W H2 m2 (whL ba sb n e2 st2) F, fun s2 H2 ⟨e2, st2, m2, q1, q2, q3⟩ => ⟨n, by omega, e2, st2, m2, q1, q2, q3⟩, e', st1, m1, he'.mono l p, ok1, ?_⟩
        have hd := DenS.mono hd l p
        revert hd
        show DenS X.K T X.mg W H1 m1 (match sb e' st1 with
          | .nx e2 st2 => whL ba sb n e2 st2
          | .ct e2 st2 => whL ba sb n e2 st2
          | .brk e2 st2 => .nx e2 st2
          | r => r) F → _
        generalize sb e' st1 = r
        intro hd
        cases r with
        | no => exact hd
        | nx e2 st2 => exact fun s3 H3 m3 l3 p3 ok3 he3 => ⟨e2, st2, m3, he3, ok3, DenS.mono hd l3 p3⟩
        | ct e2 st2 => exact fun s3 H3 m3 l3 p3 ok3 he3 => ⟨e2, st2, m3, he3, ok3, DenS.mono hd l3 p3⟩
        | brk e2 st2 => exact hd
        | ret d st2 => exact hd
        | exc x e2 st2 => exact hd
end
/-! the sources -/
def cellItems : Option Cell → Option (List D)
  | some (.lst xs) => some xs
  | some (.ro xs) => some xs
  | none => none
/-- over a list or tuple that a name or expression gives -/
def iSeq (a : EX) : IX := fun e st => (a e st).bind fun x st1 => match x with
  | .tup ds => .ok ⟨ds, fun _ => true⟩ st1
  | .ref i => match cellItems st1[i]? with
    | some ds => .ok ⟨ds, fun s => decide (s[i]? = st1[i]?)⟩ st1
    | none => .no
  | _ => .no
def intsUp (lo : Int) : Nat → List D
  | 0 => []
  | n + 1 => .int lo :: intsUp (lo + 1) n
theorem intsUp_len : ∀ (n : Nat) (lo : Int), (intsUp lo n).length = n
  | 0, _ => rfl
  | n + 1, lo => by simp [intsUp, intsUp_len n]
theorem intsUp_get : ∀ (n i : Nat) (lo : Int), i < n → (intsUp lo n)[i]? = some (.int (lo + i))
  | 0, _, _, h => absurd h (Nat.not_lt_zero _)
  | n + 1, 0, lo, h => by simp [intsUp]
  | n + 1, i + 1, lo, h => by
    rw [intsUp, List.getElem?_cons_succ, intsUp_get n i (lo + 1) (by omega)]
    congr 2
    omega
def bigR (i : Int) : Bool := decide (i.natAbs ≤ 1000000000)
theorem bigR_ok {i : Int} (h : bigR i = true) : -1000000000 ≤ i ∧ i ≤ 1000000000 := by
  have := of_decide_eq_true h
  omega
def iR1 (a : AX) : IX := fun e st => (a e st).bind fun ds st1 => match ds with
  | [.int n] => if bigR n = true then .ok ⟨intsUp 0 n.toNat, fun _ => true⟩ st1 else .no
  | _ => .no
def iR2 (a : AX) : IX := fun e st => (a e st).bind fun ds st1 => match ds with
  | [.int lo, .int hi] => if (bigR lo && bigR hi) = true then .ok ⟨intsUp lo (hi - lo).toNat, fun _ => true⟩ st1 else .no
  | _ => .no
section
variable {X : Cx} {T : List (Addr × Str)} {W : WX} {a b c : Expr} {fa fb fc : EX} {fr : AX} {pos p2 : Pos} {t : Expr}
theorem deni_of {b : Bool} {K : PySem.W.Frag} {mg : Str → Option Value} {al be : Type} {RA : Hp → List Addr → al → be → Prop} {s : L2.St} {H : Hp} {m : List Addr} {r : R al} {k : al → Sto → R Src} {Q : It → Hp → Prop} (h : DenI b K T mg W s H m (r.bind k) Q) {Q' : be → Hp → Prop}
    (q : ∀ x y st1 H1 m1, r = .ok x st1 → Le H H1 → Pre m m1 → Ok K T H1 m1 st1 → RA H1 m1 x y → DenI b K T mg W s H1 m1 (k x st1) Q → Q' y H1) : Den K T mg W RA s H m r Q' := by
  cases r with
  | no => exact h
  | ex x st1 => exact h
  | ok x st1 =>
    intro y H1 m1 le pr ok ra
    refine q x y st1 H1 m1 rfl le pr ok ra ?_
    have h' : DenI b K T mg W s H m (k x st1) Q := h
    revert h'
    generalize k x st1 = r2
    intro h'
    cases r2 with
    | no => exact h'
    | ok x2 st2 => exact fun y2 H2 m2 l2 p2 => h' y2 H2 m2 (le.trans l2) (pr.trans p2)
    | ex x2 st2 => exact fun cls dd H2 m2 l2 p2 => h' cls dd H2 m2 (le.trans l2) (pr.trans p2)
theorem good_range {K : PySem.W.Frag} {H : Hp} {m : List Addr} {lo : Int} {n : Nat} : Good false K T (Itr lo n) ⟨intsUp lo n, fun _ => true⟩ H m := fun H' m' st l p ok g => by
  have w := walk_range (lo := lo) (n := n)
  refine ⟨fun i hi => ?_, ?_, fun i x H2 hi hy => ?_⟩
  · rw [intsUp_len] at hi; exact w.goes i H' hi trivial
  · rw [intsUp_len]; exact w.stops H' trivial
  · rw [intsUp_len] at hi
    obtain ⟨e1, e2⟩ := w.yields i H' x H2 hi trivial hy
    subst e1
    exact ⟨.refl _, ok, _, intsUp_get n i lo hi, Rep.b (d := .int _) e2⟩
theorem ji_r1 (hg : Gl X "range") (hm : X.mg "range" = none) (ha : JA X T W [a] fr) (hs : starEach [a] X.env = [(false, eval a X.env)] := by rfl) : JI false X T W t (.Call (.Name "range" p2) [a] [] pos) (iR1 fr) :=
  pi_weak (pi_range1 hg hm ha.pa hs) fun s H Q ⟨e, st, m, he, ok, h⟩ => ⟨e, st, m, he, ok, deni_of h fun ds xs st1 H1 m1 hf l p ok1 rs h1 => by
    have hn := ha.len _ _ _ _ hf
    match ds, hn with
    | [d], _ =>
      obtain ⟨v, r, rfl, rv, rr⟩ := rs
      cases rr
      cases d with
      | int n =>
        cases rv
        by_cases hb : bigR n = true
        · have h1 : DenI false X.K T X.mg W s H1 m1 (if bigR n = true then .ok ⟨intsUp 0 n.toNat, fun _ => true⟩ st1 else .no) Q := h1
          rw [if_pos hb] at h1
          replace hb := bigR_ok hb
          exact ⟨n, rfl, by omega, by omega, h1 _ H1 m1 (.refl H1) (.refl m1) ok1 good_range⟩
        · have h1 : DenI false X.K T X.mg W s H1 m1 (if bigR n = true then .ok ⟨intsUp 0 n.toNat, fun _ => true⟩ st1 else .no) Q := h1
          rw [if_neg hb] at h1
          exact False.elim h1
      | non | bl _ | str _ | tup _ | ref _ => exact False.elim h1⟩
theorem ji_r2 (hg : Gl X "range") (hm : X.mg "range" = none) (ha : JA X T W [a, b] fr) (hs : starEach [a, b] X.env = [(false, eval a X.env), (false, eval b X.env)] := by rfl) (hs2 : starEach [b] X.env = [(false, eval b X.env)] := by rfl) :
    JI false X T W t (.Call (.Name "range" p2) [a, b] [] pos) (iR2 fr) :=
  pi_weak (pi_range2 hg hm ha.pa hs hs2) fun s H Q ⟨e, st, m, he, ok, h⟩ => ⟨e, st, m, he, ok, deni_of h fun ds xs st1 H1 m1 hf l p ok1 rs h1 => by
    have hn := ha.len _ _ _ _ hf
    match ds, hn with
    | [d, d2], _ =>
      obtain ⟨v, r, rfl, rv, v2, r2, rfl, rv2, rr⟩ := rs
      cases rr
      cases d with
      | int lo =>
        cases d2 with
        | int hi =>
          cases rv
          cases rv2
          have h1 : DenI false X.K T X.mg W s H1 m1 (if (bigR lo && bigR hi) = true then .ok ⟨intsUp lo (hi - lo).toNat, fun _ => true⟩ st1 else .no) Q := h1
          by_cases hb : (bigR lo && bigR hi) = true
          · rw [if_pos hb] at h1
            replace hb := And.intro (bigR_ok (Bool.and_eq_true_iff.mp hb).1) (bigR_ok (Bool.and_eq_true_iff.mp hb).2)
            exact ⟨lo, hi, rfl, ⟨by omega, by omega, by omega, by omega⟩, h1 _ H1 m1 (.refl H1) (.refl m1) ok1 good_range⟩
          · rw [if_neg hb] at h1
            exact False.elim h1
        | non | bl _ | str _ | tup _ | ref _ => exact False.elim h1
      | non | bl _ | str _ | tup _ | ref _ => exact False.elim h1⟩
theorem cellItems_ok {K : PySem.W.Frag} {H : Hp} {m : List Addr} {st : Sto} {i : Nat} {ds : List D} (ok : Ok K T H m st) (h : cellItems st[i]? = some ds) : ∃ a vs, m[i]? = some a ∧ SqL K H a vs ∧ Reps K H m ds vs := by
  cases hc : st[i]? with
  | none => rw [hc] at h; cases h
  | some c =>
    rw [hc] at h
    obtain ⟨a, h1, h2⟩ := ok.cell i c hc
    obtain ⟨ds', vs, hcs, hl, hr⟩ := h2.list
    rcases hcs with rfl | rfl <;> cases h <;> exact ⟨a, vs, h1, hl, hr⟩
theorem good_list {K : PySem.W.Frag} {H : Hp} {m : List Addr} {st1 : Sto} {i : Nat} {ds : List D} {a : Addr} (h : cellItems st1[i]? = some ds) (hm : m[i]? = some a) : Good false K T (Itl K a) ⟨ds, fun s => decide (s[i]? = st1[i]?)⟩ H m := fun H' m' st l p ok g => by
  have g : st[i]? = st1[i]? := of_decide_eq_true g
  obtain ⟨a', vs, h1, h2, h3⟩ := cellItems_ok ok (by rw [g]; exact h)
  rw [p.get hm] at h1
  cases h1
  have w := walk_list (K := K) (a := a) (xs := vs)
  have e := Reps.length h3
  refine ⟨fun j hj => w.goes j H' (by rw [← e]; exact hj) h2, by rw [e]; exact w.stops H' h2, fun j x H2 hj hy => ?_⟩
  obtain ⟨e1, e2⟩ := w.yields j H' x H2 (by rw [← e]; exact hj) h2 hy
  subst e1
  obtain ⟨d, hd, rd⟩ := h3.back e2
  exact ⟨.refl _, ok, d, hd, rd.b⟩
theorem good_tup {K : PySem.W.Frag} {H : Hp} {m : List Addr} {ds : List D} {vs : List V} {a : Addr} (h2 : SqT K H a vs) (h3 : Reps K H m ds vs) : Good false K T (Itt K a) ⟨ds, fun _ => true⟩ H m := fun H' m' st l p ok g => by
  have h2 := l.sqT h2
  have h3 := Reps.mono l p h3
  have w := walk_tup (K := K) (a := a) (xs := vs)
  have e := Reps.length h3
  refine ⟨fun j hj => w.goes j H' (by rw [← e]; exact hj) h2, by rw [e]; exact w.stops H' h2, fun j x H2 hj hy => ?_⟩
  obtain ⟨e1, e2⟩ := w.yields j H' x H2 (by rw [← e]; exact hj) h2 hy
  subst e1
  obtain ⟨d, hd, rd⟩ := h3.back e2
  exact ⟨.refl _, ok, d, hd, rd.b⟩
/-- a list or a tuple: by what it is -/
theorem ji_seq (ha : J X T W a fa) : JI false X T W t a (iSeq fa) := by
  refine ⟨fun pins s σ H R I hw => ?_⟩
  obtain ⟨e, st, m, he, ok, h⟩ := hw
  have key : Den X.K T X.mg W (RD X.K) σ H m (fa e st) (fun x H1 => (∃ p, x = .ref p ∧ (∃ xs, SqL X.K H1 p xs) ∧ R (Itl X.K p) H1) ∨ (∃ p, x = .ref p ∧ (∃ xs, SqT X.K H1 p xs) ∧ R (Itt X.K p) H1)) := deni_of h fun dx x st1 H1 m1 hf l p ok1 rx h1 => by
    cases dx with
    | tup ds =>
      obtain ⟨p, vs, rfl, hs, hr⟩ := rx
      exact .inr ⟨p, rfl, ⟨vs, hs.sq⟩, h1 _ H1 m1 (.refl H1) (.refl m1) ok1 (good_tup hs.sq hr)⟩
    | ref i =>
      obtain ⟨p, hm, rfl⟩ := rx
      cases hc : cellItems st1[i]? with
      | none =>
        have h1 : DenI false X.K T X.mg W σ H1 m1 (match cellItems st1[i]? with | some ds => .ok ⟨ds, fun s => decide (s[i]? = st1[i]?)⟩ st1 | none => .no) R := h1
        rw [hc] at h1
        exact False.elim h1
      | some ds =>
        have h1 : DenI false X.K T X.mg W σ H1 m1 (match cellItems st1[i]? with | some ds => .ok ⟨ds, fun s => decide (s[i]? = st1[i]?)⟩ st1 | none => .no) R := h1
        rw [hc] at h1
        obtain ⟨a', vs, q1, q2, q3⟩ := cellItems_ok ok1 hc
        rw [hm] at q1
        cases q1
        exact .inl ⟨p, rfl, ⟨vs, q2⟩, h1 _ H1 m1 (.refl H1) (.refl m1) ok1 (good_list hc hm)⟩
    | non | bl _ | str _ | int _ => exact False.elim h1
  refine thn (ha.run pins s σ H _ I ⟨e, st, m, he, ok, key⟩) fun v s1 ⟨x, H1, I1, r1, q1⟩ => ?_
  rcases q1 with ⟨p, rfl, ⟨xs, hq⟩, q⟩ | ⟨p, rfl, ⟨xs, hq⟩, q⟩
  · cases r1
    obtain ⟨its, rv, pl, hz⟩ := I1.list hq
    refine wpAny_pyIter_list pl.isList ?_
    refine ⟨s1.heap.objs.size, [s1.heap.objs.size], _, _, H1, rfl, I1.kept (t' := s1.toks) fun b o e => Heap.get?_push_of_some _ e, turn_list p _, ⟨_, Heap.get?_push_size _ rfl, rfl, rfl⟩, fun b hb => ?_, q⟩
    have e : b = s1.heap.objs.size := by simpa using hb
    subst e
    exact I1.fpOk (Nat.le_refl _) (I1.hok.fresh (Nat.le_refl _))
  · cases r1
    obtain ⟨its, rv, pl, hz⟩ := I1.tuple hq
    refine wpAny_pyIter_tuple (show s1.heap.IsTuple p its.toArray from pl) ?_
    refine ⟨s1.heap.objs.size, [s1.heap.objs.size], _, _, H1, rfl, I1.kept (t' := s1.toks) fun b o e => Heap.get?_push_of_some _ e, turn_tuple p _, ⟨_, Heap.get?_push_size _ rfl, rfl, rfl⟩, fun b hb => ?_, q⟩
    have e : b = s1.heap.objs.size := by simpa using hb
    subst e
    exact I1.fpOk (Nat.le_refl _) (I1.hok.fresh (Nat.le_refl _))
end
end Mm

namespace Mm
open PySem L2
/-! ### operators -/
def b64 (i : Int) : Bool := decide (i.natAbs < 18446744073709551616)
/-- the items of a tuple, or of a list of the store -/
def seqOf (st : Sto) : D → Option (List D)
  | .tup xs => some xs
  | .ref i => cellItems st[i]?
  | _ => none
def lstOf (st : Sto) : D → Option (List D)
  | .ref i => match st[i]? with
    | some (.lst xs) => some xs
    | _ => none
  | _ => none
def oAdd : O2 := fun x y st => match x, y with
  | .int i, .int j => some (.int (i + j), st)
  | .tup xs, .tup ys => if xs.length + ys.length ≤ lim then some (.tup (xs ++ ys), st) else none
  | .ref i, .ref j => match lstOf st (.ref i), lstOf st (.ref j) with
    | some xs, some ys => if xs.length + ys.length ≤ lim then some (.ref st.length, st ++ [.lst (xs ++ ys)]) else none
    | _, _ => none
  | .str a, .str b => if a.length + b.length ≤ lim then some (.str (a ++ b), st) else none
  | _, _ => none
def oSub : O2 := fun x y st => match x, y with
  | .int i, .int j => some (.int (i - j), st)
  | _, _ => none
def oMul : O2 := fun x y st => match x, y with
  | .int i, .int j => if (b64 i || b64 j) = true then some (.int (i * j), st) else none
  | .tup xs, .int k => if k = 1 then some (.tup xs, st) else if decide (k = 0) && !xs.isEmpty then some (.tup [], st) else if decide (2 ≤ k) && decide (xs.length * k.toNat ≤ lim) && !xs.isEmpty then some (.tup (List.replicate k.toNat xs).flatten, st) else if xs.isEmpty && (decide (k = 2) || decide (k = 3)) then some (.tup xs, st) else none
  | .ref i, .int k => match lstOf st (.ref i) with
    | some xs => if decide (0 ≤ k) && decide (k.natAbs ≤ 10000) && decide (xs.length ≤ 100) then some (.ref st.length, st ++ [.lst (List.replicate k.toNat xs).flatten]) else none
    | none => none
  | _, _ => none
def oDiv : O2 := fun x y st => match x, y with
  | .int i, .int j => if decide (j ≠ 0) && decide (j.natAbs < 1073741824) then some (.int (Int.fdiv i j), st) else none
  | _, _ => none
def oMod : O2 := fun x y st => match x, y with
  | .int i, .int j => if j ≠ 0 then some (.int (Int.fmod i j), st) else none
  | _, _ => none
def oPow : O2 := fun x y st => match x, y with
  | .int i, .int j => if decide (0 ≤ j) && decide (j ≤ 1000) && decide (i.natAbs < 1000) then some (.int (i ^ j.toNat), st) else none
  | _, _ => none
def oCmpI (p : Int → Int → Bool) : O2 := fun x y st => match x, y with
  | .int i, .int j => some (.bl (p i j), st)
  | _, _ => none
def oLt : O2 := oCmpI fun i j => decide (i < j)
def oLe : O2 := oCmpI fun i j => decide (i ≤ j)
def oGt : O2 := oCmpI fun i j => decide (j < i)
def oGe : O2 := oCmpI fun i j => decide (j ≤ i)
def oIs : O2 := fun x y st => match x, y with
  | .bl a, .bl b => some (.bl (decide (a = b)), st)
  | x, .non => some (.bl (match x with | .non => true | _ => false), st)
  | _, _ => none
def oIsN : O2 := fun x y st => match x, y with
  | .bl a, .bl b => some (.bl (!decide (a = b)), st)
  | x, .non => some (.bl (match x with | .non => false | _ => true), st)
  | _, _ => none
/-! as PyData -/
mutual
def py : D → Option PyData
  | .non => some .none
  | .bl b => some (.bool b)
  | .int i => some (.int i)
  | .str x => some (.str x)
  | .tup xs => (pys xs).map .tuple
  | .ref _ => none
def pys : List D → Option (List PyData)
  | [] => some []
  | x :: xs => (py x).bind fun d => (pys xs).map fun r => d :: r
end
def pyS (st : Sto) : D → Option PyData
  | .ref i => match cellItems st[i]? with
    | some xs => (pys xs).map .list
    | none => none
  | d => py d
def eqD (st : Sto) (x y : D) : Option Bool := match pyS st x, pyS st y with
  | some d, some e => if (SeqAt.shaped d && SeqAt.shaped e) = true then some (PyData.eqv d e) else none
  | _, _ => none
/-- == : at once for what is simple -/
def eqF (st : Sto) : D → D → Option Bool
  | .int i, .int j => some (decide (i = j))
  | .str i, .str j => some (decide (i = j))
  | .bl i, .bl j => some (decide (i = j))
  | .non, .non => some true
  | x, y => eqD st x y
def oEq : O2 := fun x y st => (eqF st x y).map fun b => (.bl b, st)
def oNe : O2 := fun x y st => (eqF st x y).map fun b => (.bl (!b), st)

section
variable {X : Cx} {T : List (Addr × Str)}
theorem op_of {f : Value → Value → Sem Value} {o : O2} (h : ∀ dx dy st m H x y r Q, Rep X.K H m dx x → Rep X.K H m dy y → Ok X.K T H m st → o dx dy st = some r → DenO X.K T H m (some r) Q → ∃ f2 : R2, OpR X f f2 ∧ f2 x y H Q) : OpR X f (r2 X.K T o) := by
  intro pins s σ H x y v u Q I rx ry hh
  obtain ⟨dx, dy, st, m, q1, q2, ok, q3⟩ := hh
  cases ho : o dx dy st with
  | none => rw [ho] at q3; exact False.elim q3
  | some r =>
    rw [ho] at q3
    obtain ⟨f2, k1, k2⟩ := h dx dy st m H x y r Q q1 q2 ok ho q3
    exact k1 pins s σ H x y v u Q I rx ry k2
theorem deno_val {K : PySem.W.Frag} {H : Hp} {m : List Addr} {d : D} {st : Sto} {Q : VK} {v : V} (h : DenO K T H m (some (d, st)) Q) (ok : Ok K T H m st) (r : Rep K H m d v) : Q v H := h v H m (.refl H) (.refl m) ok r
theorem deno_tup {K : PySem.W.Frag} {H : Hp} {m : List Addr} {ds : List D} {st : Sto} {Q : VK} {vs : List V} (h : DenO K T H m (some (.tup ds, st)) Q) (ok : Ok K T H m st) (r : Reps K H m ds vs) : ∀ p o, H p = none → o.dict = none → Q (.ref p) (upd H p (.frz o (.tup vs))) := fun p o hp ho =>
  h _ _ m (Le.new hp) (.refl m) (ok.new hp) ⟨p, vs, rfl, .new ho, r.mono (Le.new hp) (.refl m)⟩
theorem deno_lst {K : PySem.W.Frag} {H : Hp} {m : List Addr} {ds : List D} {st : Sto} {Q : VK} {vs : List V} (h : DenO K T H m (some (.ref st.length, st ++ [.lst ds])) Q) (ok : Ok K T H m st) (r : Reps K H m ds vs) : ∀ p, H p = none → Q (.ref p) (upd H p (.lst vs)) := fun p hp =>
  h _ _ (m ++ [p]) (Le.new hp) (.add m p) (ok.newCell hp r) ⟨p, by rw [← ok.len]; simp, rfl⟩
theorem lst_of {K : PySem.W.Frag} {H : Hp} {m : List Addr} {st : Sto} {i : Nat} {xs : List D} (ok : Ok K T H m st) (h : lstOf st (.ref i) = some xs) : ∃ a vs, m[i]? = some a ∧ H a = some (.lst vs) ∧ Reps K H m xs vs := by
  unfold lstOf at h
  simp only at h
  split at h
  · rename_i ys hy
    cases h
    exact ok.lst hy
  · cases h
theorem reps_rep {K : PySem.W.Frag} {H : Hp} {m : List Addr} {xs : List D} {vs : List V} (h : Reps K H m xs vs) : ∀ n : Nat, Reps K H m (List.replicate n xs).flatten (List.replicate n vs).flatten
  | 0 => by simp; rfl
  | n + 1 => by
    rw [List.replicate_succ, List.replicate_succ, List.flatten_cons, List.flatten_cons]
    exact h.append (reps_rep h n)
/-- t + u, what is new without a dict of its own -/
def rCatN (K : PySem.W.Frag) : R2 := fun x y H Q => ∃ a b xs ys, x = .ref a ∧ y = .ref b ∧ SqT K H a xs ∧ SqT K H b ys ∧ xs.length + ys.length ≤ sizeLine ∧
  (xs = [] → Q (.ref b) H) ∧ (xs ≠ [] → ys = [] → Q (.ref a) H) ∧ (∀ p o, H p = none → o.dict = none → Q (.ref p) (upd H p (.frz o (.tup (xs ++ ys)))))
theorem op_catN : OpR X (binaryOp .Add) (rCatN X.K) := fun pins s σ H x y v u Q I rx ry ⟨a, b, xs, ys, ex, ey, ha, hb, hz, q0, q1, q2⟩ => by
  subst ex ey
  have hx0 := rx
  have hy0 := ry
  cases rx; cases ry
  obtain ⟨t1, r1, p1, _⟩ := I.tuple ha
  obtain ⟨t2, r2, p2, _⟩ := I.tuple hb
  by_cases hx : xs = []
  · exact op_catA pins s σ H _ _ _ _ Q I hx0 hy0 ⟨a, b, xs, ys, rfl, rfl, ha, hb, hz, q0, q1, fun z => absurd hx z⟩
  · have hl : (t1 ++ t2).length ≤ sizeLine := by rw [List.length_append, ← r1.length, ← r2.length]; exact hz
    refine HT.cat_tup p1 p2 (fun z => hx (r1.nil_iff.mp z)) (fun z => ⟨.ref a, H, I, rfl, q1 hx (r2.nil_iff.mp z)⟩) (fun z => ⟨.ref s.heap.objs.size, _, I.laid (t' := s.toks) (o := .frz (tupO (t1 ++ t2)) (.tup (xs ++ ys))) (fun b ob e => Heap.get?_push_of_some _ e) (Nat.le_refl _) ⟨Heap.get?_push_size _ rfl, by rw [List.length_append]; exact hz, _, r1.append r2, _, Heap.get?_push_size _ rfl, rfl, _, rfl⟩, rfl, q2 _ _ (I.hok.fresh (Nat.le_refl _)) rfl⟩) (by rw [← List.length_append]; exact hl)
theorem ope_add : OpR X (binaryOp .Add) (r2 X.K T oAdd) := op_of fun dx dy st m H x y r Q rx ry ok ho q => by
  cases dx with
  | int i =>
    cases dy with
    | int j => cases ho; cases rx; cases ry; exact ⟨_, op_add, i, j, rfl, rfl, deno_val q ok rfl⟩
    | non | bl _ | str _ | tup _ | ref _ => cases ho
  | tup xs =>
    cases dy with
    | tup ys =>
      obtain ⟨a, vs, rfl, h1, h2⟩ := rx
      obtain ⟨b, ws, rfl, h3, h4⟩ := ry
      simp only [oAdd] at ho
      split at ho
      · rename_i hl
        cases ho
        have e1 := Reps.length h2
        have e2 := Reps.length h4
        refine ⟨_, op_catN, a, b, vs, ws, rfl, rfl, h1.sq, h3.sq, lim_le (by rw [← e1, ← e2]; exact hl), fun e => ?_, fun _ e => ?_, deno_tup q ok (h2.append h4)⟩
        · subst e
          have : xs = [] := List.eq_nil_of_length_eq_zero e1
          subst this
          exact deno_val q ok ⟨b, ws, rfl, h3, h4⟩
        · subst e
          have : ys = [] := List.eq_nil_of_length_eq_zero e2
          subst this
          rw [List.append_nil] at q
          exact deno_val q ok ⟨a, vs, rfl, h1, h2⟩
      · cases ho
    | non | bl _ | str _ | int _ | ref _ => cases ho
  | ref i =>
    cases dy with
    | ref j =>
      simp only [oAdd] at ho
      split at ho
      · rename_i xs ys hx hy
        split at ho
        · rename_i hl
          cases ho
          obtain ⟨a, ha, rfl⟩ := rx
          obtain ⟨b, hb, rfl⟩ := ry
          obtain ⟨a', vs, e1, e2, e3⟩ := lst_of ok hx
          obtain ⟨b', ws, f1, f2, f3⟩ := lst_of ok hy
          rw [ha] at e1; cases e1
          rw [hb] at f1; cases f1
          exact ⟨_, op_cat, a, b, vs, ws, rfl, rfl, e2, f2, lim_le (by rw [← Reps.length e3, ← Reps.length f3]; exact hl), deno_lst q ok (e3.append f3)⟩
        · cases ho
      · cases ho
    | non | bl _ | str _ | tup _ | int _ => cases ho
  | str i =>
    cases dy with
    | str j =>
      simp only [oAdd] at ho
      split at ho
      · rename_i hl
        cases ho; cases rx; cases ry
        exact ⟨_, op_add_str, i, j, rfl, rfl, lim_le hl, deno_val q ok rfl⟩
      · cases ho
    | non | bl _ | ref _ | tup _ | int _ => cases ho
  | non | bl _ => cases dy <;> cases ho
theorem ope_sub : OpR X (binaryOp .Sub) (r2 X.K T oSub) := op_of fun dx dy st m H x y r Q rx ry ok ho q => by
  cases dx with
  | int i =>
    cases dy with
    | int j => cases ho; cases rx; cases ry; exact ⟨_, op_sub, i, j, rfl, rfl, deno_val q ok rfl⟩
    | non | bl _ | str _ | tup _ | ref _ => cases ho
  | non | bl _ | str _ | tup _ | ref _ => cases ho
theorem b64_ok {i j : Int} (h : (b64 i || b64 j) = true) : CMul i j := by
  simp only [b64, Bool.or_eq_true, decide_eq_true_eq] at h
  replace h : (-18446744073709551616 < i ∧ i < 18446744073709551616) ∨ (-18446744073709551616 < j ∧ j < 18446744073709551616) := by omega
  show (-(2 ^ 64) < i ∧ i < 2 ^ 64) ∨ (-(2 ^ 64) < j ∧ j < 2 ^ 64)
  omega
/-- a tuple once -/
theorem tuple_mul1 (l : Addr) (items : Array Value) (n : Nat) (dd : Option Addr) (sl : Array (Option Value)) (u : Tok) :
    Meets (Builtin.«tuple.__mul__» ⟨[.ref l, .int 1 u], []⟩) (fun _ R s => s.heap.get? l = some { cls := .type "tuple", dict := dd, data := .seq items n, slots := sl } ∧ R (.ok (.ret (Value.ref l))) s) :=
  .of_wp fun prog w A R s h => by
    obtain ⟨hp, g, d, tk, os⟩ := s
    obtain ⟨hl, h⟩ := h
    have f1 := AutoSeq1.idx_int
    wp_walk using wpAny_loadPart' hl
    exact ⟨_, rfl, h⟩
/-- t * 1 -/
theorem op_once : OpR X (binaryOp .Mult) (fun x y H Q => ∃ l xs, x = .ref l ∧ y = .int 1 ∧ SqT X.K H l xs ∧ Q (.ref l) H) := by
  intro pins s σ H x y v u Q I rx ry h
  obtain ⟨l, xs, rfl, rfl, hT, q⟩ := h
  cases rx
  obtain ⟨t, rfl⟩ := ry
  obtain ⟨its, r, ⟨⟨cls, dd, data, sl⟩, ho, hc, n, hd⟩, hs⟩ := I.tuple hT
  simp only at hc hd
  subst hc hd
  refine wpAny_binaryOp_repeat_ref (T := "tuple") (U := "int") (by decide) ⟨_, ho, rfl⟩ (fun s' => typeIs_int s' 1 t) noFill_tuple_mul F.fills_int_mul F.slot_int_rmul repeat_tuple F.slot_int_index.lookup
    (call_meets F.slot_int_rmul (typeIs_int s 1 t) F.entry_int_rmul (F.args_int_rmul_2 _ _) (int_rmul_tuple 1 t l its.toArray n dd sl)
      ⟨ho, rfl, ⟨_, ho, rfl⟩, call_meets F.slot_tuple_mul ⟨_, ho, rfl⟩ F.entry_tuple_mul (F.args_tuple_mul_2 _ _) (tuple_mul1 l its.toArray n dd sl t) ⟨ho, ?_⟩⟩)
  exact ⟨.ref l, H, I, rfl, q⟩
/-- a tuple no times -/
theorem tuple_mul0 (l : Addr) (items : Array Value) (n : Nat) (dd : Option Addr) (sl : Array (Option Value)) (u : Tok) (c1 : (items.isEmpty || (0 : Int) == 1) = false) :
    Meets (Builtin.«tuple.__mul__» ⟨[.ref l, .int 0 u], []⟩) (fun _ R s => s.heap.get? l = some { cls := .type "tuple", dict := dd, data := .seq items n, slots := sl } ∧
      R (.ok (.ret (Value.ref s.heap.objs.size))) { s with heap := s.heap.push { cls := Value.type "tuple", data := Data.seq #[] }, toks := s.toks }) :=
  .of_wp fun prog w A R s h => by
    obtain ⟨hp, g, d, tk, os⟩ := s
    obtain ⟨hl, h⟩ := h
    have f1 := AutoSeq1.idx_int
    wp_walk using wpAny_loadPart' hl
    repeat (first
      | (refine wpAny_ite_false (decide_eq_false (by rw [c1]; exact Bool.false_ne_true)) ?_; wp_walk using wpAny_loadPart' hl)
      | (refine wpAny_ite_false (by decide) ?_; wp_walk using wpAny_loadPart' hl))
    exact ⟨_, rfl, h⟩
theorem op_nought : OpR X (binaryOp .Mult) (fun x y H Q => ∃ l xs, x = .ref l ∧ y = .int 0 ∧ xs ≠ [] ∧ SqT X.K H l xs ∧ ∀ p o, H p = none → o.dict = none → Q (.ref p) (upd H p (.frz o (.tup [])))) := by
  intro pins s σ H x y v u Q I rx ry h
  obtain ⟨l, xs, rfl, rfl, hx, hT, q⟩ := h
  cases rx
  obtain ⟨t, rfl⟩ := ry
  obtain ⟨its, r, ⟨⟨cls, dd, data, sl⟩, ho, hc, n, hd⟩, hs⟩ := I.tuple hT
  simp only at hc hd
  subst hc hd
  have c1 : (its.toArray.isEmpty || (0 : Int) == 1) = false := by
    cases its with
    | nil =>
      have := r.length
      exact absurd (List.eq_nil_of_length_eq_zero this) hx
    | cons a b => rfl
  refine wpAny_binaryOp_repeat_ref (T := "tuple") (U := "int") (by decide) ⟨_, ho, rfl⟩ (fun s' => typeIs_int s' 0 t) noFill_tuple_mul F.fills_int_mul F.slot_int_rmul repeat_tuple F.slot_int_index.lookup
    (call_meets F.slot_int_rmul (typeIs_int s 0 t) F.entry_int_rmul (F.args_int_rmul_2 _ _) (int_rmul_tuple 0 t l its.toArray n dd sl)
      ⟨ho, rfl, ⟨_, ho, rfl⟩, call_meets F.slot_tuple_mul ⟨_, ho, rfl⟩ F.entry_tuple_mul (F.args_tuple_mul_2 _ _) (tuple_mul0 l its.toArray n dd sl t c1) ⟨ho, ?_⟩⟩)
  exact ⟨.ref s.heap.objs.size, _, I.laid (t' := s.toks) (o := .frz (tupO []) (.tup [])) (fun b ob q => Heap.get?_push_of_some _ q) (Nat.le_refl _) ⟨Heap.get?_push_size _ rfl, by decide, [], .nil, ⟨_, Heap.get?_push_size _ rfl, rfl, _, rfl⟩⟩, rfl, q _ _ (I.hok.fresh (Nat.le_refl _)) rfl⟩
theorem tuple_mulE2 (l : Addr) (n : Nat) (dd : Option Addr) (sl : Array (Option Value)) (u : Tok) :
    Meets (Builtin.«tuple.__mul__» ⟨[.ref l, .int 2 u], []⟩) (fun _ R s => s.heap.get? l = some { cls := .type "tuple", dict := dd, data := .seq #[] n, slots := sl } ∧ R (.ok (.ret (Value.ref l))) s) :=
  .of_wp fun prog w A R s h => by
    obtain ⟨hp, g, d, tk, os⟩ := s
    obtain ⟨hl, h⟩ := h
    have f1 := AutoSeq1.idx_int
    wp_walk using wpAny_loadPart' hl
    exact ⟨_, rfl, h⟩
theorem op_empty2 : OpR X (binaryOp .Mult) (fun x y H Q => ∃ l, x = .ref l ∧ y = .int 2 ∧ SqT X.K H l [] ∧ Q (.ref l) H) := by
  intro pins s σ H x y v u Q I rx ry h
  obtain ⟨l, rfl, rfl, hT, q⟩ := h
  cases rx
  obtain ⟨t, rfl⟩ := ry
  obtain ⟨its, r, ⟨⟨cls, dd, data, sl⟩, ho, hc, n, hd⟩, hs⟩ := I.tuple hT
  simp only at hc hd
  subst hc hd
  cases r
  refine wpAny_binaryOp_repeat_ref (T := "tuple") (U := "int") (by decide) ⟨_, ho, rfl⟩ (fun s' => typeIs_int s' 2 t) noFill_tuple_mul F.fills_int_mul F.slot_int_rmul repeat_tuple F.slot_int_index.lookup
    (call_meets F.slot_int_rmul (typeIs_int s 2 t) F.entry_int_rmul (F.args_int_rmul_2 _ _) (int_rmul_tuple 2 t l #[] n dd sl)
      ⟨ho, rfl, ⟨_, ho, rfl⟩, call_meets F.slot_tuple_mul ⟨_, ho, rfl⟩ F.entry_tuple_mul (F.args_tuple_mul_2 _ _) (tuple_mulE2 l n dd sl t) ⟨ho, ?_⟩⟩)
  exact ⟨.ref l, H, I, rfl, q⟩
theorem tuple_mulE3 (l : Addr) (n : Nat) (dd : Option Addr) (sl : Array (Option Value)) (u : Tok) :
    Meets (Builtin.«tuple.__mul__» ⟨[.ref l, .int 3 u], []⟩) (fun _ R s => s.heap.get? l = some { cls := .type "tuple", dict := dd, data := .seq #[] n, slots := sl } ∧ R (.ok (.ret (Value.ref l))) s) :=
  .of_wp fun prog w A R s h => by
    obtain ⟨hp, g, d, tk, os⟩ := s
    obtain ⟨hl, h⟩ := h
    have f1 := AutoSeq1.idx_int
    wp_walk using wpAny_loadPart' hl
    exact ⟨_, rfl, h⟩
theorem op_empty3 : OpR X (binaryOp .Mult) (fun x y H Q => ∃ l, x = .ref l ∧ y = .int 3 ∧ SqT X.K H l [] ∧ Q (.ref l) H) := by
  intro pins s σ H x y v u Q I rx ry h
  obtain ⟨l, rfl, rfl, hT, q⟩ := h
  cases rx
  obtain ⟨t, rfl⟩ := ry
  obtain ⟨its, r, ⟨⟨cls, dd, data, sl⟩, ho, hc, n, hd⟩, hs⟩ := I.tuple hT
  simp only at hc hd
  subst hc hd
  cases r
  refine wpAny_binaryOp_repeat_ref (T := "tuple") (U := "int") (by decide) ⟨_, ho, rfl⟩ (fun s' => typeIs_int s' 3 t) noFill_tuple_mul F.fills_int_mul F.slot_int_rmul repeat_tuple F.slot_int_index.lookup
    (call_meets F.slot_int_rmul (typeIs_int s 3 t) F.entry_int_rmul (F.args_int_rmul_2 _ _) (int_rmul_tuple 3 t l #[] n dd sl)
      ⟨ho, rfl, ⟨_, ho, rfl⟩, call_meets F.slot_tuple_mul ⟨_, ho, rfl⟩ F.entry_tuple_mul (F.args_tuple_mul_2 _ _) (tuple_mulE3 l n dd sl t) ⟨ho, ?_⟩⟩)
  exact ⟨.ref l, H, I, rfl, q⟩
/-- a tuple several times, of any length that is in sight -/
theorem op_repN : OpR X (binaryOp .Mult) (fun x y H Q => ∃ l k xs, x = .ref l ∧ y = .int k ∧ SqT X.K H l xs ∧ xs ≠ [] ∧ 2 ≤ k ∧ xs.length * k.toNat ≤ lim ∧ ∀ p o, H p = none → o.dict = none → Q (.ref p) (upd H p (.frz o (.tup (List.replicate k.toNat xs).flatten)))) := fun pins s σ H x y v u Q I rx ry ⟨l, k, xs, ex, ey, hT, hne, h1, h2, q⟩ => by
  subst ex ey
  cases rx
  obtain ⟨t, rfl⟩ := ry
  obtain ⟨its, r, ⟨⟨cls, dd, data, sl⟩, ho, hc, n, hd⟩, hs⟩ := I.tuple hT
  simp only at hc hd
  subst hc hd
  have hlen := r.length
  obtain ⟨j, rfl⟩ : ∃ j : Nat, k = (j : Int) := ⟨k.toNat, by omega⟩
  rw [Int.toNat_natCast] at h2 q
  have em : its.toArray.isEmpty = false := by
    cases its with
    | nil => exact absurd (List.eq_nil_of_length_eq_zero hlen) hne
    | cons _ _ => rfl
  have hpos : 1 ≤ xs.length := by
    cases xs with
    | nil => exact absurd rfl hne
    | cons _ _ => simp
  have hj : j ≤ 100000 := Nat.le_trans (by simpa using Nat.mul_le_mul_right j hpos) h2
  have zz : ((its.toArray.size : Nat) : Int) * (j : Int) ≤ 100000 := by
    rw [List.size_toArray, ← hlen, ← Int.natCast_mul]
    exact Int.ofNat_le.mpr h2
  have ff : (List.replicate j its).flatten.length ≤ sizeLine := by
    rw [PyProof.Rows.lm_len_rep_flat, ← hlen, Nat.mul_comm]
    exact lim_le h2
  have g0 : (decide ((j : Int) < -(2 ^ 63)) || decide ((j : Int) ≥ 2 ^ 63)) = false := by rw [decide_eq_false (by omega), decide_eq_false (by omega)]; rfl
  have g1 : (its.toArray.isEmpty || (j : Int) == 1) = false := by rw [em, Bool.false_or]; exact beq_eq_false_iff_ne.mpr (by omega)
  have g2 : (decide ((j : Int) ≤ 0) || its.toArray.isEmpty) = false := by rw [em, Bool.or_false]; exact decide_eq_false (by omega)
  have g4 : Builtin.Tuple.tupleTooMany (((its.toArray.size : Nat) : Int) * (j : Int)) = false := by
    unfold Builtin.Tuple.tupleTooMany
    rw [sizeLine_eq]
    exact decide_eq_false (by omega)
  have M := tuple_mulW l its.toArray n dd sl (j : Int) t g0 g1 g2 (by omega) g4 (by rw [Int.toNat_natCast, size_rep, List.size_toArray]; exact ff)
  rw [Int.toNat_natCast, size_rep] at M
  exact wpAny_binaryOp_repeat_ref (T := "tuple") (U := "int") (by decide) ⟨_, ho, rfl⟩ (fun s' => typeIs_int s' _ t) noFill_tuple_mul F.fills_int_mul F.slot_int_rmul repeat_tuple F.slot_int_index.lookup (call_meets F.slot_int_rmul (typeIs_int s _ t) F.entry_int_rmul (F.args_int_rmul_2 _ _) (int_rmul_tuple _ t l its.toArray n dd sl)
    ⟨ho, rfl, ⟨_, ho, rfl⟩, call_meets F.slot_tuple_mul ⟨_, ho, rfl⟩ F.entry_tuple_mul (F.args_tuple_mul_2 _ _) M ⟨ho,
      .ref s.heap.objs.size, _, I.laid (t' := s.toks) (o := .frz (tupO (List.replicate j its).flatten) (.tup (List.replicate j xs).flatten)) (fun b ob e => Heap.get?_push_of_some _ e) (Nat.le_refl _)
        ⟨Heap.get?_push_size _ rfl, by rw [PyProof.Rows.lm_len_rep_flat, Nat.mul_comm]; exact lim_le h2, _, r.rep j, _, Heap.get?_push_size _ rfl, rfl, _, rfl⟩, rfl, q _ _ (I.hok.fresh (Nat.le_refl _)) rfl⟩⟩)
theorem ope_mul : OpR X (binaryOp .Mult) (r2 X.K T oMul) := op_of fun dx dy st m H x y r Q rx ry ok ho q => by
  cases dx with
  | int i =>
    cases dy with
    | int j =>
      simp only [oMul] at ho
      split at ho
      · rename_i hb
        cases ho; cases rx; cases ry
        exact ⟨_, op_mul, i, j, rfl, rfl, b64_ok hb, deno_val q ok rfl⟩
      · cases ho
    | non | bl _ | str _ | tup _ | ref _ => cases ho
  | tup xs =>
    cases dy with
    | int k =>
      simp only [oMul] at ho
      split at ho
      · rename_i hk
        subst hk
        cases ho
        obtain ⟨a, vs, rfl, h1, h2⟩ := rx
        cases ry
        exact ⟨_, op_once, a, vs, rfl, rfl, h1.sq, deno_val q ok ⟨a, vs, rfl, h1, h2⟩⟩
      · split at ho
        · rename_i hb
          cases ho
          obtain ⟨a, vs, rfl, h1, h2⟩ := rx
          cases ry
          simp only [Bool.and_eq_true, decide_eq_true_eq, Bool.not_eq_true'] at hb
          obtain ⟨b1, b2⟩ := hb
          subst b1
          refine ⟨_, op_nought, a, vs, rfl, rfl, fun e => ?_, h1.sq, deno_tup q ok rfl⟩
          subst e
          have e1 := Reps.length h2
          have : xs = [] := List.eq_nil_of_length_eq_zero e1
          subst this
          cases b2
        split at ho
        · rename_i hb
          cases ho
          obtain ⟨a, vs, rfl, h1, h2⟩ := rx
          cases ry
          have e1 := Reps.length h2
          simp only [Bool.and_eq_true, decide_eq_true_eq, Bool.not_eq_true'] at hb
          obtain ⟨⟨b1, b3⟩, b4⟩ := hb
          refine ⟨_, op_repN, a, k, vs, rfl, rfl, h1.sq, fun e => ?_, b1, by rw [← e1]; exact b3, deno_tup q ok (reps_rep h2 _)⟩
          subst e
          have : xs = [] := List.eq_nil_of_length_eq_zero e1
          subst this
          cases b4
        split at ho
        · rename_i hb
          cases ho
          obtain ⟨a, vs, rfl, h1, h2⟩ := rx
          cases ry
          simp only [Bool.and_eq_true, Bool.or_eq_true, decide_eq_true_eq] at hb
          obtain ⟨b1, b2⟩ := hb
          have b1 : xs = [] := by cases xs with | nil => rfl | cons => cases b1
          subst b1
          have hv : vs = [] := List.eq_nil_of_length_eq_zero (Reps.length h2).symm
          subst hv
          rcases b2 with rfl | rfl
          · exact ⟨_, op_empty2, a, rfl, rfl, h1.sq, deno_val q ok ⟨a, [], rfl, h1, h2⟩⟩
          · exact ⟨_, op_empty3, a, rfl, rfl, h1.sq, deno_val q ok ⟨a, [], rfl, h1, h2⟩⟩
        · cases ho
    | non | bl _ | str _ | tup _ | ref _ => cases ho
  | ref i =>
    cases dy with
    | int k =>
      simp only [oMul] at ho
      split at ho
      · rename_i xs hx
        split at ho
        · rename_i hb
          cases ho
          obtain ⟨a, ha, rfl⟩ := rx
          cases ry
          obtain ⟨a', vs, e1, e2, e3⟩ := lst_of ok hx
          rw [ha] at e1; cases e1
          simp only [Bool.and_eq_true, decide_eq_true_eq] at hb
          obtain ⟨⟨b1, b2⟩, b3⟩ := hb
          refine ⟨_, op_rep, a, k, vs, rfl, rfl, e2, by omega, by omega, ?_, deno_lst q ok (reps_rep e3 _)⟩
          rw [← Reps.length e3]
          have z : xs.length * k.toNat ≤ 100 * 10000 := Nat.mul_le_mul b3 (by omega)
          exact Nat.le_trans z (by decide)
        · cases ho
      · cases ho
    | non | bl _ | str _ | tup _ | ref _ => cases ho
  | non | bl _ | str _ => cases dy <;> cases ho
theorem ope_div : OpR X (binaryOp .FloorDiv) (r2 X.K T oDiv) := op_of fun dx dy st m H x y r Q rx ry ok ho q => by
  cases dx with
  | int i =>
    cases dy with
    | int j =>
      simp only [oDiv] at ho
      split at ho
      · rename_i hb
        cases ho; cases rx; cases ry
        simp only [Bool.and_eq_true, decide_eq_true_eq] at hb
        exact ⟨_, op_fdivN, i, j, rfl, rfl, hb, deno_val q ok rfl⟩
      · cases ho
    | non | bl _ | str _ | tup _ | ref _ => cases ho
  | non | bl _ | str _ | tup _ | ref _ => cases ho
theorem ope_mod : OpR X (binaryOp .Mod) (r2 X.K T oMod) := op_of fun dx dy st m H x y r Q rx ry ok ho q => by
  cases dx with
  | int i =>
    cases dy with
    | int j =>
      simp only [oMod] at ho
      split at ho
      · rename_i hb
        cases ho; cases rx; cases ry
        exact ⟨_, op_modN, i, j, rfl, rfl, hb, deno_val q ok rfl⟩
      · cases ho
    | non | bl _ | str _ | tup _ | ref _ => cases ho
  | non | bl _ | str _ | tup _ | ref _ => cases ho
theorem ope_pow : OpR X (binaryOp .Pow) (r2 X.K T oPow) := op_of fun dx dy st m H x y r Q rx ry ok ho q => by
  cases dx with
  | int i =>
    cases dy with
    | int j =>
      simp only [oPow] at ho
      split at ho
      · rename_i hb
        cases ho; cases rx; cases ry
        simp only [Bool.and_eq_true, decide_eq_true_eq] at hb
        obtain ⟨⟨b1, b2⟩, b3⟩ := hb
        exact ⟨_, op_pow, i, j, rfl, rfl, ⟨b1, by omega, Nat.lt_trans b3 (by decide)⟩, deno_val q ok rfl⟩
      · cases ho
    | non | bl _ | str _ | tup _ | ref _ => cases ho
  | non | bl _ | str _ | tup _ | ref _ => cases ho
theorem ope_cmpI {op : CmpOp} {p : Int → Int → Bool} (h : OpR X (compareOp op) (rI0 fun i j => .bl (p i j))) : OpR X (compareOp op) (r2 X.K T (oCmpI p)) := op_of fun dx dy st m H x y r Q rx ry ok ho q => by
  cases dx with
  | int i =>
    cases dy with
    | int j => cases ho; cases rx; cases ry; exact ⟨_, h, i, j, rfl, rfl, deno_val q ok rfl⟩
    | non | bl _ | str _ | tup _ | ref _ => cases ho
  | non | bl _ | str _ | tup _ | ref _ => cases ho
theorem ope_lt : OpR X (compareOp .Lt) (r2 X.K T oLt) := ope_cmpI op_lt
theorem ope_le : OpR X (compareOp .LtE) (r2 X.K T oLe) := ope_cmpI op_le
theorem ope_gt : OpR X (compareOp .Gt) (r2 X.K T oGt) := ope_cmpI op_gt
theorem ope_ge : OpR X (compareOp .GtE) (r2 X.K T oGe) := ope_cmpI op_ge
theorem ope_is : OpR X (compareOp .Is) (r2 X.K T oIs) := op_of fun dx dy st m H x y r Q rx ry ok ho q => by
  cases dy with
  | non =>
    cases ry
    cases dx with
    | non => cases ho; cases rx; exact ⟨_, op_isN, rfl, deno_val q ok rfl⟩
    | bl _ => cases ho; cases rx; exact ⟨_, op_isN, rfl, deno_val q ok rfl⟩
    | int _ => cases ho; cases rx; exact ⟨_, op_isN, rfl, deno_val q ok rfl⟩
    | str _ => cases ho; cases rx; exact ⟨_, op_isN, rfl, deno_val q ok rfl⟩
    | tup _ => cases ho; obtain ⟨a, vs, rfl, _⟩ := rx; exact ⟨_, op_isN, rfl, deno_val q ok rfl⟩
    | ref _ => cases ho; obtain ⟨a, _, rfl⟩ := rx; exact ⟨_, op_isN, rfl, deno_val q ok rfl⟩
  | bl b =>
    cases dx with
    | bl a => cases ho; cases rx; cases ry; exact ⟨_, op_isBl, a, b, rfl, rfl, deno_val q ok rfl⟩
    | non | int _ | str _ | tup _ | ref _ => cases ho
  | int _ | str _ | tup _ | ref _ => cases dx <;> cases ho
theorem ope_isN : OpR X (compareOp .IsNot) (r2 X.K T oIsN) := op_of fun dx dy st m H x y r Q rx ry ok ho q => by
  cases dy with
  | non =>
    cases ry
    cases dx with
    | non => cases ho; cases rx; exact ⟨_, op_notN, rfl, deno_val q ok rfl⟩
    | bl _ => cases ho; cases rx; exact ⟨_, op_notN, rfl, deno_val q ok rfl⟩
    | int _ => cases ho; cases rx; exact ⟨_, op_notN, rfl, deno_val q ok rfl⟩
    | str _ => cases ho; cases rx; exact ⟨_, op_notN, rfl, deno_val q ok rfl⟩
    | tup _ => cases ho; obtain ⟨a, vs, rfl, _⟩ := rx; exact ⟨_, op_notN, rfl, deno_val q ok rfl⟩
    | ref _ => cases ho; obtain ⟨a, _, rfl⟩ := rx; exact ⟨_, op_notN, rfl, deno_val q ok rfl⟩
  | bl b =>
    cases dx with
    | bl a => cases ho; cases rx; cases ry; exact ⟨_, op_notBl, a, b, rfl, rfl, deno_val q ok rfl⟩
    | non | int _ | str _ | tup _ | ref _ => cases ho
  | int _ | str _ | tup _ | ref _ => cases dx <;> cases ho
/-! == -/
section
variable {K : PySem.W.Frag} {H : Hp} {m : List Addr} {st : Sto}
mutual
theorem dp_of : ∀ {d : D} {x : V} {p : PyData}, Rep K H m d x → py d = some p → Dp K H x p
  | .non, x, p, r, h => by cases r; cases h; exact .non
  | .bl b, x, p, r, h => by cases r; cases h; exact .bl b
  | .int i, x, p, r, h => by cases r; cases h; exact .int i
  | .str i, x, p, r, h => by cases r; cases h; exact .str i
  | .tup xs, x, p, r, h => by
    obtain ⟨a, vs, rfl, h1, h2⟩ := r
    simp only [py, Option.map_eq_some_iff] at h
    obtain ⟨ps, h3, rfl⟩ := h
    exact .tup h1.sq (dps_of h2 h3)
  | .ref i, x, p, r, h => by simp [py] at h
theorem dps_of : ∀ {ds : List D} {xs : List V} {ps : List PyData}, Reps K H m ds xs → pys ds = some ps → DpAll K H xs ps
  | [], xs, ps, r, h => by cases r; cases h; exact .nil
  | d :: ds, xs, ps, r, h => by
    obtain ⟨v, vr, rfl, h1, h2⟩ := r
    simp only [pys, Option.bind_eq_some_iff, Option.map_eq_some_iff] at h
    obtain ⟨p, h3, q, h4, rfl⟩ := h
    exact .cons (dp_of h1 h3) (dps_of h2 h4)
end
theorem dpS_of {d : D} {x : V} {p : PyData} (ok : Ok K T H m st) (r : Rep K H m d x) (h : pyS st d = some p) : Dp K H x p := by
  cases d with
  | ref i =>
    obtain ⟨a, hm, rfl⟩ := r
    simp only [pyS] at h
    split at h
    · rename_i xs hx
      obtain ⟨a', vs, h1, h2, h3⟩ := cellItems_ok ok hx
      rw [hm] at h1; cases h1
      simp only [Option.map_eq_some_iff] at h
      obtain ⟨ps, h4, rfl⟩ := h
      exact .lst h2 (dps_of h3 h4)
    · cases h
  | non => exact dp_of r h
  | bl _ => exact dp_of r h
  | int _ => exact dp_of r h
  | str _ => exact dp_of r h
  | tup _ => exact dp_of r h
end
theorem eqF_cases {K : PySem.W.Frag} {H : Hp} {m : List Addr} {st : Sto} {x y : D} {b : Bool} (h : eqF st x y = some b) : (∀ v w, Rep K H m x v → Rep K H m y w → scal v w = true ∧ decide (v = w) = b) ∨ eqD st x y = some b := by
  unfold eqF at h
  split at h
  · rename_i i j
    cases h
    refine .inl fun v w hv hw => ?_
    cases hv; cases hw
    exact ⟨rfl, by simp⟩
  · rename_i i j
    cases h
    refine .inl fun v w hv hw => ?_
    cases hv; cases hw
    exact ⟨rfl, by simp⟩
  · rename_i i j
    cases h
    refine .inl fun v w hv hw => ?_
    cases hv; cases hw
    exact ⟨rfl, by simp⟩
  · cases h
    refine .inl fun v w hv hw => ?_
    cases hv; cases hw
    exact ⟨rfl, by simp⟩
  · exact .inr h
theorem eqD_ok {st : Sto} {x y : D} {b : Bool} (h : eqD st x y = some b) : ∃ d e, pyS st x = some d ∧ pyS st y = some e ∧ SeqAt.shaped d = true ∧ SeqAt.shaped e = true ∧ PyData.eqv d e = b := by
  unfold eqD at h
  split at h
  · rename_i d e h1 h2
    split at h
    · rename_i hs
      cases h
      simp only [Bool.and_eq_true] at hs
      exact ⟨d, e, h1, h2, hs.1, hs.2, rfl⟩
    · cases h
  · cases h
theorem ope_eq (hu : X.A.units + 64 < cLine) : OpR X (compareOp .Eq) (r2 X.K T oEq) := op_of fun dx dy st m H x y r Q rx ry ok ho q => by
  simp only [oEq, Option.map_eq_some_iff] at ho
  obtain ⟨b, hb, rfl⟩ := ho
  rcases eqF_cases (K := X.K) (H := H) (m := m) hb with hs | hb
  · obtain ⟨h1, h2⟩ := hs x y rx ry
    exact ⟨_, op_eq, h1, by rw [h2]; exact deno_val q ok rfl⟩
  obtain ⟨d, e, h1, h2, h3, h4, h5⟩ := eqD_ok hb
  refine ⟨_, op_eqD hu, d, e, dpS_of ok rx h1, dpS_of ok ry h2, h3, h4, ?_⟩
  rw [h5]
  exact deno_val q ok rfl
theorem ope_ne (hu : X.A.units + 64 < cLine) : OpR X (compareOp .NotEq) (r2 X.K T oNe) := op_of fun dx dy st m H x y r Q rx ry ok ho q => by
  simp only [oNe, Option.map_eq_some_iff] at ho
  obtain ⟨b, hb, rfl⟩ := ho
  rcases eqF_cases (K := X.K) (H := H) (m := m) hb with hs | hb
  · obtain ⟨h1, h2⟩ := hs x y rx ry
    exact ⟨_, op_ne, h1, by rw [h2]; exact deno_val q ok rfl⟩
  obtain ⟨d, e, h1, h2, h3, h4, h5⟩ := eqD_ok hb
  refine ⟨_, op_neD hu, d, e, dpS_of ok rx h1, dpS_of ok ry h2, h3, h4, ?_⟩
  rw [h5]
  exact deno_val q ok rfl
end

/-! ### subscripts, slices, stores -/
def oIx : O2 := fun x y st => match y with
  | .int i => match seqOf st x with
    | some xs => (atI xs i).map fun d => (d, st)
    | none => none
  | _ => none
def cutD (xs : List D) (lo hi : Option Int) : List D := (xs.drop (HT.sIx xs.length 0 lo)).take (HT.sIx xs.length xs.length hi - HT.sIx xs.length 0 lo)
def eSl (a : EX) (lo hi : Option EX) : EX := fun e st => (a e st).bind fun x st1 =>
  (match lo with | none => R.ok none st1 | some f => (f e st1).bind fun d st2 => match d with | .int i => .ok (some i) st2 | _ => .no).bind fun l st2 =>
  (match hi with | none => R.ok none st2 | some f => (f e st2).bind fun d st3 => match d with | .int i => .ok (some i) st3 | _ => .no).bind fun h st3 => match x with
    | .tup xs => .ok (.tup (cutD xs l h)) st3
    | .ref i => match cellItems st3[i]? with
      | some xs => .ok (.ref st3.length) (st3 ++ [Cell.lst (cutD xs l h)])
      | none => .no
    | _ => .no
def sStore (a i f : EX) : SX := fun e st => (f e st).st e fun v st1 => (a e st1).st e fun x st2 => (i e st2).st e fun k st3 => match x, k with
  | .ref j, .int n => match lstOf st3 (.ref j) with
    | some xs => match ixN xs.length n with
      | some p => .nx e (List.set st3 j (Cell.lst (xs.set p v)))
      | none => .no
    | none => .no
  | _, _ => .no
section
variable {X : Cx} {T : List (Addr × Str)} {W : WX} {a b c : Expr} {fa fb fc : EX} {pos p2 : Pos}
theorem reps_at {K : PySem.W.Frag} {H : Hp} {m : List Addr} {xs : List D} {vs : List V} {i : Int} {d : D} (h : Reps K H m xs vs) (e : atI xs i = some d) : ∃ v, atI vs i = some v ∧ Rep K H m d v := by
  unfold atI at e ⊢
  rw [← h.length]
  cases hx : ixN xs.length i with
  | none => rw [hx] at e; cases e
  | some j => rw [hx] at e; exact h.get e
theorem seq_okN {K : PySem.W.Frag} {H : Hp} {m : List Addr} {st : Sto} {d : D} {x : V} {xs : List D} (ok : Ok K T H m st) (r : Rep K H m d x) (h : seqOf st d = some xs) : ∃ a vs, x = .ref a ∧ (SqL K H a vs ∨ SqN K H a vs) ∧ Reps K H m xs vs := by
  cases d with
  | tup ys =>
    cases h
    obtain ⟨a, vs, rfl, h1, h2⟩ := r
    exact ⟨a, vs, rfl, .inr h1, h2⟩
  | ref i =>
    obtain ⟨a, hm, rfl⟩ := r
    obtain ⟨a', vs, h1, h2, h3⟩ := cellItems_ok ok h
    rw [hm] at h1; cases h1
    exact ⟨a, vs, rfl, .inl h2, h3⟩
  | non | bl _ | int _ | str _ => cases h
theorem seq_ok {K : PySem.W.Frag} {H : Hp} {m : List Addr} {st : Sto} {d : D} {x : V} {xs : List D} (ok : Ok K T H m st) (r : Rep K H m d x) (h : seqOf st d = some xs) : ∃ a vs, x = .ref a ∧ (SqL K H a vs ∨ SqT K H a vs) ∧ Reps K H m xs vs := by
  obtain ⟨a, vs, e, h1, h2⟩ := seq_okN ok r h
  exact ⟨a, vs, e, h1.imp id (·.sq), h2⟩
theorem ixe : IxR X (r2 X.K T oIx) := by
  intro value slice pins s σ H x y v u Q I rx ry hh hs
  obtain ⟨dx, dy, st, m, q1, q2, ok, q3⟩ := hh
  cases dy with
  | int i =>
    cases q2
    unfold oIx at q3
    cases hq : seqOf st dx with
    | none => simp only [hq] at q3; exact False.elim q3
    | some xs =>
      simp only [hq] at q3
      cases hd : atI xs i with
      | none => rw [hd] at q3; exact False.elim q3
      | some d =>
        rw [hd] at q3
        obtain ⟨a, vs, rfl, h1, h2⟩ := seq_ok ok q1 hq
        obtain ⟨w, h3, h4⟩ := reps_at h2 hd
        rcases h1 with h1 | h1
        · exact ix_list value slice pins s σ H _ _ v u Q I rx ry ⟨a, vs, i, w, rfl, rfl, h1, h3, deno_val q3 ok h4⟩ hs
        · exact ix_tup value slice pins s σ H _ _ v u Q I rx ry ⟨a, vs, i, w, rfl, rfl, h1, h3, deno_val q3 ok h4⟩ hs
  | non | bl _ | str _ | tup _ | ref _ => exact False.elim q3
theorem reps_cut {K : PySem.W.Frag} {H : Hp} {m : List Addr} {xs : List D} {vs : List V} {lo hi : Option Int} (h : Reps K H m xs vs) : Reps K H m (cutD xs lo hi) (cutV vs lo hi) := by
  unfold cutD cutV
  rw [← h.length]
  exact (h.drop _).take _
def tO (K : PySem.W.Frag) (T : List (Addr × Str)) (mg : Str → Option Value) (W : WX) (f : Env → Sto → R (Option Int)) : TO := fun s H Q => ∃ e st m, EnvOk K H m s e ∧ Ok K T H m st ∧ Den K T mg W (fun _ _ (x y : Option Int) => x = y) s H m (f e st) Q
def eO : Option EX → Env → Sto → R (Option Int)
  | none => fun _ st => .ok none st
  | some f => fun e st => (f e st).bind fun d st2 => match d with | .int i => .ok (some i) st2 | _ => .no
structure JO (X : Cx) (T : List (Addr × Str)) (W : WX) (lo : Option Expr) (f : Option EX) (tl : TO) : Prop where
  po : PO X lo tl
  weak : ∀ s H Q, tO X.K T X.mg W (eO f) s H Q → tl s H Q
theorem jo_none : JO X T W none none tNoPart := ⟨po_none, fun s H Q ⟨e, st, m, he, ok, h⟩ => h none H m (.refl H) (.refl m) ok rfl⟩
theorem jo_some (ha : J X T W a fa) : JO X T W (some a) (some fa) (tPart (tE X.K T X.mg W fa)) := ⟨po_some ha, fun s H Q ⟨e, st, m, he, ok, h⟩ =>
  ⟨e, st, m, he, ok, h.bind fun d x st1 H1 m1 _ l p ok1 rx h1 => by
    cases d with
    | int i => cases rx; exact ⟨i, rfl, h1 (some i) H1 m1 (.refl H1) (.refl m1) ok1 rfl⟩
    | non | bl _ | str _ | tup _ | ref _ => exact False.elim h1⟩⟩
/-- t[lo:hi], what is new without a dict of its own -/
def rSlN (K : PySem.W.Frag) : V → Option Int → Option Int → Hp → VK → Prop := fun x lo hi H Q => ∃ a xs, x = .ref a ∧ SqT K H a xs ∧
  (HT.sIx xs.length 0 lo = 0 ∧ HT.sIx xs.length xs.length hi = xs.length → Q (.ref a) H) ∧ (∀ p o, H p = none → o.dict = none → Q (.ref p) (upd H p (.frz o (.tup (cutV xs lo hi)))))
theorem sl_tupN : SlR X (rSlN X.K) := fun pins s σ H x v vl vu lo hi sl Q I rx hs pl pu ⟨a, xs, ex, hx, q1, q2⟩ => by
  subst ex
  by_cases hw : HT.sIx xs.length 0 lo = 0 ∧ HT.sIx xs.length xs.length hi = xs.length
  · exact sl_tupA pins s σ H _ v vl vu lo hi sl Q I rx hs pl pu ⟨a, xs, rfl, hx, q1, fun z => absurd hw z⟩
  · cases rx
    obtain ⟨its, r, ht, hz⟩ := I.tuple hx
    have hsz : its.toArray.size = xs.length := by rw [List.size_toArray]; exact r.length.symm
    refine ⟨"tuple", _, PyProof.Rows.slot_tuple_getitem.lookup, ht.typeIs, HT.getItem_tuple_cut ht hs pl pu (by rw [hsz]; exact hw) ?_ (by rw [hsz]; exact hz)⟩
    rw [hsz]
    have rr := (r.drop (HT.sIx xs.length 0 lo)).take (HT.sIx xs.length xs.length hi - HT.sIx xs.length 0 lo)
    refine ⟨.ref s.heap.objs.size, _, I.laid (t' := s.toks) (o := .frz (tupO _) (.tup (cutV xs lo hi))) (fun b ob e => Heap.get?_push_of_some _ e) (Nat.le_refl _) ⟨Heap.get?_push_size _ rfl, Nat.le_trans (cutV_length xs lo hi) hz, _, rr, _, Heap.get?_push_size _ rfl, rfl, _, rfl⟩, rfl, q2 _ _ (I.hok.fresh (Nat.le_refl _)) rfl⟩
def rSl2 (K : PySem.W.Frag) : V → Option Int → Option Int → Hp → VK → Prop := fun x lo hi H Q => rSlL K x lo hi H Q ∨ rSlN K x lo hi H Q
theorem sl_two : SlR X (rSl2 X.K) := by
  intro pins s σ H x v vl vu lo hi sl Q I rx hs pl pu h
  rcases h with h | h
  · exact sl_list pins s σ H x v vl vu lo hi sl Q I rx hs pl pu h
  · exact sl_tupN pins s σ H x v vl vu lo hi sl Q I rx hs pl pu h
theorem j_sl {lo hi : Option Expr} {fl fh : Option EX} {tl th : TO} (ha : J X T W a fa) (hl : JO X T W lo fl tl) (hh : JO X T W hi fh th) : J X T W (.Subscript a (.Slice lo hi none p2) pos) (eSl fa fl fh) :=
  pe_weak (pe_slice sl_two ha hl.po hh.po) fun s H Q ⟨e, st, m, he, ok, h⟩ => ⟨e, st, m, he, ok, h.bind fun d x st1 H1 m1 _ l p ok1 rx h1 => by
    refine hl.weak _ _ _ ⟨e, st1, m1, he.mono l p, ok1, ?_⟩
    refine Den.bind (RC := RD X.K) (Q := Q) (k := fun l st2 => (eO fh e st2).bind fun h st3 => match d with
      | .tup xs => .ok (.tup (cutD xs l h)) st3
      | .ref i => match cellItems st3[i]? with
        | some xs => .ok (.ref st3.length) (st3 ++ [Cell.lst (cutD xs l h)])
        | none => .no
      | _ => .no) ?_ fun lo' lo2 st2 H2 m2 _ l2 p2 ok2 r2 h2 => ?_
    · cases fl <;> cases fh <;> exact h1
    · cases r2
      refine hh.weak _ _ _ ⟨e, st2, m2, (he.mono l p).mono l2 p2, ok2, h2.bind fun hi' hi2 st3 H3 m3 _ l3 p3 ok3 r3 h3 => ?_⟩
      cases r3
      have rx := (rx.mono l2 p2).mono l3 p3
      cases d with
      | tup xs =>
        obtain ⟨a, vs, rfl, q1, q2⟩ := rx
        refine .inr ⟨a, vs, rfl, q1.sq, fun hw => ?_, fun p o hp ho => ?_⟩
        · refine h3 _ H3 m3 (.refl H3) (.refl m3) ok3 ⟨a, vs, rfl, q1, ?_⟩
          have z : cutV vs lo' hi' = vs := by
            unfold cutV
            rw [hw.1, hw.2, List.drop_zero, Nat.sub_zero, List.take_length]
          rw [← z]
          exact reps_cut q2
        · exact h3 _ _ m3 (Le.new hp) (.refl m3) (ok3.new hp) ⟨p, _, rfl, .new ho, (reps_cut q2).mono (Le.new hp) (.refl m3)⟩
      | ref i =>
        obtain ⟨a, hm, rfl⟩ := rx
        cases hc : cellItems st3[i]? with
        | none => simp only [hc] at h3; exact False.elim h3
        | some xs =>
          simp only [hc] at h3
          obtain ⟨a', vs, q1, q2, q3⟩ := cellItems_ok ok3 hc
          rw [hm] at q1; cases q1
          exact .inl ⟨a, vs, rfl, q2, fun p hp => h3 _ _ (m3 ++ [p]) (Le.new hp) (.add m3 p) (ok3.newCell hp (reps_cut q3)) ⟨p, by rw [← ok3.len]; simp, rfl⟩⟩
      | non | bl _ | str _ | int _ => exact False.elim h3⟩
theorem js_store {i : Expr} {fi : EX} (ha : J X T W a fa) (hi : J X T W i fi) (hb : J X T W b fb) (hs : swapsWithSole [.Subscript a i p2] b pos.line X.env = pure false := by rfl) (hw : swappedStores [.Subscript a i p2] b X.env = pure none := by rfl)
    (h1 : (assignEach [.Subscript a i p2] X.env).map (·.2) = [assign (.Subscript a i p2) X.env] := by rfl)
    (h2 : ∀ v, assign (.Subscript a i p2) X.env v = (do
      let ov ← holding [v] (eval a X.env)
      let iv ← holding [v, ov] (eval i X.env)
      standAt p2
      holding [v, ov, iv] (setItem ov iv v)
      release [v, ov, iv] []) := by intro _; rfl) : JS X T W (.Assign [.Subscript a i p2] b pos) (sStore fa fi fb) :=
  ps_weak (ps_asg hb (pg_sub ha hi set_list h2) hs hw h1) fun F s H ⟨e, st, m, he, ok, h⟩ =>
    ⟨e, st, m, he, ok, st_of he h fun v vv st1 H1 m1 _ l p ok1 rv h1 =>
      ⟨e, st1, m1, he.mono l p, ok1, st_of (he.mono l p) h1 fun x xv st2 H2 m2 _ l2 p2 ok2 rx h2 =>
        ⟨e, st2, m2, (he.mono l p).mono l2 p2, ok2, st_of ((he.mono l p).mono l2 p2) h2 fun k kv st3 H3 m3 _ l3 p3 ok3 rk h3 => by
          cases x with
          | ref j =>
            cases k with
            | int n =>
              obtain ⟨q, hm, rfl⟩ := rx.mono l3 p3
              cases rk
              cases hx : lstOf st3 (.ref j) with
              | none => simp only [hx] at h3; exact False.elim h3
              | some xs =>
                simp only [hx] at h3
                cases hp : ixN xs.length n with
                | none => simp only [hp] at h3; exact False.elim h3
                | some k =>
                  simp only [hp] at h3
                  obtain ⟨a', vs, q1, q2, q3⟩ := lst_of ok3 hx
                  rw [hm] at q1; cases q1
                  have hst : st3[j]? = some (.lst xs) := by
                    unfold lstOf at hx
                    simp only at hx
                    split at hx
                    · rename_i z hz; cases hx; exact hz
                    · cases hx
                  have le := Le.set (o := .lst (vs.set k vv)) q2
                  refine ⟨q, vs, n, k, rfl, rfl, q2, by rw [← Reps.length q3]; exact hp, ?_⟩
                  exact h3 s _ m3 le (.refl m3) (ok3.setCell hst hm q2 (q3.set ((rv.mono l2 p2).mono l3 p3))) ((((he.mono l p).mono l2 p2).mono l3 p3).mono le (.refl m3))
            | non | bl _ | str _ | tup _ | ref _ => exact False.elim h3
          | non | bl _ | str _ | tup _ | int _ => exact False.elim h3⟩⟩⟩
end
end Mm

namespace Mm
open PySem L2
/-! ### what a def hands back -/
mutual
def lowD (n : Nat) : D → Bool
  | .ref i => decide (i < n)
  | .tup xs => lowDs n xs
  | _ => true
def lowDs (n : Nat) : List D → Bool
  | [] => true
  | x :: xs => lowD n x && lowDs n xs
end
def lowC (n : Nat) : Cell → Bool
  | .lst xs => lowDs n xs
  | .ro xs => lowDs n xs
def lowS (n : Nat) (st : Sto) : Bool := st.all (lowC n)
/-- the cells from n on are dropped where nothing leads to them -/
def fin (st : Sto) (d : D) (st' : Sto) : R D :=
  if st'.take st.length = st ∨ lowS st.length (st'.take st.length) = true then
    if lowD st.length d = true then .ok d (st'.take st.length)
    else match d with
      | .ref j => match st'[j]? with
        | some (.lst xs) => if lowDs st.length xs = true then .ok (.ref st.length) (st'.take st.length ++ [.lst xs]) else .ok d st'
        | _ => .ok d st'
      | _ => .ok d st'
  else .ok d st'
def fnS (ns : Nat) (body : SX) : List D → Sto → R D := fun ds st => match body (ds.map some ++ List.replicate (ns - ds.length) none) st with
  | .nx _ st' => fin st .non st'
  | .ret d st' => fin st d st'
  | .exc x _ st' => .ex x st'
  | _ => .no
section
variable {K : PySem.W.Frag} {T : List (Addr × Str)} {H : Hp} {m : List Addr} {st : Sto}
mutual
theorem rep_low {n : Nat} : ∀ {d : D} {v : V}, Rep K H m d v → lowD n d = true → Rep K H (m.take n) d v
  | .non, _, h, _ => h
  | .bl _, _, h, _ => h
  | .int _, _, h, _ => h
  | .str _, _, h, _ => h
  | .tup xs, _, h, l => by
    obtain ⟨a, vs, h1, h2, h3⟩ := h
    exact ⟨a, vs, h1, h2, reps_low h3 l⟩
  | .ref i, _, h, l => by
    obtain ⟨a, h1, h2⟩ := h
    have l : i < n := of_decide_eq_true l
    exact ⟨a, by rw [List.getElem?_take_of_lt l]; exact h1, h2⟩
theorem reps_low {n : Nat} : ∀ {ds : List D} {vs : List V}, Reps K H m ds vs → lowDs n ds = true → Reps K H (m.take n) ds vs
  | [], _, h, _ => h
  | d :: ds, _, h, l => by
    obtain ⟨v, r, h1, h2, h3⟩ := h
    simp only [lowDs, Bool.and_eq_true] at l
    exact ⟨v, r, h1, rep_low h2 l.1, reps_low h3 l.2⟩
end
mutual
theorem low_of : ∀ {d : D} {v : V}, Rep K H m d v → lowD m.length d = true
  | .non, _, h => rfl
  | .bl _, _, h => rfl
  | .int _, _, h => rfl
  | .str _, _, h => rfl
  | .tup xs, _, h => by
    obtain ⟨a, vs, h1, h2, h3⟩ := h
    exact lows_of h3
  | .ref i, _, h => by
    obtain ⟨a, h1, h2⟩ := h
    exact decide_eq_true (List.getElem?_eq_some_iff.mp h1).1
theorem lows_of : ∀ {ds : List D} {vs : List V}, Reps K H m ds vs → lowDs m.length ds = true
  | [], _, h => rfl
  | d :: ds, _, h => by
    obtain ⟨v, r, h1, h2, h3⟩ := h
    simp only [lowDs, low_of h2, lows_of h3, Bool.and_self]
end
theorem lowS_of (ok : Ok K T H m st) : lowS st.length st = true := by
  unfold lowS
  rw [List.all_eq_true]
  intro c hc
  obtain ⟨i, hi⟩ := List.mem_iff_getElem?.mp hc
  obtain ⟨a, h1, h2⟩ := ok.cell i c hi
  obtain ⟨ds, vs, h3, _, h4⟩ := h2.list
  have z := lows_of h4
  rw [ok.len] at z
  rcases h3 with rfl | rfl <;> exact z
theorem cell_low {n : Nat} {a : Addr} {c : Cell} (h : CellOk K H m a c) (l : lowC n c = true) : CellOk K H (m.take n) a c := by
  cases c with
  | lst xs =>
    obtain ⟨vs, h1, h2⟩ := h
    exact ⟨vs, h1, reps_low h2 l⟩
  | ro xs =>
    obtain ⟨vs, h1, h2⟩ := h
    exact ⟨vs, h1, reps_low h2 l⟩
theorem Ok.take {n : Nat} (ok : Ok K T H m st) (l : lowS n (st.take n) = true) : Ok K T H (m.take n) (st.take n) := by
  refine ⟨by rw [List.length_take, List.length_take, ok.len], fun i j a xs ys h1 h2 h3 h4 => ?_, fun i c hc => ?_, ok.tabs⟩
  · have g : ∀ {i : Nat} {a : Addr}, (m.take n)[i]? = some a → m[i]? = some a := fun {i a} h => by
      have hi : i < n := by
        have := (List.getElem?_eq_some_iff.mp h).1
        rw [List.length_take] at this
        omega
      rw [List.getElem?_take_of_lt hi] at h; exact h
    have g2 : ∀ {i : Nat} {a : Cell}, (st.take n)[i]? = some a → st[i]? = some a := fun {i a} h => by
      have hi : i < n := by
        have := (List.getElem?_eq_some_iff.mp h).1
        rw [List.length_take] at this
        omega
      rw [List.getElem?_take_of_lt hi] at h; exact h
    exact ok.nd i j a xs ys (g h1) (g h2) (g2 h3) (g2 h4)
  · have hi : i < n := by
      have := (List.getElem?_eq_some_iff.mp hc).1
      rw [List.length_take] at this
      omega
    have lc : lowC n c = true := List.all_eq_true.mp l c (List.mem_of_getElem? hc)
    rw [List.getElem?_take_of_lt hi] at hc
    obtain ⟨a, h1, h2⟩ := ok.cell i c hc
    exact ⟨a, by rw [List.getElem?_take_of_lt hi]; exact h1, cell_low h2 lc⟩
/-- what is told of fin -/
theorem fin_ok {mg : Str → Option Value} {W : WX} {s : L2.St} {H' : Hp} {m' : List Addr} {st' : Sto} {d : D} {v : V} {Q : VK} (hm : m.length = st.length) (ok0 : lowS st.length st = true) (h : Den K T mg W (RD K) s H m (fin st d st') Q) (le : Le H H') (pr : Pre m m') (ok : Ok K T H' m' st') (r : Rep K H' m' d v) : Q v H' := by
  unfold fin at h
  have et : m'.take st.length = m := pr.take hm.symm
  split at h
  · rename_i hl
    have hlow : lowS st.length (st'.take st.length) = true := by
      rcases hl with e | e
      · rw [e]; exact ok0
      · exact e
    have okt := ok.take hlow
    rw [et] at okt
    split at h
    · rename_i hd
      have rt := rep_low r hd
      rw [et] at rt
      exact h v H' m le (.refl m) okt rt
    · split at h
      · rename_i j hj
        split at h
        · rename_i xs hx
          split at h
          · rename_i hxs
            obtain ⟨a, h1, rfl⟩ := r
            obtain ⟨a', vs, h2, h3, h4⟩ := ok.lst hx
            rw [h1] at h2; cases h2
            have h4 := reps_low h4 hxs
            rw [et] at h4
            refine h _ H' (m ++ [a]) le (.add m a) ?_ ⟨a, by rw [← hm]; simp, rfl⟩
            -- the cell itself, behind the old ones
            have lenT : (st'.take st.length).length = st.length := by rw [← okt.len, hm]
            refine ⟨by simp [okt.len], fun i k b ys zs q1 q2 q3 q4 => ?_, fun i c hc => ?_, ok.tabs⟩
            · have key : ∀ (i : Nat) (b : Addr) (ys : List D), (m ++ [a])[i]? = some b → (st'.take st.length ++ [Cell.lst xs])[i]? = some (.lst ys) → ∃ i' ys', m'[i']? = some b ∧ st'[i']? = some (.lst ys') ∧ ((i' < st.length ∧ i = i') ∨ (i' = j ∧ i = st.length)) := by
                intro i b ys q1 q3
                by_cases hi : i < st.length
                · rw [List.getElem?_append_left (by rw [hm]; exact hi)] at q1
                  rw [List.getElem?_append_left (by rw [lenT]; exact hi), List.getElem?_take_of_lt hi] at q3
                  exact ⟨i, ys, pr.get q1, q3, .inl ⟨hi, rfl⟩⟩
                · have hi2 : i = st.length := by
                    have := (List.getElem?_eq_some_iff.mp q1).1
                    simp [hm] at this; omega
                  subst hi2
                  rw [← hm] at q1
                  simp at q1
                  subst q1
                  exact ⟨j, xs, h1, hx, .inr ⟨rfl, rfl⟩⟩
              obtain ⟨i', ys', a1, a2, a3⟩ := key i b ys q1 q3
              obtain ⟨k', zs', b1, b2, b3⟩ := key k b zs q2 q4
              have e := ok.nd i' k' b ys' zs' a1 b1 a2 b2
              have hjn : ¬ j < st.length := fun z => by
                have : lowD st.length (.ref j) = true := decide_eq_true z
                rename_i hnd
                exact absurd this (by first | exact hnd | assumption)
              rcases a3 with ⟨a3, a4⟩ | ⟨a3, a4⟩ <;> rcases b3 with ⟨b3, b4⟩ | ⟨b3, b4⟩ <;> omega
            · by_cases hi : i < st.length
              · rw [List.getElem?_append_left (by rw [lenT]; exact hi)] at hc
                obtain ⟨b, g1, g2⟩ := okt.cell i c hc
                exact ⟨b, by rw [List.getElem?_append_left (by rw [hm]; exact hi)]; exact g1, g2.mono (.refl _) (.add m a) fun _ _ => rfl⟩
              · have hi2 : i = st.length := by
                  have := (List.getElem?_eq_some_iff.mp hc).1
                  simp [lenT] at this; omega
                subst hi2
                have hc : (List.take st.length st' ++ [Cell.lst xs])[(List.take st.length st').length]? = some c := by rw [lenT]; exact hc
                simp at hc
                subst hc
                exact ⟨a, by rw [← hm]; simp, vs, h3, h4.mono (.refl _) (.add m a)⟩
          · exact h v H' m' le pr ok r
        · exact h v H' m' le pr ok r
      · exact h v H' m' le pr ok r
  · exact h v H' m' le pr ok r
end
/-! ### defs and their calls: the frames around hold no guard -/
structure FnG (P : Program) (w : World) (K : PySem.W.Frag) (mg : Str → Option Value) (base : Heap) (CX : CXT) (k : Nat) (f : Addr) (fd : FuncData) (ps : List Str) (sp : Sp) : Prop where
  len : ∀ vs H Q E, sp vs H Q E → vs.length = ps.length
  run : ∀ (A : Around) (outer : List PySem.Env) (s : Shared) (H : Hp) (args : Args) (us : List Value) (vs : List V) (Q : VK) (E : XK), A.guards = some [] → Room k A → Env0 P w K mg base A outer s H → BindsTo s fd args (ps.zip us) → Vals vs us → sp vs H Q E →
    codeAny (model P w) A (.call (.ref f) args) (CR CX outer P w H s Q E) s
def DenF (K : PySem.W.Frag) (T : List (Addr × Str)) (mg : Str → Option Value) (H : Hp) (m : List Addr) (r : R D) (Q : VK) (E : XK) : Prop := Den K T mg (fun cls dd _ H' => E cls dd H') (RD K) [] H m r Q
def SpG (K : PySem.W.Frag) (T : List (Addr × Str)) (mg : Str → Option Value) (n : Nat) (g : List D → Sto → R D) : Sp := fun vs H Q E => vs.length = n ∧ ∃ ds st m, Reps K H m ds vs ∧ Ok K T H m st ∧ DenF K T mg H m (g ds st) Q E
section
variable {P : Program} {w : World} {K : PySem.W.Frag} {mg : Str → Option Value} {base : Heap} {T : List (Addr × Str)}
/-- the context of a def's body -/
abbrev CxB (P : Program) (w : World) (K : PySem.W.Frag) (mg : Str → Option Value) (base : Heap) (N : List Str) (qual : Str) (st : Stmt) (f : Addr) (cdv : Value) (A : Around) (outer : List PySem.Env) (s : Shared) (H : Hp) (E : XK) : Cx :=
  cxOf (L2.CX P w) P w K mg base N qual (defScope st) f cdv A outer s H E
theorem env_start {H : Hp} {m : List Addr} {ds : List D} {vs : List V} {N : List Str} (h : Reps K H m ds vs) : EnvOk K H m (L2.start N vs) (ds.map some ++ List.replicate (N.length - ds.length) none) := by
  have e := Reps.length h
  refine ⟨by simp [L2.start, e], fun i d hd => ?_⟩
  by_cases hi : i < ds.length
  · rw [List.getElem?_append_left (by simpa using hi), List.getElem?_map] at hd
    cases hx : ds[i]? with
    | none => rw [hx] at hd; cases hd
    | some x =>
      rw [hx] at hd
      cases hd
      obtain ⟨v, h1, h2⟩ := h.get hx
      refine ⟨v, ?_, h2⟩
      unfold L2.start
      rw [List.getElem?_append_left (by simp [← e]; exact hi), List.getElem?_map, h1]
      rfl
  · rw [List.getElem?_append_right (by simpa using hi), List.getElem?_replicate] at hd
    split at hd <;> cases hd
theorem fnG_ok {x qual : Str} {st : Stmt} {f : Addr} {fd : FuncData} {N ps : List Str} {k : Nat} {body : SX} (F : Fun K x qual st f fd) (S : FnScope N ps (defScope st))
    (hb : ∀ (cdv : Value), fd.code = cdv → ∀ (A : Around) (outer : List PySem.Env) (s : Shared) (H : Hp) (E : XK), A.guards = some [] → Room k (CxB P w K mg base N qual st f cdv A outer s H E).A → Takes (CxB P w K mg base N qual st f cdv A outer s H E) (fun cls dd _ H' => E cls dd H') →
      JB (CxB P w K mg base N qual st f cdv A outer s H E) T (fun cls dd _ H' => E cls dd H') (defBody st) body) :
    FnG P w K mg base (L2.CX P w) (k + 1) f fd ps (SpG K T mg ps.length (fnS N.length body)) := by
  refine ⟨fun vs H Q E h => h.1, ?_⟩
  obtain ⟨oc, od, kV, doc, pm, an, cdv, ct, osl, rfl, lk, hcd⟩ := F.ex
  intro A outer s H args us vs Q E hgd hr e0 hbd rv ⟨hl, ds, sto, m, hreps, ok, hden⟩
  have KX : K.In s.heap := e0.mod.kin.keeps fun b o e => (e0.bs b o e).1
  have lim0 : s.heap.NoLimit := e0.mod.nolimit.keeps fun b o e => (e0.bs b o e).1
  have hkind : ∀ y ∈ ps.zip us, (defScope st).names.lookup y.1 = some .local ∨ ((defScope st).names.lookup y.1 = some .cell ∧ ((cellsFrom (s.heap.objs.size + 1) (defScope st).names []).lookup y.1).isSome = true) := fun ⟨n, v⟩ hy => by
    rcases S.par n (List.of_mem_zip hy).1 with q | q
    · exact .inl q
    · exact .inr ⟨q, PySem.W.cellsFrom_some _ _ _ (.inl q)⟩
  refine codeAny_call_function hr.depth (KX _ _ lk) rfl S.co S.gen rfl (PySem.W.codeRec_of KX hcd) (hbd _ _ _ _ ?_)
  refine wpAny_newFunctionEnv_cells S.kind hkind fun env he s1 x => ?_
  subst he
  refine ⟨lim0.keeps x.toInCall.keep, codeAny_func ?_⟩
  have hj := hb cdv rfl A outer s H E hgd (hr.deeper _) (takes_of rfl rfl rfl rfl)
  have I : Inv (CxB P w K mg base N qual st f cdv A outer s H E) [] (L2.start N vs) H s1 := inv_start S hr.hd e0 hl rv x
  have hq : tS K T mg (fun cls dd _ H' => E cls dd H') body { nx := fun _ H' => Q .non H', rt := Q } (L2.start N vs) H := by
    refine ⟨_, sto, m, env_start hreps, ok, ?_⟩
    have hd : Den K T mg (fun cls dd _ H' => E cls dd H') (RD K) [] H m (fnS N.length body ds sto) Q := hden
    have l0 := lowS_of ok
    have hml := ok.len
    unfold fnS at hd
    revert hd
    generalize body (ds.map some ++ List.replicate (N.length - ds.length) none) sto = r
    intro hd
    cases r with
    | no => exact hd
    | brk _ _ => exact False.elim hd
    | ct _ _ => exact False.elim hd
    | nx e' st' => exact fun s' H' m' le pr ok' _ => fin_ok hml l0 hd le pr ok' rfl
    | ret d st' => exact fun v H' m' le pr ok' rv' => fin_ok hml l0 hd le pr ok' rv'
    | exc x e' st' => exact fun cls dd s' H' m' le pr ok' _ xr => hd cls dd H' m' le pr ok' xr
  refine wpAny_mono (hj.run [] s1 (L2.start N vs) H _ I hq) (fun fl s' hs => ?_) fun e s' hs => hs
  have done : ∀ {σ' : L2.St} {H' : Hp} {v : V} {u : Value}, Inv (CxB P w K mg base N qual st f cdv A outer s H E) [] σ' H' s' → RelV v u → Q v H' → CE outer P w H s Q u s' :=
    fun {σ' H' v u} Jv rv q => ⟨v, H', Jv.os, Jv.bare, Jv.base, Jv.hok, rv, q⟩
  cases fl with
  | ret u =>
    obtain ⟨v, σ', H', Jv, rv', q⟩ := hs
    exact done Jv rv' q
  | next =>
    obtain ⟨σ', H', Jv, q⟩ := hs
    exact done (v := V.non) (u := Value.none) Jv rfl q
  | brk =>
    obtain ⟨_, _, _, z⟩ := hs
    exact False.elim z
  | cont =>
    obtain ⟨_, _, _, z⟩ := hs
    exact False.elim z
end
section
variable {X : Cx} {T : List (Addr × Str)} {W : WX} {k : Nat} {f : Addr} {fd : FuncData} {ps : List Str} {g : List D → Sto → R D} {x : Str} {p pos : Pos} {e : Expr} {es : List Expr} {fr : AX}
/-- f(e, ..) -/
theorem j_call (F : FnG X.prog X.w X.K X.mg X.base (L2.CX X.prog X.w) k f fd ps (SpG X.K T X.mg ps.length g)) (hgd : X.A.guards = some []) (hr : Room k X.A) (tk : Takes X W) (hg : Gl X x) (hm : X.mg x = some (.ref f)) (hk : PySem.W.keepIn X.K (.ref f) = true) (hb : Binds X.K fd ps [])
    (ha : JA X T W (e :: es) fr) (hn : (e :: es).length = ps.length := by rfl) (hdb : (x == ("__debug__" : Str)) = false := by decide) (he : starEach (e :: es) X.env = (false, eval e X.env) :: starEach es X.env := by rfl) (hpl : (backTo pos (starEach es X.env)).any (·.1) = false := by rfl) :
    J X T W (.Call (.Name x p) (e :: es) [] pos) (eCall g fr) := by
  refine ⟨fun pins s σ H Q I h => ?_⟩
  refine wpAny_Call_Name_kw (ld_glob I hg hm ?_ hdb)
  obtain ⟨en, st, m, hen, ok, h⟩ := h
  have key : tA X.K T X.mg W fr σ H (fun vs H1 => SpG X.K T X.mg ps.length g vs H1 Q (WE W σ)) := ⟨en, st, m, hen, ok, h.bind fun ds vs st1 H1 m1 hf l p1 ok1 rs h1 => by
    refine ⟨by rw [← Reps.length rs, ha.len _ _ _ _ hf]; exact hn, ds, st1, m1, rs, ok1, ?_⟩
    revert h1
    generalize g ds st1 = r
    intro h1
    cases r with
    | no => exact h1
    | ok d st2 => exact h1
    | ex xx st2 => exact h1⟩
  refine PySem.W.callWith_K (h₀ := X.base) I.ok.mod.kin hk (thn (ha.pa.run pos pins s σ H _ I key) fun us s1 ⟨vs, H1, I1, r, q⟩ => ⟨I1.kIn, ?_⟩) he hpl
  have hl : us.length = ps.length := by rw [← r.length]; exact F.len _ _ _ _ q
  have b := hb s1 us I1.kIn (by rw [List.append_nil]; exact hl)
  rw [List.append_nil] at b
  refine wpAny_call (codeAny_mono (F.run X.A X.stack s1 H1 ⟨us, []⟩ us vs Q (WE W σ) hgd hr I1.env0 b r q) fun r s' hq => ?_)
  cases r with
  | error e => exact passAt tk σ pins H1 s1 e s' I1 hq
  | ok fl =>
    cases fl with
    | ret u => exact I1.after hq
    | next => exact False.elim hq
    | brk => exact False.elim hq
    | cont => exact False.elim hq
end
end Mm

namespace Mm
open PySem L2
/-! ### built-ins -/
def intsOf : List D → Option (List Int)
  | [] => some []
  | .int i :: r => (intsOf r).map fun l => i :: l
  | _ :: _ => none
def boolsOf : List D → Option (List Bool)
  | [] => some []
  | .bl i :: r => (boolsOf r).map fun l => i :: l
  | _ :: _ => none
def maxI (a : Int) (l : List Int) : Int := l.foldl (fun a y => if a < y then y else a) a
def minI (a : Int) (l : List Int) : Int := l.foldl (fun a y => if y < a then y else a) a
def oLen : ON := fun ds st => match ds with
  | [d] => match d with
    | .str x => if x.length ≤ lim then some (.int x.length, st) else none
    | d => (seqOf st d).map fun xs => (.int xs.length, st)
  | _ => none
def oInt : ON := fun ds st => match ds with
  | [.int i] => some (.int i, st)
  | [.bl b] => some (.int (if b = true then 1 else 0), st)
  | _ => none
def oListOf : ON := fun ds st => match ds with
  | [d] => (seqOf st d).map fun xs => (.ref st.length, st ++ [.lst xs])
  | _ => none
def oTupOf : ON := fun ds st => match ds with
  | [d] => (seqOf st d).map fun xs => (.tup xs, st)
  | _ => none
def oMax : ON := fun ds st => match ds with
  | [.int i, .int j] => some (.int (if j > i then j else i), st)
  | [d] => match (seqOf st d).bind intsOf with
    | some (a :: l) => some (.int (maxI a l), st)
    | _ => none
  | _ => none
def oMin : ON := fun ds st => match ds with
  | [.int i, .int j] => some (.int (if j < i then j else i), st)
  | [d] => match (seqOf st d).bind intsOf with
    | some (a :: l) => some (.int (minI a l), st)
    | _ => none
  | _ => none
def oSum : ON := fun ds st => match ds with
  | [d] => ((seqOf st d).bind intsOf).map fun l => (.int l.sum, st)
  | _ => none
def oGcd : ON := fun ds st => match ds with
  | [.int i, .int j] => some (.int ((Nat.gcd i.natAbs j.natAbs : Nat) : Int), st)
  | _ => none
def oAny : ON := fun ds st => match ds with
  | [.ref i] => ((cellItems st[i]?).bind boolsOf).map fun l => (.bl (l.any id), st)
  | _ => none
def oAll : ON := fun ds st => match ds with
  | [.ref i] => ((cellItems st[i]?).bind boolsOf).map fun l => (.bl (l.all id), st)
  | _ => none
/-! how long a repr may be, at most -/
mutual
def wide : PyData → Nat
  | .none => 4
  | .bool _ => 5
  | .int i => (toString i : String).length
  | .str x => (reprText x).length
  | .list xs => 2 + wides xs
  | .tuple xs => 3 + wides xs
  | .dict _ => 100000000
def wides : List PyData → Nat
  | [] => 0
  | x :: xs => wide x + 2 + wides xs
end
def reprD (d : PyData) : D := .str d.shown
def oRepr : ON := fun ds st => match ds with
  | [d] => match pyS st d with
    | some p => if (p.showable && !p.hasDict && decide (p.depth ≤ 60) && decide (p.shown.length ≤ 16000000)) = true then some (reprD p, st) else none
    | none => none
  | _ => none
def tyName (st : Sto) : D → Option String
  | .non => some "NoneType"
  | .bl _ => some "bool"
  | .int _ => some "int"
  | .str _ => some "str"
  | .tup _ => some "tuple"
  | .ref i => match st[i]? with
    | some (.lst _) => some "list"
    | _ => none
def oIsi (t : String) : O1 := fun d st => match tyName st d with
  | some a => (kitB a t).map fun b => (.bl b, st)
  | none => none
section
variable {X : Cx} {T : List (Addr × Str)} {W : WX} {f : Value} {o : ON}
theorem cr_of (h : ∀ ds st m H xs r Q, Reps X.K H m ds xs → Ok X.K T H m st → o ds st = some r → DenO X.K T H m (some r) Q → ∃ f2 : List V → Hp → VK → Prop, CallR X f f2 ∧ f2 xs H Q) : CallR X f (rN X.K T o) := by
  intro pins s σ H xs us Q I rx hh
  obtain ⟨ds, st, m, q1, ok, q3⟩ := hh
  cases ho : o ds st with
  | none => rw [ho] at q3; exact False.elim q3
  | some r =>
    rw [ho] at q3
    obtain ⟨f2, k1, k2⟩ := h ds st m H xs r Q q1 ok ho q3
    exact k1 pins s σ H xs us Q I rx k2
theorem reps_ints {K : PySem.W.Frag} {H : Hp} {m : List Addr} : ∀ {ds : List D} {vs : List V} {ns : List Int}, Reps K H m ds vs → intsOf ds = some ns → vs = ns.map V.int
  | [], _, _, h, e => by cases h; cases e; rfl
  | d :: ds, _, ns, h, e => by
    obtain ⟨v, r, rfl, h1, h2⟩ := h
    cases d with
    | int i =>
      simp only [intsOf, Option.map_eq_some_iff] at e
      obtain ⟨l, e1, rfl⟩ := e
      rw [show v = V.int i from h1, reps_ints h2 e1]
      rfl
    | non | bl _ | str _ | tup _ | ref _ => simp [intsOf] at e
theorem reps_bools {K : PySem.W.Frag} {H : Hp} {m : List Addr} : ∀ {ds : List D} {vs : List V} {ns : List Bool}, Reps K H m ds vs → boolsOf ds = some ns → vs = ns.map V.bl
  | [], _, _, h, e => by cases h; cases e; rfl
  | d :: ds, _, ns, h, e => by
    obtain ⟨v, r, rfl, h1, h2⟩ := h
    cases d with
    | bl i =>
      simp only [boolsOf, Option.map_eq_some_iff] at e
      obtain ⟨l, e1, rfl⟩ := e
      rw [show v = V.bl i from h1, reps_bools h2 e1]
      rfl
    | non | int _ | str _ | tup _ | ref _ => simp [boolsOf] at e
/-- one argument that is a list or a tuple -/
theorem one_seq {K : PySem.W.Frag} {H : Hp} {m : List Addr} {st : Sto} {d : D} {vs : List V} {xs : List D} (ok : Ok K T H m st) (r : Reps K H m [d] vs) (h : seqOf st d = some xs) : ∃ a ws, vs = [.ref a] ∧ (SqL K H a ws ∨ SqT K H a ws) ∧ Reps K H m xs ws := by
  obtain ⟨v, r', rfl, h1, rfl⟩ := r
  obtain ⟨a, ws, rfl, h2, h3⟩ := seq_ok ok h1 h
  exact ⟨a, ws, rfl, h2, h3⟩
theorem one_seqN {K : PySem.W.Frag} {H : Hp} {m : List Addr} {st : Sto} {d : D} {vs : List V} {xs : List D} (ok : Ok K T H m st) (r : Reps K H m [d] vs) (h : seqOf st d = some xs) : ∃ a ws, vs = [.ref a] ∧ (SqL K H a ws ∨ SqN K H a ws) ∧ Reps K H m xs ws := by
  obtain ⟨v, r', rfl, h1, rfl⟩ := r
  obtain ⟨a, ws, rfl, h2, h3⟩ := seq_okN ok h1 h
  exact ⟨a, ws, rfl, h2, h3⟩
theorem cre_len : CallR X (.builtin "len") (rN X.K T oLen) := cr_of fun ds st m H xs r Q rx ok ho q => by
  match ds, ho, rx with
  | [d], ho, rx =>
    have seq : (seqOf st d).map (fun xs => (D.int xs.length, st)) = some r → ∃ f2 : List V → Hp → VK → Prop, CallR X (.builtin "len") f2 ∧ f2 xs H Q := fun ho => by
      simp only [Option.map_eq_some_iff] at ho
      obtain ⟨ys, h1, rfl⟩ := ho
      obtain ⟨a, ws, rfl, h2, h3⟩ := one_seq ok rx h1
      exact ⟨_, call_len_seq, a, ws, rfl, h2, deno_val q ok (by rw [Reps.length h3]; rfl)⟩
    cases d with
    | str x =>
      simp only [oLen] at ho
      split at ho
      · rename_i hl
        cases ho
        obtain ⟨v, r', rfl, h1, rfl⟩ := rx
        cases h1
        exact ⟨_, call_len_str, x, rfl, lim_le hl, deno_val q ok rfl⟩
      · cases ho
    | tup _ => exact seq ho
    | ref _ => exact seq ho
    | non => cases ho
    | bl _ => cases ho
    | int _ => cases ho
  | [], ho, _ => cases ho
  | _ :: _ :: _, ho, _ => simp [oLen] at ho
theorem cre_int : CallR X (.type "int") (rN X.K T oInt) := cr_of fun ds st m H xs r Q rx ok ho q => by
  match ds, ho, rx with
  | [d], ho, rx =>
    cases d with
    | int i =>
      cases ho
      obtain ⟨v, r', rfl, h1, rfl⟩ := rx
      cases h1
      exact ⟨_, call_int1, .inl ⟨i, rfl, deno_val q ok rfl⟩⟩
    | bl i =>
      cases ho
      obtain ⟨v, r', rfl, h1, rfl⟩ := rx
      cases h1
      exact ⟨_, call_int1, .inr ⟨i, rfl, deno_val q ok rfl⟩⟩
    | tup _ | ref _ | non | str _ => cases ho
  | [], ho, _ => cases ho
  | _ :: _ :: _, ho, _ => simp [oInt] at ho
theorem cre_list : CallR X (.type "list") (rN X.K T oListOf) := cr_of fun ds st m H xs r Q rx ok ho q => by
  match ds, ho, rx with
  | [d], ho, rx =>
    simp only [oListOf, Option.map_eq_some_iff] at ho
    obtain ⟨ys, h1, rfl⟩ := ho
    obtain ⟨a, ws, rfl, h2, h3⟩ := one_seq ok rx h1
    exact ⟨_, call_list_of, a, ws, rfl, h2, deno_lst q ok h3⟩
  | [], ho, _ => cases ho
  | _ :: _ :: _, ho, _ => simp [oListOf] at ho
/-- tuple(x), what is new without a dict of its own -/
theorem call_tupleN : CallR X (.type "tuple") (fun xs H Q => ∃ p ys, xs = [.ref p] ∧ ((SqL X.K H p ys ∧ ∀ l o, H l = none → o.dict = none → Q (.ref l) (upd H l (.frz o (.tup ys)))) ∨ (SqT X.K H p ys ∧ Q (.ref p) H))) := fun pins s σ H xs us Q I r ⟨p, ys, e, h⟩ => by
  rcases h with ⟨hq, q⟩ | h
  · subst e
    obtain ⟨u, rfl, rx⟩ := vals1 r
    cases rx
    obtain ⟨its, r', pl, hz⟩ := I.list hq
    have hn := r'.length
    refine call_tuple_list pl.isList (fun h' kp => ?_) (by rw [List.size_toArray, ← hn]; exact hz)
    have J := I.kept (t' := s.toks) kp
    exact ⟨.ref h'.objs.size, _, J.laid (t' := s.toks) (o := .frz (tupO its) (.tup ys)) (fun b o z => Heap.get?_push_of_some _ z) (Nat.le_refl _) ⟨Heap.get?_push_size _ rfl, hz, its, r', _, Heap.get?_push_size _ rfl, rfl, _, rfl⟩, rfl, q _ _ (J.hok.fresh (Nat.le_refl _)) rfl⟩
  · exact call_tuple_of pins s σ H xs us Q I r ⟨p, ys, e, .inr h⟩
theorem cre_tuple : CallR X (.type "tuple") (rN X.K T oTupOf) := cr_of fun ds st m H xs r Q rx ok ho q => by
  match ds, ho, rx with
  | [d], ho, rx =>
    simp only [oTupOf, Option.map_eq_some_iff] at ho
    obtain ⟨ys, h1, rfl⟩ := ho
    obtain ⟨a, ws, rfl, h2, h3⟩ := one_seqN ok rx h1
    refine ⟨_, call_tupleN, a, ws, rfl, ?_⟩
    rcases h2 with h2 | h2
    · exact .inl ⟨h2, deno_tup q ok h3⟩
    · exact .inr ⟨h2.sq, deno_val q ok ⟨a, ws, rfl, h2, h3⟩⟩
  | [], ho, _ => cases ho
  | _ :: _ :: _, ho, _ => simp [oTupOf] at ho
theorem maxI_spec : ∀ (l : List Int) (a : Int), maxI a l ∈ a :: l ∧ ∀ y ∈ a :: l, y ≤ maxI a l
  | [], a => ⟨by simp [maxI], by simp [maxI]⟩
  | b :: l, a => by
    obtain ⟨c, hc⟩ : ∃ c, c = if a < b then b else a := ⟨_, rfl⟩
    have e : maxI a (b :: l) = maxI c l := by rw [hc]; rfl
    have hc1 : a ≤ c ∧ b ≤ c ∧ (c = a ∨ c = b) := by split at hc <;> omega
    obtain ⟨h1, h2⟩ := maxI_spec l c
    rw [e]
    refine ⟨?_, fun y hy => ?_⟩
    · rcases List.mem_cons.mp h1 with z | z
      · rw [z]; rcases hc1.2.2 with q | q <;> rw [q] <;> simp
      · exact List.mem_cons_of_mem _ (List.mem_cons_of_mem _ z)
    · have hm := h2 _ List.mem_cons_self
      rcases List.mem_cons.mp hy with rfl | hy
      · omega
      · rcases List.mem_cons.mp hy with rfl | hy
        · omega
        · exact h2 y (List.mem_cons_of_mem _ hy)
theorem minI_spec : ∀ (l : List Int) (a : Int), minI a l ∈ a :: l ∧ ∀ y ∈ a :: l, minI a l ≤ y
  | [], a => ⟨by simp [minI], by simp [minI]⟩
  | b :: l, a => by
    obtain ⟨c, hc⟩ : ∃ c, c = if b < a then b else a := ⟨_, rfl⟩
    have e : minI a (b :: l) = minI c l := by rw [hc]; rfl
    have hc1 : c ≤ a ∧ c ≤ b ∧ (c = a ∨ c = b) := by split at hc <;> omega
    obtain ⟨h1, h2⟩ := minI_spec l c
    rw [e]
    refine ⟨?_, fun y hy => ?_⟩
    · rcases List.mem_cons.mp h1 with z | z
      · rw [z]; rcases hc1.2.2 with q | q <;> rw [q] <;> simp
      · exact List.mem_cons_of_mem _ (List.mem_cons_of_mem _ z)
    · have hm := h2 _ List.mem_cons_self
      rcases List.mem_cons.mp hy with rfl | hy
      · omega
      · rcases List.mem_cons.mp hy with rfl | hy
        · omega
        · exact h2 y (List.mem_cons_of_mem _ hy)
theorem maxD_ints : ∀ (l : List Int) (a : Int), PySem.W.maxD (.int a) (l.map .int) = .int (maxI a l)
  | [], a => rfl
  | b :: l, a => by
    show PySem.W.maxD (if PySem.W.dataLt (.int a) (.int b) then .int b else .int a) (l.map .int) = .int (maxI (if a < b then b else a) l)
    rw [PySem.W.dataLt_int]
    by_cases h : a < b
    · simp only [h, decide_true, if_true]; exact maxD_ints l b
    · simp only [h, decide_false, if_false, Bool.false_eq_true]; exact maxD_ints l a
theorem minD_ints : ∀ (l : List Int) (a : Int), PySem.W.minD (.int a) (l.map .int) = .int (minI a l)
  | [], a => rfl
  | b :: l, a => by
    show PySem.W.minD (if PySem.W.dataLt (.int b) (.int a) then .int b else .int a) (l.map .int) = .int (minI (if b < a then b else a) l)
    rw [PySem.W.dataLt_int]
    by_cases h : b < a
    · simp only [h, decide_true, if_true]; exact minD_ints l b
    · simp only [h, decide_false, if_false, Bool.false_eq_true]; exact minD_ints l a
theorem dpAll_ints {K : PySem.W.Frag} {H : Hp} : ∀ (ns : List Int), DpAll K H (ns.map V.int) (ns.map PyData.int)
  | [] => .nil
  | n :: ns => .cons (.int n) (dpAll_ints ns)
theorem alike_ints (ns : List Int) : PySem.W.AlikeAll (ns.map PyData.int) := by
  refine ⟨fun x hx y hy => ?_, fun x hx => ?_⟩
  · obtain ⟨i, _, rfl⟩ := List.mem_map.mp hx
    obtain ⟨j, _, rfl⟩ := List.mem_map.mp hy
    rfl
  · obtain ⟨i, _, rfl⟩ := List.mem_map.mp hx
    intro z; cases z
theorem depth_ints : ∀ ns : List Int, PyData.depthAll (ns.map PyData.int) ≤ 1
  | [] => by simp [PyData.depthAll]
  | n :: ns => by
    have := depth_ints ns
    simp only [List.map_cons, PyData.depthAll, PyData.depth]
    omega
end
end Mm

namespace Mm
open PySem L2
section
variable {X : Cx} {T : List (Addr × Str)} {W : WX}
theorem seq_bind {st : Sto} {d : D} {al : Type} {f : List D → Option al} {r : al} (h : (seqOf st d).bind f = some r) : ∃ xs, seqOf st d = some xs ∧ f xs = some r := by
  cases e : seqOf st d with
  | none => rw [e] at h; cases h
  | some xs => rw [e] at h; exact ⟨xs, rfl, h⟩
/-- max, min of one list or tuple of ints -/
theorem call_maxS (hc : X.calm = true) (hu : X.A.units + 100 < cLine) : CallR X (.builtin "max") (fun vs H Q => ∃ a b l, vs = [V.ref a] ∧ (SqL X.K H a ((b :: l).map V.int) ∨ SqT X.K H a ((b :: l).map V.int)) ∧ Q (.int (maxI b l)) H) := by
  intro pins s σ H vs us Q I rr h
  obtain ⟨a, b, l, rfl, hs, q⟩ := h
  rcases hs with hs | hs
  · refine cr_max hc pins s σ H _ us Q I rr ⟨a, b :: l, rfl, hs, by simp, fun M hM hle => ?_⟩
    obtain ⟨h1, h2⟩ := maxI_spec l b
    have e : M = maxI b l := by
      have := hle _ h1
      have := h2 _ hM
      omega
    rw [e]; exact q
  · obtain ⟨its, rv, ht, _⟩ := I.tuple hs
    rw [Vals.ref1 rr]
    obtain ⟨as, hr⟩ := Dp.readsAll I _ _ its (dpAll_ints (b :: l)) rv
    refine PySem.W.max_tuple_data (I.ok.hd hc) (show s.heap.IsTuple a its.toArray from ht) (by simpa using hr) (alike_ints (b :: l)) (by have := depth_ints (b :: l); simp only [List.map_cons] at this; omega) fun i v h' tk bs hv hread hk => ?_
    rw [maxD_ints] at hread
    have hv : ∃ t, v = Value.int (maxI b l) t := by cases hread; exact ⟨_, rfl⟩
    exact ⟨.int (maxI b l), H, I.kept hk, hv, q⟩
theorem call_minS (hc : X.calm = true) (hu : X.A.units + 100 < cLine) : CallR X (.builtin "min") (fun vs H Q => ∃ a b l, vs = [V.ref a] ∧ (SqL X.K H a ((b :: l).map V.int) ∨ SqT X.K H a ((b :: l).map V.int)) ∧ Q (.int (minI b l)) H) := by
  intro pins s σ H vs us Q I rr h
  obtain ⟨a, b, l, rfl, hs, q⟩ := h
  rcases hs with hs | hs
  · refine cr_min hc pins s σ H _ us Q I rr ⟨a, b :: l, rfl, hs, by simp, fun M hM hle => ?_⟩
    obtain ⟨h1, h2⟩ := minI_spec l b
    have e : M = minI b l := by
      have := hle _ h1
      have := h2 _ hM
      omega
    rw [e]; exact q
  · obtain ⟨its, rv, ht, _⟩ := I.tuple hs
    rw [Vals.ref1 rr]
    obtain ⟨as, hr⟩ := Dp.readsAll I _ _ its (dpAll_ints (b :: l)) rv
    refine PySem.W.min_tuple_data (I.ok.hd hc) (show s.heap.IsTuple a its.toArray from ht) (by simpa using hr) (alike_ints (b :: l)) (by have := depth_ints (b :: l); simp only [List.map_cons] at this; omega) fun i v h' tk bs hv hread hk => ?_
    rw [minD_ints] at hread
    have hv : ∃ t, v = Value.int (minI b l) t := by cases hread; exact ⟨_, rfl⟩
    exact ⟨.int (minI b l), H, I.kept hk, hv, q⟩
theorem call_sumS (hc : X.calm = true) : CallR X (.builtin "sum") (fun vs H Q => ∃ (a : Addr) (l : List Int), vs = [V.ref a] ∧ (SqL X.K H a (l.map V.int) ∨ SqT X.K H a (l.map V.int)) ∧ Q (.int l.sum) H) := by
  intro pins s σ H vs us Q I rr h
  obtain ⟨a, l, rfl, hs, q⟩ := h
  rcases hs with hs | hs
  · exact cr_sum hc pins s σ H _ us Q I rr ⟨a, l, rfl, hs, q⟩
  · obtain ⟨its, rv, ht, _⟩ := I.tuple hs
    rw [Vals.ref1 rr]
    have hi := rv.ints
    obtain ⟨xs, e⟩ := hi.allInts.items
    have hn : numsOf (intItems xs).toList = l := by rw [← e]; exact hi.numsOf
    rw [nums_intItems] at hn
    have ht : s.heap.IsTuple a (intItems xs) := by rw [← e]; exact ht
    refine PySem.W.ktm_sumG (I.ok.hd hc) ht fun h' tk t' hk => ?_
    rw [preSum_eq, List.take_of_length_le (by simp), hn]
    exact ⟨.int l.sum, H, I.kept hk, ⟨_, rfl⟩, q⟩
theorem cre_max (hc : X.calm = true) (hu : X.A.units + 100 < cLine) : CallR X (.builtin "max") (rN X.K T oMax) := cr_of fun ds st m H xs r Q rx ok ho q => by
  match ds, ho, rx with
  | [d], ho, rx =>
    have ho : (match (seqOf st d).bind intsOf with | some (a :: l) => some (D.int (maxI a l), st) | _ => none) = some r := by
      cases d <;> exact ho
    split at ho
    · rename_i b l hb
      cases ho
      obtain ⟨ys, h1, h2⟩ := seq_bind hb
      obtain ⟨a, ws, rfl, h3, h4⟩ := one_seq ok rx h1
      have e := reps_ints h4 h2
      subst e
      exact ⟨_, call_maxS hc hu, a, b, l, rfl, h3, deno_val q ok rfl⟩
    · cases ho
  | [], ho, _ => cases ho
  | [x, y], ho, rx =>
    cases x with
    | int i =>
      cases y with
      | int j =>
        cases ho
        obtain ⟨v, r', rfl, h1, v2, r2, rfl, h2, rfl⟩ := rx
        cases h1; cases h2
        exact ⟨_, call_max2 hc, i, j, rfl, deno_val q ok rfl⟩
      | non | bl _ | str _ | tup _ | ref _ => cases ho
    | non | bl _ | str _ | tup _ | ref _ => cases ho
  | _ :: _ :: _ :: _, ho, _ => simp [oMax] at ho
theorem cre_min (hc : X.calm = true) (hu : X.A.units + 100 < cLine) : CallR X (.builtin "min") (rN X.K T oMin) := cr_of fun ds st m H xs r Q rx ok ho q => by
  match ds, ho, rx with
  | [d], ho, rx =>
    have ho : (match (seqOf st d).bind intsOf with | some (a :: l) => some (D.int (minI a l), st) | _ => none) = some r := by
      cases d <;> exact ho
    split at ho
    · rename_i b l hb
      cases ho
      obtain ⟨ys, h1, h2⟩ := seq_bind hb
      obtain ⟨a, ws, rfl, h3, h4⟩ := one_seq ok rx h1
      have e := reps_ints h4 h2
      subst e
      exact ⟨_, call_minS hc hu, a, b, l, rfl, h3, deno_val q ok rfl⟩
    · cases ho
  | [], ho, _ => cases ho
  | [x, y], ho, rx =>
    cases x with
    | int i =>
      cases y with
      | int j =>
        cases ho
        obtain ⟨v, r', rfl, h1, v2, r2, rfl, h2, rfl⟩ := rx
        cases h1; cases h2
        exact ⟨_, call_min2 hc, i, j, rfl, deno_val q ok rfl⟩
      | non | bl _ | str _ | tup _ | ref _ => cases ho
    | non | bl _ | str _ | tup _ | ref _ => cases ho
  | _ :: _ :: _ :: _, ho, _ => simp [oMin] at ho
theorem cre_sum (hc : X.calm = true) : CallR X (.builtin "sum") (rN X.K T oSum) := cr_of fun ds st m H xs r Q rx ok ho q => by
  match ds, ho, rx with
  | [d], ho, rx =>
    simp only [oSum, Option.map_eq_some_iff] at ho
    obtain ⟨l, hb, rfl⟩ := ho
    obtain ⟨ys, h1, h2⟩ := seq_bind hb
    obtain ⟨a, ws, rfl, h3, h4⟩ := one_seq ok rx h1
    have e := reps_ints h4 h2
    subst e
    exact ⟨_, call_sumS hc, a, l, rfl, h3, deno_val q ok rfl⟩
  | [], ho, _ => cases ho
  | _ :: _ :: _, ho, _ => simp [oSum] at ho
theorem cre_gcd : CallR X (.builtin "math.gcd") (rN X.K T oGcd) := cr_of fun ds st m H xs r Q rx ok ho q => by
  match ds, ho, rx with
  | [x, y], ho, rx =>
    cases x with
    | int i =>
      cases y with
      | int j =>
        cases ho
        obtain ⟨v, r', rfl, h1, v2, r2, rfl, h2, rfl⟩ := rx
        cases h1; cases h2
        exact ⟨_, cr_gcd, i, j, rfl, deno_val q ok rfl⟩
      | non | bl _ | str _ | tup _ | ref _ => cases ho
    | non | bl _ | str _ | tup _ | ref _ => cases ho
  | [], ho, _ => cases ho
  | [x], ho, _ => cases x <;> cases ho
  | _ :: _ :: _ :: _, ho, _ => simp [oGcd] at ho
theorem cre_any (hc : X.calm = true) : CallR X (.builtin "any") (rN X.K T oAny) := cr_of fun ds st m H xs r Q rx ok ho q => by
  match ds, ho, rx with
  | [x], ho, rx =>
    cases x with
    | ref i =>
      simp only [oAny, Option.map_eq_some_iff] at ho
      obtain ⟨l, hb, rfl⟩ := ho
      obtain ⟨ys, h1, h2⟩ := seq_bind (st := st) (d := .ref i) hb
      obtain ⟨v, r', rfl, ⟨a, hm, rfl⟩, rfl⟩ := rx
      obtain ⟨a', ws, h3, h4, h5⟩ := cellItems_ok ok h1
      rw [hm] at h3; cases h3
      have e := reps_bools h5 h2
      subst e
      exact ⟨_, cr_any hc, a, l, rfl, h4, deno_val q ok rfl⟩
    | non | bl _ | str _ | tup _ | int _ => cases ho
  | [], ho, _ => cases ho
  | _ :: _ :: _, ho, _ => simp [oAny] at ho
theorem cre_all (hc : X.calm = true) : CallR X (.builtin "all") (rN X.K T oAll) := cr_of fun ds st m H xs r Q rx ok ho q => by
  match ds, ho, rx with
  | [x], ho, rx =>
    cases x with
    | ref i =>
      simp only [oAll, Option.map_eq_some_iff] at ho
      obtain ⟨l, hb, rfl⟩ := ho
      obtain ⟨ys, h1, h2⟩ := seq_bind (st := st) (d := .ref i) hb
      obtain ⟨v, r', rfl, ⟨a, hm, rfl⟩, rfl⟩ := rx
      obtain ⟨a', ws, h3, h4, h5⟩ := cellItems_ok ok h1
      rw [hm] at h3; cases h3
      have e := reps_bools h5 h2
      subst e
      exact ⟨_, cr_all hc, a, l, rfl, h4, deno_val q ok rfl⟩
    | non | bl _ | str _ | tup _ | int _ => cases ho
  | [], ho, _ => cases ho
  | _ :: _ :: _, ho, _ => simp [oAll] at ho
theorem dp_ref {K : PySem.W.Frag} {H : Hp} {x : V} {p : PyData} (h : Dp K H x p) : (∃ a, x = .ref a) ∨ (p = .none ∧ x = .non) ∨ (∃ b, p = .bool b ∧ x = .bl b) ∨ (∃ b, p = .int b ∧ x = .int b) ∨ (∃ b, p = .str b ∧ x = .str b) := by
  cases h with
  | non => exact .inr (.inl ⟨rfl, rfl⟩)
  | bl b => exact .inr (.inr (.inl ⟨b, rfl, rfl⟩))
  | int b => exact .inr (.inr (.inr (.inl ⟨b, rfl, rfl⟩)))
  | str b => exact .inr (.inr (.inr (.inr ⟨b, rfl, rfl⟩)))
  | lst _ _ => exact .inl ⟨_, rfl⟩
  | tup _ _ => exact .inl ⟨_, rfl⟩
theorem call_reprD (hgd : X.A.guards = some []) (hu : X.A.units + 100 < cLine) : CallR X (.builtin "repr") (fun vs H Q => ∃ x p, vs = [x] ∧ Dp X.K H x p ∧ p.showable = true ∧ p.hasDict = false ∧ p.depth ≤ 60 ∧ p.shown.length ≤ 16000000 ∧ Q (.str p.shown) H) := by
  intro pins s σ H vs us Q I rr h
  obtain ⟨x, p, rfl, hd, h1, h2, h3, h4, q⟩ := h
  obtain ⟨u, rfl, ru⟩ := vals1 rr
  have hz : p.shown.length ≤ sizeLine := Nat.le_trans h4 (by decide)
  rcases dp_ref hd with ⟨a, rfl⟩ | ⟨rfl, rfl⟩ | ⟨b, rfl, rfl⟩ | ⟨b, rfl, rfl⟩ | ⟨b, rfl, rfl⟩
  · cases ru
    obtain ⟨as, hr⟩ := Dp.reads I p _ _ hd rfl
    refine repr_of_reads' hr h1 (fun z => by rw [h2] at z; cases z) hgd (by omega) (fun _ _ e => e) (fun h' u tk hk => ?_) hz
    exact ⟨.str p.shown, H, I.kept hk, ⟨u, rfl⟩, q⟩
  · cases ru
    exact PySem.P.repr_of_none ⟨.str _, H, I.tok _, ⟨_, rfl⟩, by rw [PyData.shown_none] at q; exact q⟩
  · cases ru
    refine PySem.P.repr_of_bool ⟨.str _, H, I.tok _, ⟨_, rfl⟩, ?_⟩
    rw [PyData.shown_bool] at q
    cases b <;> exact q
  · obtain ⟨t, rfl⟩ := ru
    simp only [PyData.showable, decide_eq_true_eq] at h1
    refine PySem.P.repr_of_int h1 ⟨.str _, H, I.tok _, ⟨_, rfl⟩, ?_⟩
    rw [PyData.shown_int] at q
    exact q
  · obtain ⟨t, rfl⟩ := ru
    rw [PyData.shown_str] at q hz
    exact PySem.P.repr_of_str ⟨.str _, H, I.tok _, ⟨_, rfl⟩, q⟩ hz
theorem cre_repr (hgd : X.A.guards = some []) (hu : X.A.units + 100 < cLine) : CallR X (.builtin "repr") (rN X.K T oRepr) := cr_of fun ds st m H xs r Q rx ok ho q => by
  match ds, ho, rx with
  | [d], ho, rx =>
    simp only [oRepr] at ho
    split at ho
    · rename_i p hp
      split at ho
      · rename_i hb
        cases ho
        simp only [Bool.and_eq_true, decide_eq_true_eq, Bool.not_eq_true'] at hb
        obtain ⟨⟨⟨b1, b2⟩, b3⟩, b4⟩ := hb
        obtain ⟨v, r', rfl, h1, rfl⟩ := rx
        exact ⟨_, call_reprD hgd hu, v, p, rfl, dpS_of ok h1 hp, b1, b2, b3, b4, deno_val q ok rfl⟩
      · cases ho
    · cases ho
  | [], ho, _ => cases ho
  | _ :: _ :: _, ho, _ => simp [oRepr] at ho
/-! calls of built-ins by name -/
section
variable {e : Expr} {es : List Expr} {fr : AX} {x : Str} {p pos : Pos} {id t : String} {o : ON}
theorem nN_weak {s : L2.St} {H : Hp} {Q : VK} (h : tE X.K T X.mg W (eN o fr) s H Q) : tCB (rN X.K T o) (tA X.K T X.mg W fr) s H Q := by
  obtain ⟨en, st, m, he, ok, h⟩ := h
  exact ⟨en, st, m, he, ok, h.bind fun ds xs st1 H1 m1 _ l1 p1 ok1 rs h1 => ⟨ds, st1, m1, rs, ok1, den_of h1⟩⟩
theorem j_bi (hr : CallR X (.builtin id) (rN X.K T o)) (hg : Gl X x) (hm : X.mg x = none) (hv : bootBuiltins x = some (.builtin id)) (ha : JA X T W (e :: es) fr) (hx : x ≠ ("__name__" : Str) := by decide) (hdb : (x == ("__debug__" : Str)) = false := by decide)
    (he : starEach (e :: es) X.env = (false, eval e X.env) :: starEach es X.env := by rfl) (hpl : (backTo pos (starEach es X.env)).any (·.1) = false := by rfl) : J X T W (.Call (.Name x p) (e :: es) [] pos) (eN o fr) :=
  pe_weak (pe_callB hr hg hm hv ha.pa hx hdb he hpl) fun s H Q => nN_weak
theorem j_ty (hr : CallR X (.type t) (rN X.K T o)) (hg : Gl X x) (hm : X.mg x = none) (hv : bootBuiltins x = some (.type t)) (ha : JA X T W (e :: es) fr) (hx : x ≠ ("__name__" : Str) := by decide) (hdb : (x == ("__debug__" : Str)) = false := by decide)
    (he : starEach (e :: es) X.env = (false, eval e X.env) :: starEach es X.env := by rfl) (hpl : (backTo pos (starEach es X.env)).any (·.1) = false := by rfl) : J X T W (.Call (.Name x p) (e :: es) [] pos) (eN o fr) :=
  pe_weak (pe_callTy hr hg hm hv ha.pa hx hdb he hpl) fun s H Q => nN_weak
theorem j_bf (hr : CallR X (.builtin id) (rN X.K T o)) (hg : Gl X x) (hm : X.mg x = some (.builtin id)) (ha : JA X T W (e :: es) fr) (hdb : (x == ("__debug__" : Str)) = false := by decide)
    (he : starEach (e :: es) X.env = (false, eval e X.env) :: starEach es X.env := by rfl) (hpl : (backTo pos (starEach es X.env)).any (·.1) = false := by rfl) : J X T W (.Call (.Name x p) (e :: es) [] pos) (eN o fr) :=
  pe_weak (pe_callBfun hr hg hm ha.pa hdb he hpl) fun s H Q => nN_weak
/-- isinstance(e, T), T a built-in class by its name -/
theorem tyx_of {K : PySem.W.Frag} {H : Hp} {m : List Addr} {st : Sto} {d : D} {v : V} {a : String} (ok : Ok K T H m st) (r : Rep K H m d v) (h : tyName st d = some a) : TyX K H v (.type a) := by
  cases d with
  | non => cases r; cases h; exact .base .non
  | bl b => cases r; cases h; exact .base (.bl b)
  | int b => cases r; cases h; exact .base (.int b)
  | str b => cases r; cases h; exact .base (.str b)
  | tup ds =>
    cases h
    obtain ⟨a, vs, rfl, hs, _⟩ := r
    rcases hs with (hs | ⟨o, hs⟩) | ⟨o, its, n, hk, hc, _⟩
    · exact .base (.tup hs)
    · exact .fTuple hs
    · exact .kTuple hk hc
  | ref i =>
    simp only [tyName] at h
    split at h
    · rename_i xs hx
      cases h
      obtain ⟨a, hm, rfl⟩ := r
      obtain ⟨a', vs, h1, h2, _⟩ := ok.lst hx
      rw [hm] at h1; cases h1
      exact .base (.lst h2)
    · cases h
theorem j_isi {fa : EX} {y : Str} {p2 : Pos} (ha : J X T W e fa) (hg : Gl X "isinstance") (hm : X.mg "isinstance" = none) (hgy : Gl X y) (hmy : X.mg y = none) (hvy : bootBuiltins y = some (.type t)) (hy : y ≠ ("__name__" : Str) := by decide) (hdy : (y == ("__debug__" : Str)) = false := by decide)
    (he : starEach (e :: [.Name y p2]) X.env = (false, eval e X.env) :: starEach [.Name y p2] X.env := by rfl) (he2 : starEach (.Name y p2 :: []) X.env = (false, eval (.Name y p2) X.env) :: starEach [] X.env := by rfl) (hpl : (backTo pos (starEach [.Name y p2] X.env)).any (·.1) = false := by rfl) :
    J X T W (.Call (.Name "isinstance" p) [e, .Name y p2] [] pos) (e1 (oIsi t) fa) :=
  pe_weak (pe_callB call_isi hg hm (by decide +kernel) (pa_cons ha (pa_cons (pe_bltn hgy hmy hvy (v := .ty t) rfl hy hdy) pa_nil he2) he) (by decide) (by decide) he hpl) fun s H Q ⟨en, st, m, hen, ok, h⟩ =>
    ⟨en, st, m, hen, ok, h.bind fun d v st1 H1 m1 _ l1 p1 ok1 rv h1 => by
      show rIsi X.K [v, .ty t] H1 Q
      simp only [oIsi] at h1
      cases ht : tyName st1 d with
      | none => simp only [ht] at h1; exact False.elim h1
      | some a =>
        simp only [ht] at h1
        cases hk : kitB a t with
        | none => rw [hk] at h1; exact False.elim h1
        | some b =>
          rw [hk] at h1
          exact ⟨v, .ty t, .type a, .type t, b, rfl, .ty t, tyx_of ok1 rv ht, kit_ty hk, h1 (.bl b) H1 m1 (.refl H1) (.refl m1) ok1 rfl⟩⟩
end
/-! methods of lists -/
def oApp (x y : D) (st : Sto) : Option (D × Sto) := match x with
  | .ref i => match lstOf st (.ref i) with
    | some xs => if xs.length < lim then some (.non, st.set i (Cell.lst (xs ++ [y]))) else none
    | none => none
  | _ => none
def oExt (x y : D) (st : Sto) : Option (D × Sto) := match x, y with
  | .ref i, .ref j => match lstOf st (.ref i), lstOf st (.ref j) with
    | some xs, some ys => if xs.length + ys.length < lim then some (.non, st.set i (Cell.lst (xs ++ ys))) else none
    | _, _ => none
  | _, _ => none
def oPopAt (x y : D) (st : Sto) : Option (D × Sto) := match x, y with
  | .ref i, .int n => match lstOf st (.ref i) with
    | some xs => if xs.length ≤ lim then match ixN xs.length n with
      | some k => match xs[k]? with
        | some d => some (d, st.set i (Cell.lst (xs.eraseIdx k)))
        | none => none
      | none => none else none
    | none => none
  | _, _ => none
def oPop (x : D) (st : Sto) : Option (D × Sto) := match x with
  | .ref i => match lstOf st (.ref i) with
    | some xs => match xs[xs.length - 1]? with
      | some d => some (d, st.set i (Cell.lst xs.dropLast))
      | none => none
    | none => none
  | _ => none
theorem lst_get {st : Sto} {i : Nat} {xs : List D} (h : lstOf st (.ref i) = some xs) : st[i]? = some (.lst xs) := by
  unfold lstOf at h
  simp only at h
  split at h
  · rename_i z hz; cases h; exact hz
  · cases h
def isLst (st : Sto) (d : D) : Bool := (lstOf st d).isSome
def eM1 (o : O2) (a b : EX) : EX := fun e st => (a e st).bind fun x st1 => if isLst st1 x = true then (b e st1).bind fun y st2 => .of (o x y st2) else .no
def eM0 (o : O1) (a : EX) : EX := fun e st => (a e st).bind fun x st1 => if isLst st1 x = true then .of (o x st1) else .no
def rM1 (K : PySem.W.Frag) (T : List (Addr × Str)) (o : O2) : V → List V → Hp → VK → Prop := fun x xs H Q => ∃ dx dy st m y, xs = [y] ∧ Rep K H m dx x ∧ Rep K H m dy y ∧ Ok K T H m st ∧ DenO K T H m (o dx dy st) Q
def rM0 (K : PySem.W.Frag) (T : List (Addr × Str)) (o : O1) : V → List V → Hp → VK → Prop := fun x xs H Q => ∃ dx st m, xs = [] ∧ Rep K H m dx x ∧ Ok K T H m st ∧ DenO K T H m (o dx st) Q
theorem tyv_lst {K : PySem.W.Frag} {H : Hp} {m : List Addr} {st : Sto} {d : D} {v : V} (ok : Ok K T H m st) (r : Rep K H m d v) (h : isLst st d = true) : tyV K "list" v H := by
  unfold isLst at h
  cases hl : lstOf st d with
  | none => rw [hl] at h; cases h
  | some xs =>
    cases d with
    | ref i =>
      obtain ⟨a, hm, rfl⟩ := r
      obtain ⟨a', vs, h1, h2, _⟩ := lst_of ok hl
      rw [hm] at h1; cases h1
      exact .inl ⟨rfl, vs, .of h2⟩
    | non | bl _ | int _ | str _ | tup _ => cases hl
section
variable {a b : Expr} {fa fb : EX} {apos cpos : Pos} {name : Str} {id : String}
theorem j_m1 {o : O2} (hs : Slot "list" name id) (ht : typeOf (.builtin id) = pure (.type "method_descriptor")) (hr : MtR X id (rM1 X.K T o)) (ha : J X T W a fa) (hb : J X T W b fb)
    (hbase : attributeBase a name X.env (eval a X.env) = eval a X.env := by rfl)
    (hfew : ((backTo cpos (starEach (b :: []) X.env)).all (fun x => !x.1) && (backToKw cpos (keywordEach [] X.env)).all (fun x => x.1.isSome) && decide ((b :: ([] : List Expr)).length + ([] : List Keyword).length + (if ([] : List Keyword).isEmpty = true then 0 else 1) < 30)) = true := by rfl)
    (hline : (apos.endLine == cpos.line) = true := by rfl) (he : starEach (b :: []) X.env = (false, eval b X.env) :: starEach [] X.env := by rfl) (hpl : (backTo cpos (starEach [] X.env)).any (·.1) = false := by rfl) :
    J X T W (.Call (.Attribute a name apos) [b] [] cpos) (eM1 o fa fb) :=
  pe_weak (pe_bm PySem.F.plainAttrs_list hs ht hr ha (pa_cons hb pa_nil he) hbase hfew hline he hpl) fun s H Q ⟨e, st, m, hen, ok, h⟩ =>
    ⟨e, st, m, hen, ok, h.bind fun dx x st1 H1 m1 _ l1 p1 ok1 rx h1 => by
      by_cases hl : isLst st1 dx = true
      · have h1 : Den X.K T X.mg W (RD X.K) s H1 m1 (if isLst st1 dx = true then (fb e st1).bind fun y st2 => .of (o dx y st2) else .no) Q := h1
        rw [if_pos hl] at h1
        exact ⟨tyv_lst ok1 rx hl, e, st1, m1, hen.mono l1 p1, ok1, h1.bind fun dy y st2 H2 m2 _ l2 p2 ok2 ry h2 => ⟨dx, dy, st2, m2, y, rfl, rx.mono l2 p2, ry, ok2, den_of h2⟩⟩
      · have h1 : Den X.K T X.mg W (RD X.K) s H1 m1 (if isLst st1 dx = true then (fb e st1).bind fun y st2 => .of (o dx y st2) else .no) Q := h1
        rw [if_neg hl] at h1
        exact False.elim h1⟩
theorem j_m0 {o : O1} (hs : Slot "list" name id) (ht : typeOf (.builtin id) = pure (.type "method_descriptor")) (hr : MtR X id (rM0 X.K T o)) (ha : J X T W a fa)
    (hbase : attributeBase a name X.env (eval a X.env) = eval a X.env := by rfl) (hline : (apos.endLine == cpos.line) = true := by rfl) : J X T W (.Call (.Attribute a name apos) [] [] cpos) (eM0 o fa) :=
  pe_weak (pe_bm0 PySem.F.plainAttrs_list hs ht hr ha hbase hline) fun s H Q ⟨e, st, m, hen, ok, h⟩ =>
    ⟨e, st, m, hen, ok, h.bind fun dx x st1 H1 m1 _ l1 p1 ok1 rx h1 => by
      by_cases hl : isLst st1 dx = true
      · have h1 : Den X.K T X.mg W (RD X.K) s H1 m1 (if isLst st1 dx = true then .of (o dx st1) else .no) Q := h1
        rw [if_pos hl] at h1
        exact ⟨tyv_lst ok1 rx hl, dx, st1, m1, rfl, rx, ok1, den_of h1⟩
      · have h1 : Den X.K T X.mg W (RD X.K) s H1 m1 (if isLst st1 dx = true then .of (o dx st1) else .no) Q := h1
        rw [if_neg hl] at h1
        exact False.elim h1⟩
theorem mt_of {o : O2} (h : ∀ i dy st m H a y ws xs q Q, st[i]? = some (Cell.lst xs) → m[i]? = some a → H a = some (.lst ws) → Reps X.K H m xs ws → Rep X.K H m dy y → Ok X.K T H m st → o (.ref i) dy st = some q → DenO X.K T H m (some q) Q → ∃ f2 : V → List V → Hp → VK → Prop, MtR X id f2 ∧ f2 (.ref a) [y] H Q)
    (hn : ∀ dx dy st q, o dx dy st = some q → ∃ i xs, dx = .ref i ∧ lstOf st dx = some xs) : MtR X id (rM1 X.K T o) := by
  intro pins s σ H x xs v us Q I rx rs hh
  obtain ⟨dx, dy, st, m, y, rfl, r1, r2, ok, q3⟩ := hh
  cases ho : o dx dy st with
  | none => rw [ho] at q3; exact False.elim q3
  | some q =>
    rw [ho] at q3
    obtain ⟨i, zs, rfl, hz⟩ := hn _ _ _ _ ho
    have hg := lst_get hz
    obtain ⟨a, hm, rfl⟩ := r1
    obtain ⟨a', ws, h1, h2, h3⟩ := ok.lst hg
    rw [hm] at h1; cases h1
    obtain ⟨f2, k1, k2⟩ := h i dy st m H a y ws zs q Q hg hm h2 h3 r2 ok ho q3
    exact k1 pins s σ H _ _ v us Q I rx rs k2
theorem deno_set {K : PySem.W.Frag} {H : Hp} {m : List Addr} {d : D} {st : Sto} {Q : VK} {v : V} {i : Nat} {a : Addr} {xs ds : List D} {ws vs : List V} (h : DenO K T H m (some (d, st.set i (Cell.lst ds))) Q) (ok : Ok K T H m st) (hi : st[i]? = some (.lst xs)) (hm : m[i]? = some a) (ha : H a = some (.lst ws))
    (r : Reps K H m ds vs) (rv : Rep K H m d v) : Q v (upd H a (.lst vs)) := h v _ m (Le.set ha) (.refl m) (ok.setCell hi hm ha r) (rv.mono (Le.set ha) (.refl m))
theorem lstOf_ref {st : Sto} {i : Nat} {xs : List D} (h : st[i]? = some (Cell.lst xs)) : lstOf st (.ref i) = some xs := by
  simp only [lstOf, h]
theorem mte_app : MtR X "list.append" (rM1 X.K T oApp) := mt_of (fun i dy st m H a y ws xs q Q hi hm ha hr ry ok ho hq => by
    simp only [oApp, lstOf_ref hi] at ho
    split at ho
    · rename_i hl
      cases ho
      exact ⟨_, mt_append, a, ws, y, rfl, rfl, ha, by rw [← Reps.length hr]; exact lim_lt (Nat.le_of_lt hl), deno_set hq ok hi hm ha (hr.append (Reps.one ry)) rfl⟩
    · cases ho) fun dx dy st q ho => by
  cases dx with
  | ref i =>
    cases h : lstOf st (.ref i) with
    | none => simp only [oApp, h] at ho; cases ho
    | some xs => exact ⟨i, xs, rfl, rfl⟩
  | non | bl _ | int _ | str _ | tup _ => cases ho
theorem mte_ext : MtR X "list.extend" (rM1 X.K T oExt) := mt_of (fun i dy st m H a y ws xs q Q hi hm ha hr ry ok ho hq => by
    cases dy with
    | ref j =>
      simp only [oExt, lstOf_ref hi] at ho
      split at ho
      · rename_i xs' ys h1 h2
        cases h1
        split at ho
        · rename_i hl
          cases ho
          obtain ⟨b, hb, rfl⟩ := ry
          obtain ⟨b', zs, g1, g2, g3⟩ := lst_of ok h2
          rw [hb] at g1; cases g1
          exact ⟨_, mt_extend, a, b, ws, zs, rfl, rfl, ha, g2, by rw [← Reps.length hr, ← Reps.length g3]; exact lim_le (Nat.le_of_lt hl), deno_set hq ok hi hm ha (hr.append g3) rfl⟩
        · cases ho
      · cases ho
    | non | bl _ | int _ | str _ | tup _ => cases ho) fun dx dy st q ho => by
  cases dx with
  | ref i =>
    cases h : lstOf st (.ref i) with
    | none => cases dy <;> simp only [oExt, h] at ho <;> cases ho
    | some xs => exact ⟨i, xs, rfl, rfl⟩
  | non | bl _ | int _ | str _ | tup _ => cases dy <;> cases ho
theorem mte_popAt : MtR X "list.pop" (rM1 X.K T oPopAt) := mt_of (fun i dy st m H a y ws xs q Q hi hm ha hr ry ok ho hq => by
    cases dy with
    | int n =>
      simp only [oPopAt, lstOf_ref hi] at ho
      split at ho
      · rename_i hl
        cases hk : ixN xs.length n with
        | none => simp only [hk] at ho; cases ho
        | some k =>
          simp only [hk] at ho
          cases hd : xs[k]? with
          | none => simp only [hd] at ho; cases ho
          | some d =>
            simp only [hd] at ho
            cases ho
            cases ry
            obtain ⟨e1, e2, e3, e4⟩ := ixN_seq hk
            obtain ⟨u, g1, g2⟩ := hr.get hd
            have lr := Reps.length hr
            have hl : xs.length ≤ 100000 := hl
            exact ⟨_, mt_popAt, a, ws, n, k, u, rfl, rfl, ha, by omega, by omega, by rw [← lr]; exact e1, g1, deno_set hq ok hi hm ha (hr.erase k) g2⟩
      · cases ho
    | non | bl _ | ref _ | str _ | tup _ => cases ho) fun dx dy st q ho => by
  cases dx with
  | ref i =>
    cases h : lstOf st (.ref i) with
    | none => cases dy <;> simp only [oPopAt, h] at ho <;> cases ho
    | some xs => exact ⟨i, xs, rfl, rfl⟩
  | non | bl _ | int _ | str _ | tup _ => cases dy <;> cases ho
theorem mte_pop : MtR X "list.pop" (rM0 X.K T oPop) := by
  intro pins s σ H x xs v us Q I rx rs hh
  obtain ⟨dx, st, m, rfl, r1, ok, q3⟩ := hh
  cases dx with
  | ref i =>
    cases h : lstOf st (.ref i) with
    | none => simp only [oPop, h] at q3; exact False.elim q3
    | some zs =>
      simp only [oPop, h] at q3
      cases hd : zs[zs.length - 1]? with
      | none => simp only [hd] at q3; exact False.elim q3
      | some d =>
        simp only [hd] at q3
        have hg := lst_get h
        obtain ⟨a, hm, rfl⟩ := r1
        obtain ⟨a', ws, h1, h2, h3⟩ := ok.lst hg
        rw [hm] at h1; cases h1
        obtain ⟨u, g1, g2⟩ := h3.get hd
        exact mt_pop pins s σ H _ _ v us Q I rx rs ⟨a, ws, u, rfl, rfl, h2, by rw [← Reps.length h3]; exact g1, deno_set q3 ok hg hm h2 h3.dropLast g2⟩
  | non | bl _ | int _ | str _ | tup _ => exact False.elim q3
theorem j_append (ha : J X T W a fa) (hb : J X T W b fb)
    (hbase : attributeBase a "append" X.env (eval a X.env) = eval a X.env := by rfl)
    (hfew : ((backTo cpos (starEach (b :: []) X.env)).all (fun x => !x.1) && (backToKw cpos (keywordEach [] X.env)).all (fun x => x.1.isSome) && decide ((b :: ([] : List Expr)).length + ([] : List Keyword).length + (if ([] : List Keyword).isEmpty = true then 0 else 1) < 30)) = true := by rfl)
    (hline : (apos.endLine == cpos.line) = true := by rfl) (he : starEach (b :: []) X.env = (false, eval b X.env) :: starEach [] X.env := by rfl) (hpl : (backTo cpos (starEach [] X.env)).any (·.1) = false := by rfl) :
    J X T W (.Call (.Attribute a "append" apos) [b] [] cpos) (eM1 oApp fa fb) := j_m1 PySem.F.slot_list_append PySem.F.type_list_append mte_app ha hb hbase hfew hline he hpl
theorem j_extend (ha : J X T W a fa) (hb : J X T W b fb)
    (hbase : attributeBase a "extend" X.env (eval a X.env) = eval a X.env := by rfl)
    (hfew : ((backTo cpos (starEach (b :: []) X.env)).all (fun x => !x.1) && (backToKw cpos (keywordEach [] X.env)).all (fun x => x.1.isSome) && decide ((b :: ([] : List Expr)).length + ([] : List Keyword).length + (if ([] : List Keyword).isEmpty = true then 0 else 1) < 30)) = true := by rfl)
    (hline : (apos.endLine == cpos.line) = true := by rfl) (he : starEach (b :: []) X.env = (false, eval b X.env) :: starEach [] X.env := by rfl) (hpl : (backTo cpos (starEach [] X.env)).any (·.1) = false := by rfl) :
    J X T W (.Call (.Attribute a "extend" apos) [b] [] cpos) (eM1 oExt fa fb) := j_m1 PySem.F.slot_list_extend PySem.F.type_list_extend mte_ext ha hb hbase hfew hline he hpl
theorem j_popAt (ha : J X T W a fa) (hb : J X T W b fb)
    (hbase : attributeBase a "pop" X.env (eval a X.env) = eval a X.env := by rfl)
    (hfew : ((backTo cpos (starEach (b :: []) X.env)).all (fun x => !x.1) && (backToKw cpos (keywordEach [] X.env)).all (fun x => x.1.isSome) && decide ((b :: ([] : List Expr)).length + ([] : List Keyword).length + (if ([] : List Keyword).isEmpty = true then 0 else 1) < 30)) = true := by rfl)
    (hline : (apos.endLine == cpos.line) = true := by rfl) (he : starEach (b :: []) X.env = (false, eval b X.env) :: starEach [] X.env := by rfl) (hpl : (backTo cpos (starEach [] X.env)).any (·.1) = false := by rfl) :
    J X T W (.Call (.Attribute a "pop" apos) [b] [] cpos) (eM1 oPopAt fa fb) := j_m1 PySem.F.slot_list_pop PySem.F.type_list_pop mte_popAt ha hb hbase hfew hline he hpl
theorem j_pop (ha : J X T W a fa) (hbase : attributeBase a "pop" X.env (eval a X.env) = eval a X.env := by rfl) (hline : (apos.endLine == cpos.line) = true := by rfl) :
    J X T W (.Call (.Attribute a "pop" apos) [] [] cpos) (eM0 oPop fa) := j_m0 PySem.F.slot_list_pop PySem.F.type_list_pop mte_pop ha hbase hline
end
end
end Mm

namespace Mm
open PySem L2
/-! ### list comprehensions -/
def wipeE (e : Env) : List Nat → Env
  | [] => e
  | v :: vs => (wipeE e vs).set v none
theorem wipe_env {K : PySem.W.Frag} {H : Hp} {m : List Addr} {s : L2.St} {e : Env} (h : EnvOk K H m s e) : ∀ vs : List Nat, EnvOk K H m (L2.wipe s vs) (wipeE e vs)
  | [] => h
  | v :: vs => by
    have ih := wipe_env h vs
    refine ⟨by simp [wipeE, L2.wipe, ih.1], fun i d q => ?_⟩
    unfold wipeE at q
    unfold L2.wipe
    by_cases hv : v = i
    · subst hv
      have hl : v < (wipeE e vs).length := by
        have := (List.getElem?_eq_some_iff.mp q).1
        simpa using this
      rw [List.getElem?_set_self hl] at q
      cases q
    · rw [List.getElem?_set_ne hv] at q ⊢
      exact ih.2 i d q
inductive RC where
  | ok (st : Sto) | no
def lcL (g : Sto → Bool) (t : TX) (c : BX) (f : EX) (n : Nat) (e0 : Env) : List D → Sto → RC
  | [], st => if g st = true then .ok st else .no
  | d :: ds, st => if g st = true then match t d e0 with
    | none => .no
    | some e1 => match c e1 st with
      | .ok true st1 => match f e1 st1 with
        | .ok y st2 => match lstOf st2 (.ref n) with
          | some acc => if acc.length < lim then lcL g t c f n e0 ds (st2.set n (Cell.lst (acc ++ [y]))) else .no
          | none => .no
        | _ => .no
      | .ok false st1 => lcL g t c f n e0 ds st1
      | _ => .no
    else .no
def eLc (own : List Nat) (src : IX) (t : TX) (c : BX) (f : EX) : EX := fun e st => match src e st with
  | .ok s st1 => match lcL s.ok t c f st1.length (wipeE e own) s.items (st1 ++ [Cell.lst []]) with
    | .ok st2 => .ok (.ref st1.length) st2
    | .no => .no
  | .ex x st1 => .ex x st1
  | .no => .no
def bYes : BX := fun _ st => .ok true st
section
variable {X : Cx} {T : List (Addr × Str)} {W : WX}
theorem den_noex {K : PySem.W.Frag} {mg : Str → Option Value} {a b : Type} {RA : Hp → List Addr → a → b → Prop} {s : L2.St} {H : Hp} {m : List Addr} {x : a} {st : Sto} {Q : b → Hp → Prop} (h : ∀ y H' m', Le H H' → Pre m m' → Ok K T H' m' st → RA H' m' x y → Q y H') : Den K T mg (fun _ _ _ _ => False) RA s H m (.ok x st) Q := h
/-- what the comprehension's block is to do, from the promise of its semantics -/
theorem lc_read {bb : Bool} {us own : List Nat} {wi : TI} {src : IX} {t : TX} {c : BX} {f : EX} {tt : TT} (hu : ∀ i ∈ us, i ∈ own) (hwi : ∀ s H Q, tI bb X.K T X.mg W src s H Q → wi s H Q)
    (htt : ∀ s H Q, tT X.K T X.mg (fun _ _ _ _ => False) c s H Q → tt s H Q) {s : L2.St} {H : Hp} {Q : VK} (h : tE X.K T X.mg W (eLc own src t c f) s H Q) :
    tLc wi (gT bb X.K T us t) tt (tE X.K T X.mg (fun _ _ _ _ => False) f) own s H Q := by
  obtain ⟨e, st, m, he, ok, h⟩ := h
  refine hwi _ _ _ ⟨e, st, m, he, ok, ?_⟩
  unfold eLc at h
  revert h
  generalize src e st = r
  intro h
  cases r with
  | no => exact h
  | ex x st1 => exact h
  | ok sr st1 =>
    intro Jw H1 m1 l p ok1 good Dn hD
    revert h
    show Den X.K T X.mg W (RD X.K) s H m (match lcL sr.ok t c f st1.length (wipeE e own) sr.items (st1 ++ [Cell.lst []]) with
      | .ok st2 => .ok (.ref st1.length) st2
      | .no => .no) Q → _
    intro h
    have ok2 : Ok X.K T (upd H1 Dn (.lst [])) (m1 ++ [Dn]) (st1 ++ [Cell.lst []]) := ok1.newCell hD rfl
    have l2 : Le H1 (upd H1 Dn (.lst [])) := Le.new hD
    have he0 := wipe_env (he.mono l p) own
    -- from any turn: the rest of the items
    let G : Sto → List D → Prop := fun st' ds => ∀ st2, lcL sr.ok t c f st1.length (wipeE e own) ds st' = .ok st2 → lcL sr.ok t c f st1.length (wipeE e own) sr.items (st1 ++ [Cell.lst []]) = .ok st2
    refine ⟨fun i n H' => ∃ st' m', n = sr.items.length - i ∧ i ≤ sr.items.length ∧ Le (upd H1 Dn (.lst [])) H' ∧ Pre (m1 ++ [Dn]) m' ∧ Ok X.K T H' m' st' ∧ lcL sr.ok t c f st1.length (wipeE e own) (sr.items.drop i) st' ≠ .no ∧ G st' (sr.items.drop i),
      ⟨sr.items.length, st1 ++ [Cell.lst []], m1 ++ [Dn], by simp, Nat.zero_le _, .refl _, .refl _, ok2, fun z => ?_, fun st2 z => by simpa using z⟩, ?_⟩
    · rw [List.drop_zero] at z
      rw [z] at h
      exact h
    · rintro i n H' ⟨st', m', rfl, hle, l3, p3, ok3, hne, hG⟩
      by_cases hlt : i < sr.items.length
      · rw [List.drop_eq_getElem_cons hlt] at hne
        have hG : ∀ st2, lcL sr.ok t c f st1.length (wipeE e own) (sr.items[i] :: sr.items.drop (i + 1)) st' = .ok st2 → lcL sr.ok t c f st1.length (wipeE e own) sr.items (st1 ++ [Cell.lst []]) = .ok st2 := by
          rw [← List.drop_eq_getElem_cons hlt]; exact hG
        rw [lcL] at hne hG
        by_cases hg : sr.ok st' = true
        · rw [if_pos hg] at hne hG
          have p1m : Pre m1 m' := (Pre.add m1 Dn).trans p3
          obtain ⟨gg, gs, gy⟩ := good H' m' st' (l2.trans l3) p1m ok3 hg
          refine .inr ⟨gg i hlt, fun H2 => ∃ st2 m2, Le (upd H1 Dn (.lst [])) H2 ∧ Pre (m1 ++ [Dn]) m2 ∧ Ok X.K T H2 m2 st2 ∧ lcL sr.ok t c f st1.length (wipeE e own) (sr.items.drop (i + 1)) st2 ≠ .no ∧ G st2 (sr.items.drop (i + 1)),
            fun H2 ⟨st2, m2, a1, a2, a3, a4, a5⟩ => ⟨sr.items.length - (i + 1), by omega, st2, m2, rfl, hlt, a1, a2, a3, a4, a5⟩, fun x H2 hy => ?_⟩
          obtain ⟨l4, ok4, d, hd, rx⟩ := gy i x H2 hlt hy
          rw [List.getElem?_eq_getElem hlt] at hd
          cases hd
          cases ht : t sr.items[i] (wipeE e own) with
          | none => rw [ht] at hne; exact absurd rfl hne
          | some e1 =>
            rw [ht] at hne hG
            dsimp only at hne hG
            have l34 := l3.trans l4
            refine ⟨_, wipeE e own, st', m', rx, (he0.mono (l2.trans l34) p1m), ok4, e1, ht, fun s' he' bt => ⟨?_, ?_⟩⟩
            · rw [bt.wipe hu]
              exact But.wipe (ts := own) ⟨by rw [L2.wipe_length], fun j hj => L2.wipe_out hj⟩ fun i hi => hi
            · refine htt _ _ _ ⟨e1, st', m', he', ok4, ?_⟩
              cases hc : c e1 st' with
              | no => rw [hc] at hne; exact absurd rfl hne
              | ex _ _ => rw [hc] at hne; exact absurd rfl hne
              | ok k st2 =>
                rw [hc] at hne hG
                refine den_noex fun y H3 m3 l5 p5 ok5 r5 => ?_
                cases r5
                cases k with
                | false =>
                  rw [if_neg Bool.false_ne_true]
                  exact ⟨st2, m3, l34.trans l5, p3.trans p5, ok5, hne, hG⟩
                | true =>
                  rw [if_pos rfl]
                  dsimp only at hne hG
                  refine ⟨e1, st2, m3, he'.mono l5 p5, ok5, ?_⟩
                  cases hf : f e1 st2 with
                  | no => rw [hf] at hne; exact absurd rfl hne
                  | ex _ _ => rw [hf] at hne; exact absurd rfl hne
                  | ok y st3 =>
                    rw [hf] at hne hG
                    dsimp only at hne hG
                    refine den_noex fun yv H4 m4 l6 p6 ok6 r6 => ?_
                    cases hl : lstOf st3 (.ref st1.length) with
                    | none => rw [hl] at hne; exact absurd rfl hne
                    | some acc =>
                      rw [hl] at hne hG
                      dsimp only at hne hG
                      have pD : Pre (m1 ++ [Dn]) m4 := (p3.trans p5).trans p6
                      have hmD : m4[st1.length]? = some Dn := pD.get (by rw [← ok1.len]; simp)
                      have hst := lst_get hl
                      obtain ⟨a', ws, q1, q2, q3⟩ := ok6.lst hst
                      rw [hmD] at q1; cases q1
                      by_cases hz : acc.length < lim
                      · rw [if_pos hz] at hne hG
                        exact ⟨ws, q2, by rw [← Reps.length q3]; exact lim_lt (Nat.le_of_lt hz), st3.set st1.length (Cell.lst (acc ++ [y])), m4, ((l34.trans l5).trans l6).trans (Le.set q2), pD, ok6.setCell hst hmD q2 (q3.append (Reps.one r6)), hne, hG⟩
                      · rw [if_neg hz] at hne
                        exact absurd rfl hne
        · rw [if_neg hg] at hne
          exact absurd rfl hne
      · have e0 : i = sr.items.length := by omega
        subst e0
        rw [List.drop_length] at hne
        have hG : ∀ st2, lcL sr.ok t c f st1.length (wipeE e own) [] st' = .ok st2 → lcL sr.ok t c f st1.length (wipeE e own) sr.items (st1 ++ [Cell.lst []]) = .ok st2 := by
          have := hG
          rw [List.drop_length] at this
          exact this
        rw [lcL] at hne hG
        by_cases hg : sr.ok st' = true
        · rw [if_pos hg] at hne hG
          have p1m : Pre m1 m' := (Pre.add m1 Dn).trans p3
          obtain ⟨gg, gs, gy⟩ := good H' m' st' (l2.trans l3) p1m ok3 hg
          refine .inl ⟨gs, ?_⟩
          rw [hG st' rfl] at h
          exact h _ H' m' (l.trans (l2.trans l3)) (p.trans p1m) ok3 ⟨Dn, p3.get (by rw [← ok1.len]; simp), rfl⟩
        · rw [if_neg hg] at hne
          exact absurd rfl hne
variable {elt tg iter : Expr} {ifs : List Expr} {scope : Scope} {own : List (Str × Nat)} {pos : Pos} {us : List Nat} {src : IX} {t : TX} {c : BX} {f : EX} {tt : TT}
/-- [elt for tg in iter] -/
theorem j_lc0 {bb : Bool} (hc : X.calm = true) (hN : X.N.Nodup) (hi : JI bb X T W tg iter src) (ok : BlkOk X.N X.env.scope scope own) (hu : ∀ i ∈ us, i ∈ own.map (·.2))
    (hg : ∀ (s : Shared) (H : Hp) (C : Addr) (cl : List (Str × Addr)) (fp : List Addr), JG bb (X.blk s H scope (compEnvC scope cl C X.env) fp) T us tg t)
    (he : ∀ (s : Shared) (H : Hp) (C : Addr) (cl : List (Str × Addr)) (fp : List Addr), J (X.blk s H scope (compEnvC scope cl C X.env) fp) T (fun _ _ _ _ => False) elt f)
    (hs : ∀ x, foldedSetIterable iter X.env x = pure x := by intro _; rfl) : J X T W (.ListComp elt [⟨tg, iter, [], 0⟩] scope pos) (eLc (own.map (·.2)) src t bYes f) :=
  pe_weak (pe_lc hc hN hi ok hg (fun s H C cl fp => pts_nil) he hs) fun s H Q => lc_read hu (fun _ _ _ h => h) fun s H Q ⟨e, st, m, he, ok, h⟩ => h true H m (.refl H) (.refl m) ok rfl
/-- [elt for tg in iter if cond] -/
theorem j_lc1 {bb : Bool} {cd : Expr} (hc : X.calm = true) (hN : X.N.Nodup) (hi : JI bb X T W tg iter src) (ok : BlkOk X.N X.env.scope scope own) (hu : ∀ i ∈ us, i ∈ own.map (·.2))
    (hg : ∀ (s : Shared) (H : Hp) (C : Addr) (cl : List (Str × Addr)) (fp : List Addr), JG bb (X.blk s H scope (compEnvC scope cl C X.env) fp) T us tg t)
    (ht : ∀ (s : Shared) (H : Hp) (C : Addr) (cl : List (Str × Addr)) (fp : List Addr), JT (X.blk s H scope (compEnvC scope cl C X.env) fp) T (fun _ _ _ _ => False) cd c)
    (he : ∀ (s : Shared) (H : Hp) (C : Addr) (cl : List (Str × Addr)) (fp : List Addr), J (X.blk s H scope (compEnvC scope cl C X.env) fp) T (fun _ _ _ _ => False) elt f)
    (hs : ∀ x, foldedSetIterable iter X.env x = pure x := by intro _; rfl) : J X T W (.ListComp elt [⟨tg, iter, [cd], 0⟩] scope pos) (eLc (own.map (·.2)) src t c f) :=
  pe_weak (pe_lc hc hN hi ok hg (fun s H C cl fp => pts_one (ht s H C cl fp)) he hs) fun s H Q => lc_read hu (fun _ _ _ h => h) fun _ _ _ h => h
/-- y = [elt for tg in iter ..], a statement of its own -/
theorem setlc_read {bb : Bool} {us own : List Nat} {wi : TI} {src : IX} {t : TX} {c : BX} {f : EX} {tt : TT} {i : Nat} (hu : ∀ i ∈ us, i ∈ own) (hwi : ∀ s H Q, tI bb X.K T X.mg W src s H Q → wi s H Q)
    (htt : ∀ s H Q, tT X.K T X.mg (fun _ _ _ _ => False) c s H Q → tt s H Q) {F : Ends} {s : L2.St} {H : Hp} (h : tS X.K T X.mg W (sSet i (eLc own src t c f)) F s H) :
    tAsg (tLc wi (gT bb X.K T us t) tt (tE X.K T X.mg (fun _ _ _ _ => False) f) own) (gName i) F s H := by
  obtain ⟨e, st, m, he, ok, h⟩ := h
  refine lc_read hu hwi htt ⟨e, st, m, he, ok, st_of he h fun x y st1 H1 m1 _ l p ok1 rx h1 => ?_⟩
  exact h1 _ H1 m1 (.refl H1) (.refl m1) ok1 ((he.mono l p).set i rx)
theorem js_setLc0 {i : Nat} {y : Str} {py spos : Pos} (hc : X.calm = true) (hN : X.N.Nodup) (hy : X.N[i]? = some y) (hyl : X.env.scope.names.lookup y = some .local)
    (hsw : swapsWith (.ListComp elt [⟨tg, iter, [], 0⟩] scope pos) (some (.Name y py)) spos.line X.env = pure true) (hi : JI bb X T W tg iter src) (ok : BlkOk X.N X.env.scope scope own) (hu : ∀ i ∈ us, i ∈ own.map (·.2))
    (hg : ∀ (s : Shared) (H : Hp) (C : Addr) (cl : List (Str × Addr)) (fp : List Addr), JG bb (X.blk s H scope (compEnvC scope cl C X.env) fp) T us tg t)
    (he : ∀ (s : Shared) (H : Hp) (C : Addr) (cl : List (Str × Addr)) (fp : List Addr), J (X.blk s H scope (compEnvC scope cl C X.env) fp) T (fun _ _ _ _ => False) elt f)
    (hs : ∀ x, foldedSetIterable iter X.env x = pure x := by intro _; rfl) : JS X T W (.Assign [.Name y py] (.ListComp elt [⟨tg, iter, [], 0⟩] scope pos) spos) (sSet i (eLc (own.map (·.2)) src t bYes f)) :=
  ps_weak (ps_setLc hc hN hy hyl hsw hi ok hg (fun s H C cl fp => pts_nil) he hs) fun F s H => setlc_read hu (fun _ _ _ h => h) fun s H Q ⟨e, st, m, he, ok, h⟩ => h true H m (.refl H) (.refl m) ok rfl
theorem js_setLc1 {i : Nat} {y : Str} {py spos : Pos} {cd : Expr} (hc : X.calm = true) (hN : X.N.Nodup) (hy : X.N[i]? = some y) (hyl : X.env.scope.names.lookup y = some .local)
    (hsw : swapsWith (.ListComp elt [⟨tg, iter, [cd], 0⟩] scope pos) (some (.Name y py)) spos.line X.env = pure true) (hi : JI bb X T W tg iter src) (ok : BlkOk X.N X.env.scope scope own) (hu : ∀ i ∈ us, i ∈ own.map (·.2))
    (hg : ∀ (s : Shared) (H : Hp) (C : Addr) (cl : List (Str × Addr)) (fp : List Addr), JG bb (X.blk s H scope (compEnvC scope cl C X.env) fp) T us tg t)
    (ht : ∀ (s : Shared) (H : Hp) (C : Addr) (cl : List (Str × Addr)) (fp : List Addr), JT (X.blk s H scope (compEnvC scope cl C X.env) fp) T (fun _ _ _ _ => False) cd c)
    (he : ∀ (s : Shared) (H : Hp) (C : Addr) (cl : List (Str × Addr)) (fp : List Addr), J (X.blk s H scope (compEnvC scope cl C X.env) fp) T (fun _ _ _ _ => False) elt f)
    (hs : ∀ x, foldedSetIterable iter X.env x = pure x := by intro _; rfl) : JS X T W (.Assign [.Name y py] (.ListComp elt [⟨tg, iter, [cd], 0⟩] scope pos) spos) (sSet i (eLc (own.map (·.2)) src t c f)) :=
  ps_weak (ps_setLc hc hN hy hyl hsw hi ok hg (fun s H C cl fp => pts_one (ht s H C cl fp)) he hs) fun F s H => setlc_read hu (fun _ _ _ h => h) fun _ _ _ h => h
end
/-! ### the law's end -/
section
open PySem.Spec PyProof.Rows
variable {P : Program} {w : World} {K : PySem.W.Frag} {mg mb : Str → Option Value} {k : Nat} {fa a : Addr} {fd : FuncData} {x : Str} {g : List D → Sto → R D} {s1 : Shared} {vs : List Value} {ns : List Int}
/-- the promise of the law's def, at the heap behind the top -/
theorem law_callG (KX : K.In s1.heap) (hns : s1.heap.Ns mainGlobals mg) (hb : s1.heap.Ns builtinsNs mb) (hbb : ∀ x : Str, x ≠ "__name__" → mb x = bootBuiltins x) (hlim : s1.heap.NoLimit) (hg : s1.gens = #[])
    (ha : s1.heap.get? a = some { cls := .type "list", data := .seq vs.toArray }) (hi : IntsAre vs ns) (hl : ns.length ≤ sizeLine) (hr : Room k callerA)
    (F : ∀ base : Heap, K.In base → base.Ns mainGlobals mg → FnG P w K mg base (L2.CX P w) k fa fd [x] (SpG K [] mg 1 g)) (hbind : ∀ (s : Shared) (u : Value), BindsTo s fd ⟨[u], []⟩ [(x, u)])
    (hlaw : ∃ st', g [.ref 0] [.ro (ns.map D.int)] = .ok (.bl true) st') :
    codeAny (model P w) callerA (.call (.ref fa) ⟨[.ref a], []⟩) (fun r s' => r = .ok (.ret (.bool true)) ∧ OldK s1.heap s'.heap ∧ s'.os = s1.os ∧ AllBare s'.gens) s1 := by
  -- one heap H in which at most the script is tracked (known, never written)
  obtain ⟨H, hO, hS, hok, hA, hK⟩ : ∃ H : Hp, Only H ∧ (∀ H', Le H H' → SqL K H' a (ns.map V.int)) ∧ HOk P w H s1.heap ∧ (∀ b, H b ≠ none → b = a) ∧ (H a ≠ none → K.lookup a = none) := by
    have rv := vals_ints hi
    cases hk : K.lookup a with
    | some o =>
      have e := KX a o hk
      rw [ha] at e
      cases e
      refine ⟨fun _ => none, fun _ => .inl rfl, fun H' _ => .inr ⟨_, vs.toArray, _, hk, rfl, rfl, rfl, ?_, ?_⟩, fun b u z => ?_, fun b z => absurd rfl z, fun z => absurd rfl z⟩
      · rw [List.size_toArray, hi.length]; exact hl
      · simpa using rv
      · have z' : (none : Option HO) = some u := z
        cases z'
    | none =>
      let u : HO := .frz { cls := .type "list", data := .seq vs.toArray } (.lst (ns.map V.int))
      have at_a : (fun b => if b = a then some u else none) a = some u := if_pos rfl
      refine ⟨fun b => if b = a then some u else none, fun b => ?_, fun H' le => .inl (.inr ⟨_, le.frz a _ _ at_a⟩), fun b o z => ?_, fun b z => ?_, fun _ => rfl⟩
      · by_cases hb : b = a
        · exact .inr ⟨_, _, if_pos hb⟩
        · exact .inl (if_neg hb)
      · by_cases hb : b = a
        · have z' := (if_pos hb).symm.trans z
          cases z'
          subst hb
          exact ⟨ha, by rw [List.length_map]; exact hl, vs, _, rv, ha⟩
        · have z' := (if_neg hb).symm.trans z
          cases z'
      · by_cases hb : b = a
        · exact hb
        · exact absurd (if_neg hb) z
  have same : ∀ {b : Addr} {o : Obj}, s1.heap.get? b = some o → H b = none → (hidT s1.heap H).get? b = some o := fun e n => hidT_get e n
  have nodict : ∀ {b : Addr} {o : Obj} {es : Array DictEntry} {ep : Nat}, s1.heap.get? b = some o → o.data = .dict es ep → H b = none := fun {b o es ep} e d => by
    cases q : H b with
    | none => rfl
    | some u =>
      have e' : b = a := hA b (by rw [q]; simp)
      subst e'
      rw [ha] at e; cases e
      have d' : Data.seq vs.toArray _ = Data.dict es ep := d
      cases d'
  have keepNs : ∀ {b : Addr} {m : Str → Option Value}, s1.heap.Ns b m → (hidT s1.heap H).Ns b m := fun {b m} ⟨o, es, ep, e, d, r⟩ => ⟨o, es, ep, same e (nodict e d), d, r⟩
  have hKb : K.In (hidT s1.heap H) := fun b o e => same (KX b o e) (by
    cases q : H b with
    | none => rfl
    | some u =>
      have e' : b = a := hA b (by rw [q]; simp)
      subst e'
      rw [hK (by rw [q]; simp)] at e; cases e)
  have hM : Mod K mg (hidT s1.heap H) := ⟨hKb, keepNs hns, ⟨mb, keepNs hb, hbb⟩, let ⟨mc, h1, h2⟩ := hlim; ⟨mc, keepNs h1, h2⟩⟩
  have e0 : Env0 P w K mg (hidT s1.heap H) callerA [] s1 H := ⟨rfl, hM, fun b o e => of_hidT e, Nat.le_of_eq (hidT_size _ _), trivial, fun b hb => absurd (show b ∈ ([] : List Addr) from hb) (by simp), hok, .of_eq hg⟩
  have hsp : SpG K [] mg 1 g [.ref a] H (fun v _ => v = .bl true) fun _ _ _ => False := by
    refine ⟨rfl, [.ref 0], [.ro (ns.map D.int)], [a], ⟨_, [], rfl, ⟨a, rfl, rfl⟩, rfl⟩, ⟨rfl, fun i j b xs ys h1 h2 h3 h4 => ?_, fun i c hc => ?_, fun p hp => absurd hp (by simp)⟩, ?_⟩
    · match i, h3 with
      | 0, h3 => cases h3
      | i + 1, h3 => simp at h3
    · match i, hc with
      | 0, hc => cases hc; exact ⟨a, rfl, ns.map V.int, hS, Reps.of_ints ns⟩
      | i + 1, hc => simp at hc
    · obtain ⟨st', e⟩ := hlaw
      show Den K [] mg _ (RD K) [] H [a] (g [.ref 0] [.ro (ns.map D.int)]) _
      rw [e]
      exact fun y H' m' _ _ _ r => r
  refine codeAny_mono ((F _ hKb (keepNs hns)).run callerA [] s1 H ⟨[.ref a], []⟩ [.ref a] [.ref a] _ _ rfl hr e0 (hbind s1 (.ref a)) (.cons rfl .nil) hsp) fun r s' h => ?_
  cases r with
  | error e =>
    obtain ⟨_, _, _, _, _, _, _, _, _, _, _, _, z⟩ := (show L2.CX P w [] H s1 (fun _ _ _ => False) e s' from h)
    exact z.elim
  | ok fl =>
    cases fl with
    | next => exact False.elim h
    | brk => exact False.elim h
    | cont => exact False.elim h
    | ret u =>
      obtain ⟨v, H', os, bare, un, hok', r', q⟩ := h
      have q' : v = .bl true := q
      subst q'
      obtain rfl : u = Value.bool true := r'
      refine ⟨rfl, OldK.of_keep fun b o e => ?_, os, bare⟩
      cases q : H b with
      | none => exact un.keep b o e q (fun z => absurd (show b ∈ ([] : List Addr) from z) (by simp)) (by simp)
      | some u =>
        rcases hO b with z | ⟨ob, xs, z⟩
        · rw [q] at z; cases z
        · obtain ⟨e1, _⟩ := hok b _ z
          obtain ⟨e2, _⟩ := hok' b _ (un.frzs b ob _ z)
          rw [e] at e1; cases e1
          exact e2
/-- what k_head leaves of a law -/
theorem walk_ofG {l : PySem.W.OpenLaw} {n k : Nat} {q : Program} {loose : List Str} {XP : (Str → Option Value) → Heap → Prop} {YP : World → Heap → Prop} {d : DefRec} {K : Params → PySem.W.Frag} {g : List D → Sto → R D} {x : Str}
    (hn : l.most = some n) (hn2 : n ≤ sizeLine) (hdf : d.params.defaults = []) (hr : Room k callerA) (hY : ∀ (w : World) (h : Heap), YP w h → (K w.params).In h)
    (F : ∀ (w : World) (mg : Str → Option Value) (fa : Addr) (h : Heap), (K w.params).In h → h.Ns mainGlobals mg → mg d.name = some (.ref fa) →
      ∃ fd : FuncData, (∀ (s : Shared) (u : Value), BindsTo s fd ⟨[u], []⟩ [(x, u)]) ∧
        ∀ base : Heap, (K w.params).In base → base.Ns mainGlobals mg → FnG l.prog w (K w.params) mg base (L2.CX l.prog w) k fa fd [x] (SpG (K w.params) [] mg 1 g))
    (hlaw : ∀ ns : List Int, ns.length ≤ n → ∃ st', g [.ref 0] [.ro (ns.map D.int)] = .ok (.bl true) st') :
    PySem.W.WalkO q loose XP YP l.row.toRowW d [] (fun f vs => PySem.call f vs) := by
  refine Att.attach_call hn hdf fun w s0 s1 mg mb fa o pm cd doc a vs ns G Y ho hd hcd hmg hobj hints hlen hg => ?_
  have KX := hY w _ Y
  obtain ⟨fd, hb, hF⟩ := F w mg fa _ KX G.T.g hmg
  exact law_callG KX G.T.g G.T.b G.T.builtins G.T.nolimit hg hobj hints (Nat.le_trans hlen hn2) hr hF hb (hlaw ns hlen)
end
end Mm

namespace Mm
open PySem L2
section
open PySem PyProof.Rows AutoSeq1
/-- enumerate(t), t a tuple -/
theorem meets_enum_tup (l : Addr) (items : Array Value) (n : Nat) (dct : Option Addr) (sl : Array (Option Value)) :
    Meets (Builtin.«enumerate.__new__» ⟨[.type "enumerate", .ref l], []⟩) (fun _ R s => s.heap.get? l = some { cls := .type "tuple", dict := dct, data := .seq items n, slots := sl } ∧
      R (.ok (.ret (.ref (s.heap.push { cls := .type "tuple_iterator", data := .fields #[.ref l, .int 0 0] }).objs.size)))
        { s with heap := (s.heap.push { cls := .type "tuple_iterator", data := .fields #[.ref l, .int 0 0] }).push { cls := .type "enumerate", data := .fields #[.none, .bool false, .ref s.heap.objs.size, rawInt 0, .none, .none] } }) :=
  .of_wp fun prog w A R s h => by
    obtain ⟨hp, g, d, tk, os⟩ := s
    obtain ⟨hl, h⟩ := h
    have hsub := sub_enumerate
    have hT : Heap.IsTuple (Shared.heap ⟨hp, g, d, tk, os⟩) l items := ⟨_, hl, rfl, n, rfl⟩
    wp_walk using wpAny_loadPart' hl
    refine wpAny_stack_any fun st => wpAny_pure ?_
    split
    · rename_i c _ _ _ _ _
      cases (c == Value.type "enumerate")
      · wp_walk using wpAny_loadPart' hl, wpAny_pyIter_tuple hT
        exact ⟨_, rfl, h⟩
      · wp_walk using wpAny_loadPart' hl, wpAny_pyIter_tuple hT
        exact ⟨_, rfl, h⟩
    · wp_walk using wpAny_loadPart' hl, wpAny_pyIter_tuple hT
      exact ⟨_, rfl, h⟩
variable {prog : Program} {w : World} {A : Around} {E : Value → Shared → Prop} {s : Shared}
theorem call_enum_tup {l : Addr} {items : Array Value} {Q : Value → Shared → Prop} (hL : s.heap.IsTuple l items)
    (h : ∀ h', IsEnum h' (s.heap.objs.size + 1) s.heap.objs.size 0 .none → h'.IsTupleIter s.heap.objs.size l 0 → h'.objs.size = s.heap.objs.size + 2 →
      (∀ b o, s.heap.get? b = some o → h'.get? b = some o) → Q (.ref (s.heap.objs.size + 1)) { s with heap := h' }) :
    wpAny (model prog w) A (call (.type "enumerate") [.ref l]) Q E s := by
  obtain ⟨⟨c, dct, dt, sl⟩, hl, hc, n, hd⟩ := hL
  simp only at hc hd
  subst hc hd
  refine callType_new F.called_enumerate (by decide) (F.typeCall_enumerate_1 _) (F.newCall_enumerate_1 _) (fun obj => F.args_object_init_2 obj _) F.entry_enumerate_new
    (meets_enum_tup l items n dct sl) ⟨hl, ?_⟩
  have hz : (s.heap.push { cls := .type "tuple_iterator", data := .fields #[.ref l, .int 0 0] }).objs.size = s.heap.objs.size + 1 := Heap.size_push ..
  show _ ∧ _
  rw [hz]
  have he : IsEnum ((s.heap.push { cls := .type "tuple_iterator", data := .fields #[.ref l, .int 0 0] }).push
      { cls := .type "enumerate", data := .fields #[.none, .bool false, .ref s.heap.objs.size, rawInt 0, .none, .none] }) (s.heap.objs.size + 1) s.heap.objs.size 0 .none := by
    have := Heap.get?_push_size (s.heap.push { cls := .type "tuple_iterator", data := .fields #[.ref l, .int 0 0] })
      (o := { cls := .type "enumerate", data := .fields #[.none, .bool false, .ref s.heap.objs.size, rawInt 0, .none, .none] }) rfl
    rw [hz] at this; exact this
  exact ⟨⟨_, he, rfl⟩, h _ he ⟨_, Heap.get?_push_of_some _ (Heap.get?_push_size _ rfl), rfl, rfl⟩ (by rw [Heap.size_push, hz]) fun b o x => Heap.get?_push_of_some _ (Heap.get?_push_of_some _ x)⟩
end
/-- the tuple at a, each item in a new pair behind its place -/
def Itu (K : PySem.W.Frag) (a : Addr) : It :=
  ⟨fun i H => ∃ (xs : List V) (x : V), SqT K H a xs ∧ xs[i]? = some x, fun i H v H' => ∃ p x, v = .ref p ∧ H p = none ∧ H' = upd H p (.tup [.int (i : Nat), x]) ∧ ∀ xs, SqT K H a xs → xs[i]? = some x, fun i H => ∃ xs : List V, SqT K H a xs ∧ xs.length = i⟩
section
open PyProof.Rows
theorem turn_enum_tup {P : Program} {w : World} {K : PySem.W.Frag} {elts : List Expr} {kk : Nat} {tpos : Pos} (a e it : Addr) :
    Turn P w K (.Tuple elts kk tpos) (Itu K a) [e, it] e (fun i h => (∃ old, IsEnum h e it ((i : Nat) : Int) old) ∧ h.IsTupleIter it a i ∧ e ≠ it ∧ a ≠ it ∧ a ≠ e) where
  mem := by simp
  obj := fun i h st b hb => by
    obtain ⟨⟨old, he⟩, ⟨o, ho, hc, hd⟩, _⟩ := st
    have e' : b = e ∨ b = it := by simpa using hb
    rcases e' with z | z
    · rw [z]; exact ⟨_, he, fun v q => nomatch q⟩
    · rw [z]; exact ⟨o, ho, fun v q => by rw [hd] at q; cases q⟩
  keep := fun i h h' st k => let ⟨⟨old, he⟩, hi, hne⟩ := st; ⟨⟨old, k e (by simp) _ he⟩, hi.at fun o q => k it (by simp) o q, hne⟩
  item := by
    intro X hP hw hK hc i pins s σ H E I hf st hg
    subst hP hw hK
    obtain ⟨⟨old, he⟩, hit, hne, hai, hae⟩ := st
    obtain ⟨xs, x, hq, hx⟩ := hg
    obtain ⟨its, rv, p, hz⟩ := I.tuple hq
    obtain ⟨u, hu, ru⟩ := rv.get hx
    have hlt : i < its.toArray.size := by
      have := (List.getElem?_eq_some_iff.mp hu).1
      simpa using this
    have D := Draws.tuple (prog := X.prog) (w := X.w) (A := X.A.in1) (I.ok.hd hc) it a hai its.toArray
    have hel : e < s.heap.objs.size := Heap.lt_size he
    have hil : it < s.heap.objs.size := by obtain ⟨_, q, _⟩ := hit; exact Heap.lt_size q
    refine wpAny_pyNext_enum_itemD D he ⟨hit, p⟩ hlt hne (by simp [hne, Ne.symm hae]) fun y h' tk hy ho hs' hT hsz hk => ?_
    have hyu : y = u := by
      have hy : its.toArray[i]? = some y := hy
      have hu' : its.toArray[i]? = some u := by simpa using hu
      rw [hu'] at hy; cases hy; rfl
    subst hyu
    refine ⟨_, rfl, wpAny_letOwnedTupleGo_enum (s := { s with heap := h', toks := tk + 1 }) ho fun h'' he' sb => ?_⟩
    have hT2 : h''.get? s.heap.objs.size = some { cls := .type "tuple", data := .seq #[.int i tk, y] } := (sb.2 _ (Nat.ne_of_gt hel)).trans hT
    have new : ObjOk X.prog X.w (upd H s.heap.objs.size (.tup [.int (i : Nat), x])) h'' s.heap.objs.size (.tup [.int (i : Nat), x]) :=
      ⟨by show 2 ≤ sizeLine; decide, [.int i tk, y], .cons ⟨_, rfl⟩ (.cons ru .nil), ⟨_, hT2, rfl, _, rfl⟩⟩
    have I1 : Inv X pins σ (upd H s.heap.objs.size (.tup [.int (i : Nat), x])) { s with heap := h'', toks := tk + 1 } :=
      I.turnedNew (ch := [e, it]) (fun b ob hb q => (sb.2 b (fun z => hb (by simp [z]))).trans (hk b ob (fun z => hb (by simp [z])) (fun z => hb (by simp [z])) q)) hf (Nat.le_refl _) new
    refine ⟨.ref s.heap.objs.size, _, I1, rfl, ⟨_, x, rfl, I.hok.fresh (Nat.le_refl _), rfl, fun ys hy => by rw [I.tuple_inj hy hq]; exact hx⟩, ⟨⟨y, ?_⟩, hs'.1.at fun o q => (sb.2 it (Ne.symm hne)).trans q, hne, hai, hae⟩, fun b hb => ?_⟩
    · have e1 : ((i + 1 : Nat) : Int) = (i : Int) + 1 := by omega
      rw [e1]; exact he'
    · have hb' : b < s.heap.objs.size := by
        have e' : b = e ∨ b = it := by simpa using hb
        rcases e' with z | z
        · rw [z]; exact hel
        · rw [z]; exact hil
      rw [upd_ne (Nat.ne_of_lt hb')]
      exact (hf b hb).1
  done := by
    intro X hP hw hK hc i pins s σ H E I hf st hg
    subst hP hw hK
    obtain ⟨⟨old, he⟩, hit, hne, hai, hae⟩ := st
    obtain ⟨xs, hq, hx⟩ := hg
    obtain ⟨its, rv, p, hz⟩ := I.tuple hq
    obtain ⟨f0, f1, f2, f3, f4, f5⟩ := hf it (by simp)
    have hl := rv.length
    have D := Draws.tuple (prog := X.prog) (w := X.w) (A := X.A.in1) (I.ok.hd hc) it a hai its.toArray
    have hsz : its.toArray.size = i := by rw [List.size_toArray, ← hl, hx]
    rw [hsz] at D
    exact wpAny_pyNext_enum_endD D he ⟨hit, p⟩ fun h' eb => ⟨rfl, I.turned (t' := s.toks) (fun b o hb q => eb b o hb q) f0 f1 f3 f4 f5⟩
  self := fun A i s Q E st h => let ⟨⟨_, he⟩, _⟩ := st; wpAny_pyIter_enum he h
end
def enumD (i : Nat) : List D → List D
  | [] => []
  | d :: ds => .tup [.int (i : Nat), d] :: enumD (i + 1) ds
theorem enumD_len : ∀ (ds : List D) (i : Nat), (enumD i ds).length = ds.length
  | [], _ => rfl
  | d :: ds, i => by simp [enumD, enumD_len ds]
theorem enumD_get : ∀ (ds : List D) (i j : Nat) (d : D), ds[j]? = some d → (enumD i ds)[j]? = some (.tup [.int ((i + j : Nat) : Int), d])
  | [], _, _, _, h => by simp at h
  | x :: ds, i, 0, d, h => by simp at h; subst h; simp [enumD]
  | x :: ds, i, j + 1, d, h => by
    rw [enumD, List.getElem?_cons_succ, enumD_get ds (i + 1) j d (by simpa using h)]
    congr 4
    omega
def iEn (a : EX) : IX := fun e st => (a e st).bind fun x st1 => match x with
  | .tup ds => .ok ⟨enumD 0 ds, fun _ => true⟩ st1
  | .ref i => match cellItems st1[i]? with
    | some ds => .ok ⟨enumD 0 ds, fun s => decide (s[i]? = st1[i]?)⟩ st1
    | none => .no
  | _ => .no
section
open PyProof.Rows
variable {X : Cx} {T : List (Addr × Str)} {W : WX} {a : Expr} {fa : EX} {pos p2 tpos : Pos} {elts : List Expr} {kk : Nat}
theorem pair_rep {K : PySem.W.Frag} {H : Hp} {m : List Addr} {st : Sto} {i : Nat} {d : D} {x : V} {p : Addr} (ok : Ok K T H m st) (hp : H p = none) (r : Rep K H m d x) :
    Le H (upd H p (.tup [.int (i : Nat), x])) ∧ Ok K T (upd H p (.tup [.int (i : Nat), x])) m st ∧ RepB true K (upd H p (.tup [.int (i : Nat), x])) m (.tup [.int (i : Nat), d]) (.ref p) :=
  ⟨Le.new hp, ok.new hp, p, _, rfl, .of upd_same, .int (i : Nat), [x], rfl, rfl, x, [], rfl, r.mono (Le.new hp) (.refl m), rfl⟩
theorem good_enL {K : PySem.W.Frag} {H : Hp} {m : List Addr} {st1 : Sto} {i : Nat} {ds : List D} {a : Addr} (h : cellItems st1[i]? = some ds) (hm : m[i]? = some a) : Good true K T (Ite K a) ⟨enumD 0 ds, fun s => decide (s[i]? = st1[i]?)⟩ H m := fun H' m' st l p ok g => by
  have g : st[i]? = st1[i]? := of_decide_eq_true g
  obtain ⟨a', vs, h1, h2, h3⟩ := cellItems_ok ok (by rw [g]; exact h)
  rw [p.get hm] at h1
  cases h1
  have w := walk_enum (K := K) (a := a) (xs := vs)
  have e := Reps.length h3
  simp only [enumD_len]
  refine ⟨fun j hj => w.goes j H' (by rw [← e]; exact hj) h2, by rw [e]; exact w.stops H' h2, fun j x H2 hj hy => ?_⟩
  obtain ⟨q, u, v, rfl, hq, rfl, e1, e2⟩ := w.yields j H' x H2 (by rw [← e]; exact hj) h2 hy
  cases e1
  obtain ⟨d, hd, rd⟩ := h3.back e2
  obtain ⟨k1, k2, k3⟩ := pair_rep (i := j) ok hq rd
  exact ⟨k1, k2, _, by rw [enumD_get ds 0 j d hd, Nat.zero_add], k3⟩
theorem good_enT {K : PySem.W.Frag} {H : Hp} {m : List Addr} {ds : List D} {vs : List V} {a : Addr} (h2 : SqT K H a vs) (h3 : Reps K H m ds vs) : Good true K T (Itu K a) ⟨enumD 0 ds, fun _ => true⟩ H m := fun H' m' st l p ok g => by
  have h2' := l.sqT h2
  have h3 := Reps.mono l p h3
  have e := Reps.length h3
  simp only [enumD_len]
  refine ⟨fun j hj => ⟨vs, vs[j]'(by rw [← e]; exact hj), h2', List.getElem?_eq_getElem _⟩, ⟨vs, h2', e.symm⟩, fun j x H2 hj hy => ?_⟩
  obtain ⟨q, v, rfl, hq, rfl, hv⟩ := hy
  obtain ⟨d, hd, rd⟩ := h3.back (hv vs h2')
  obtain ⟨k1, k2, k3⟩ := pair_rep (i := j) ok hq rd
  exact ⟨k1, k2, _, by rw [enumD_get ds 0 j d hd, Nat.zero_add], k3⟩
theorem Den.imp {K : PySem.W.Frag} {mg : Str → Option Value} {a b : Type} {RA : Hp → List Addr → a → b → Prop} {s : L2.St} {H : Hp} {m : List Addr} {r : R a} {Q Q' : b → Hp → Prop} (h : Den K T mg W RA s H m r Q) (k : ∀ x H', Q x H' → Q' x H') : Den K T mg W RA s H m r Q' := by
  cases r with
  | no => exact h
  | ex x st => exact h
  | ok x st => exact fun y H' m' l p ok r => k y H' (h y H' m' l p ok r)
theorem ji_enum (hg : Gl X "enumerate") (hmm : X.mg "enumerate" = none) (ha : J X T W a fa) (hs : starEach [a] X.env = [(false, eval a X.env)] := by rfl) (he : starEach (a :: []) X.env = (false, eval a X.env) :: starEach [] X.env := by rfl) :
    JI true X T W (.Tuple elts kk tpos) (.Call (.Name "enumerate" p2) [a] [] pos) (iEn fa) := by
  refine ⟨fun pins s σ H R I hw => ?_⟩
  obtain ⟨e, st, m, hen, ok, h⟩ := hw
  have key : Den X.K T X.mg W (RD X.K) σ H m (fa e st) (fun x H1 => (∃ p, x = .ref p ∧ (∃ xs, SqL X.K H1 p xs) ∧ R (Ite X.K p) H1) ∨ (∃ p, x = .ref p ∧ (∃ xs, SqT X.K H1 p xs ∧ R (Itu X.K p) H1))) := deni_of h fun dx x st1 H1 m1 hf l p ok1 rx h1 => by
    cases dx with
    | tup ds =>
      obtain ⟨p, vs, rfl, hs, hr⟩ := rx
      exact .inr ⟨p, rfl, vs, hs.sq, h1 _ H1 m1 (.refl H1) (.refl m1) ok1 (good_enT hs.sq hr)⟩
    | ref i =>
      obtain ⟨p, hm, rfl⟩ := rx
      cases hc : cellItems st1[i]? with
      | none =>
        simp only [hc] at h1
        exact False.elim h1
      | some ds =>
        simp only [hc] at h1
        obtain ⟨a', vs, q1, q2, q3⟩ := cellItems_ok ok1 hc
        rw [hm] at q1
        cases q1
        exact .inl ⟨p, rfl, ⟨vs, q2⟩, h1 _ H1 m1 (.refl H1) (.refl m1) ok1 (good_enL hc hm)⟩
    | non | bl _ | str _ | int _ => exact False.elim h1
  have one : PA X [a] (tCons (tE X.K T X.mg W fa) tNil) := pa_cons ha pa_nil he
  refine Call_ (ld_blt I hg hmm boot_enumerate (PyProof.Rows.callWith_type1 (thn (one.run pos pins s σ H (fun vs H1 => ∃ x, vs = [x] ∧ ((∃ p, x = .ref p ∧ (∃ xs, SqL X.K H1 p xs) ∧ R (Ite X.K p) H1) ∨ (∃ p, x = .ref p ∧ (∃ xs, SqT X.K H1 p xs ∧ R (Itu X.K p) H1)))) I ⟨e, st, m, hen, ok, Den.imp key fun x H1 q => ⟨x, rfl, q⟩⟩) fun us s1 ⟨vs, H1, I1, r1, x, ex, q1⟩ => ?_) hs rfl))
  subst ex
  obtain ⟨u, rfl, ru⟩ := vals1 r1
  rcases q1 with ⟨p, rfl, ⟨xs, hq⟩, q⟩ | ⟨p, rfl, xs, hq, q⟩
  · cases ru
    obtain ⟨its, rv, pl, hz⟩ := I1.list hq
    refine call_enumerate_list pl.isList fun h' he hit hsz hk => wpAny_pyIter_enum he ?_
    have I2 : Inv X pins σ H1 { s1 with heap := h' } := I1.kept (t' := s1.toks) hk
    refine ⟨s1.heap.objs.size + 1, [s1.heap.objs.size + 1, s1.heap.objs.size], _, _, H1, rfl, I2, turn_enum p (s1.heap.objs.size + 1) s1.heap.objs.size, ⟨⟨.none, he⟩, hit, Nat.succ_ne_self _⟩, fun b hb => ?_, q⟩
    have e' : b = s1.heap.objs.size + 1 ∨ b = s1.heap.objs.size := by simpa using hb
    have hle : s1.heap.objs.size ≤ b := by
      rcases e' with z | z
      · rw [z]; exact Nat.le_add_right _ _
      · rw [z]; exact Nat.le_refl _
    exact I1.fpOk hle (I1.hok.fresh hle)
  · cases ru
    obtain ⟨its, rv, pl, hz⟩ := I1.tuple hq
    have hlt : p < s1.heap.objs.size := pl.lt
    refine call_enum_tup (show s1.heap.IsTuple p its.toArray from pl) fun h' he hit hsz hk => wpAny_pyIter_enum he ?_
    have I2 : Inv X pins σ H1 { s1 with heap := h' } := I1.kept (t' := s1.toks) hk
    refine ⟨s1.heap.objs.size + 1, [s1.heap.objs.size + 1, s1.heap.objs.size], _, _, H1, rfl, I2, turn_enum_tup p (s1.heap.objs.size + 1) s1.heap.objs.size, ⟨⟨.none, he⟩, hit, Nat.succ_ne_self _, Nat.ne_of_lt hlt, Nat.ne_of_lt (Nat.lt_succ_of_lt hlt)⟩, fun b hb => ?_, q⟩
    have e' : b = s1.heap.objs.size + 1 ∨ b = s1.heap.objs.size := by simpa using hb
    have hle : s1.heap.objs.size ≤ b := by
      rcases e' with z | z
      · rw [z]; exact Nat.le_add_right _ _
      · rw [z]; exact Nat.le_refl _
    exact I1.fpOk hle (I1.hok.fresh hle)
end
/-! small things -/
def oNeg : O1 := fun x st => match x with
  | .int i => some (.int (-i), st)
  | _ => none
theorem une_neg {X : Cx} {T : List (Addr × Str)} : UnR X (unaryOp .USub) (r1 X.K T oNeg) := by
  intro pins s σ H x v Q I rx h
  obtain ⟨d, st, m, q1, ok, q3⟩ := h
  cases d with
  | int i => cases q1; exact un_neg pins s σ H _ v Q I rx ⟨i, rfl, deno_val q3 ok rfl⟩
  | non | bl _ | str _ | tup _ | ref _ => exact False.elim q3
theorem takes_no {X : Cx} : Takes X (fun _ _ _ _ => False) := fun _ _ x => by
  obtain ⟨_, _, _, _, _, _, _, _, _, _, _, _, _, _, _, _, z⟩ := x
  exact z.elim
end Mm

/-! e.__class__.__name__ of an error of the module: the class keeps its name's text, nothing is written -/
namespace Mm
open PySem L2 PySem.W PySem.Calls PyProof.Rows
/-- what is asked of the class of an exception to find its class -/
structure XisC (K : PySem.W.Frag) (C : Addr) : Prop where
  ci : (PySem.W.clsIn K C).isSome = true
  ga : PySem.W.findIn K (.ref C) "__getattribute__" = some (some (.builtin "BaseException.__getattribute__"))
  gg : PySem.W.findIn K (.ref C) "__getattr__" = some none
  exC : PySem.W.subIn K (.ref C) (.type "BaseException") = some true
  cd : PySem.W.findIn K (.ref C) "__class__" = some (some (.builtin "object.__class__"))
  sp : PySem.W.specialIn K (.builtin "object.__class__") "__get__" = some (some (.builtin "getset_descriptor.__get__"))
  tk : PySem.W.takesIn K (.builtin "object.__class__") = some true
  mr : PySem.W.mroIn K C (.type "object") = some true
/-- the text that a class keeps as its name -/
def keptName (K : PySem.W.Frag) (C : Addr) : Option Str := match K.lookup C with
  | some o => match (o.slots[2]? : Option (Option Value)) with
    | some (some (Value.str z _)) => some z
    | _ => none
  | none => none
structure NamC (K : PySem.W.Frag) (C : Addr) : Prop where
  nm : (keptName K C).isSome = true
  ty : PySem.W.typeIn K (.ref C) = some (.type "type")
  op : PySem.W.nsIn K cStatics "thirdparty.any" = some none
  fc : PySem.W.findCls K (.ref C) (.type "type") "__name__" = some (.get (.builtin "getset_descriptor.__get__") (.builtin "type.__name__") (.ref C) (.type "type"))
section
variable {prog : Program} {w : World} {A : Around} {E : Value → Shared → Prop} {s : Shared} {K : PySem.W.Frag} {R : Result → Shared → Prop} {C : Addr} {o : Obj} {v : Value}
theorem cname_get {tp : Value} (X : K.In s.heap) (ht : PySem.W.typeIn K (.ref C) = some (.type "type")) (ho : K.lookup C = some o) (hv : o.slots[2]? = some (some v)) (h : R (.ok (.ret v)) s) :
    codeAny (model prog w) A (.call (.builtin "getset_descriptor.__get__") ⟨[.builtin "type.__name__", .ref C, tp], []⟩) R s := by
  obtain ⟨hh, g, dr, t, os⟩ := s
  have L0 : Looks (model prog w) hh (typeOf (.ref C)) (.type "type") := looks_typeIn X ht
  have L1 : Looks (model prog w) hh (isSubtype (.type "type") (.type "type")) true := Looks.of_pure (by rw [isSubtype_type]; kernel_rfl)
  refine codeAny_call_builtin KF.slot_gs.plain KF.entry_gs (KF.slot_gs.check _ _ _ _ _ _ _ _ ktyn_type (KF.args_gs _ _ _) ?_)
  unfold Builtin.«getset_descriptor.__get__» Builtin.Getset_descriptor.descrGet
  rw [dga_obj]
  refine wpAny_bind (wpAny_pure ?_)
  unfold Builtin.Getset_descriptor.descrGetter Builtin.Getset_descriptor.descrCheckInstance Builtin.Getset_descriptor.descrNameAndClass isInstance
  simp only [ktyn_owner]
  repeat lk
  refine ⟨Code.quiet_builtin _ (by decide +kernel), codeAny_builtin ktyn_entry ?_⟩
  unfold Builtin.«type.__name__» Builtin.keptObject PySem.slotAt
  dsimp only
  refine wpAny_bind (wpAny_bind (wpAny_loadPart_at (X _ _ ho) (wpAny_pure ?_)))
  rw [hv]
  exact wpAny_pure h
theorem cname_attr {expr : Bool} {Q : Value → Shared → Prop} (X : K.In s.heap) (hn : NamC K C) (h : ∀ z tk u, Q (.str z tk) { s with toks := u }) : wpAny (model prog w) A (getAttr (.ref C) "__name__" expr) Q E s := by
  obtain ⟨hk, ht, hop, hfc⟩ := hn
  unfold keptName at hk
  cases ho : K.lookup C with
  | none => rw [ho] at hk; cases hk
  | some o =>
    rw [ho] at hk
    simp only at hk
    split at hk
    · rename_i z tk hv
      refine cls_open X (looks_opaque X hop) (looks_typeIn X ht) (show findIn K (.type "type") "__getattribute__" = _ from type_tga) (looks_hook X (r := none) (by rfl)) (by show subIn K _ _ = _; rfl) hfc ?_
      show wpAny _ _ (do ret (← holding [Value.builtin "type.__name__"] (call (.builtin "getset_descriptor.__get__") [.builtin "type.__name__", .ref C, .type "type"]))) _ _ _
      refine wpAny_bind (wpAny_holding (wpAny_call (cname_get (s := { s with toks := s.toks + 1 }) X ht ho hv ?_)))
      exact wpAny_pure (handed_on rfl (h _ _ _))
    · cases hk
theorem find_bind {od : Option Obj} {name : Str} {b g : Value} (hc : (clsIn K C).isSome = true) (hb : findIn K (.ref C) name = some (some b)) (hg : specialIn K b "__get__" = some (some g)) (ht : takesIn K b = some true) : findObj K C od name = some (.bind g b) := by
  unfold findObj
  obtain ⟨cd, q⟩ := Option.isSome_iff_exists.mp hc
  simp [q, hb, hg, ht]
theorem eclass_attr {x : Addr} {ox : Obj} {od : Option Obj} {expr : Bool} {Q : Value → Shared → Prop} (X : K.In s.heap) (I : InstAt s.heap x ox C od) (hX : XisC K C) (h : ∀ u, Q (.ref C) { s with toks := u }) : wpAny (model prog w) A (getAttr (.ref x) "__class__" expr) Q E s := by
  obtain ⟨hp, g, d, t, os⟩ := s
  have J0 := I.type (M := model prog w)
  have J1 := looks_findIn (M := model prog w) X hX.ga
  have J2 := looks_findIn (M := model prog w) X hX.gg
  have J3 := looks_find (M := model prog w) X I (find_bind (od := od) hX.ci hX.cd hX.sp hX.tk)
  have z0 : (expr && onTheHeap (Value.builtin "BaseException.__getattribute__")) = false := by cases expr <;> rfl
  have z1 : (onTheHeap (Value.ref C) && Value.builtin "BaseException.__getattribute__" == Value.builtin "object.__getattribute__") = false := by rw [show (Value.builtin "BaseException.__getattribute__" == Value.builtin "object.__getattribute__") = false from by decide +kernel]; rfl
  unfold getAttr getAttrBy; refine wpAny_bind (wpAny_mkText (wpAny_holding (wpAny_bind (J0.at (wpAny_bind (J1.at ?_))))))
  show wpAny _ _ (if (onTheHeap (Value.ref C) && Value.builtin "BaseException.__getattribute__" == Value.builtin "object.__getattribute__") = true then _ else _) _ _ _; rw [z1, if_neg Bool.false_ne_true]
  unfold getAttrByItsOwn hookBefore; refine wpAny_bind ?_; rw [if_pos (show onTheHeap (Value.ref C) = true from rfl)]; refine J2.at (wpAny_bind (wpAny_attempt (wpAny_holding ?_)))
  unfold callGetattribute; rw [z0, if_neg Bool.false_ne_true]; unfold boundAndCalled; rw [PySem.F.excAttr_ValueError.ga.bind (.ref x)]; refine wpAny_bind (wpAny_pure ?_)
  show wpAny _ _ (call (.builtin "BaseException.__getattribute__") [.ref x, .str "__class__" t]) _ _ _; refine wpAny_call (codeAny_call_builtin PySem.F.excAttr_ValueError.ga.plain PySem.F.entry_bexc_ga ?_)
  refine @check_slot (model prog w) _ _ ⟨hp, g, d, t + 1, os⟩ "BaseException.__getattribute__" "BaseException" "__getattribute__" (.ref x) [.str "__class__" t] [] _ (by decide +kernel) (by decide +kernel) (J0.andThen (looks_subIn X hX.exC)) (PySem.F.args_bexc_ga (.ref x) (.str "__class__" t)) ?_
  unfold Builtin.«object.__getattribute__»; refine wpAny_bind (wpAny_of_eq (a := ((Value.ref x : Value), [Value.str "__class__" t])) (by first | rfl | (simp only [slotArgs]; rfl)) (wpAny_bind (wpAny_pure (wpAny_bind (J0.at (wpAny_bind (J3.at ?_)))))))
  show wpAny _ _ (holding [Value.builtin "object.__class__"] (call (.builtin "getset_descriptor.__get__") [.builtin "object.__class__", .ref x, .ref C]) >>= ret) _ _ _
  refine wpAny_bind (wpAny_holding (wpAny_call (class_get (s := ⟨hp, g, d, t + 1, os⟩) (ox := ox) (od := od) X I hX.mr (wpAny_pure ?_))))
  show wpAny _ _ (handedOut (.ref C)) _ _ _; rw [handedOut_of (v := .ref C) rfl]
  exact wpAny_pure (h _)
end
/-- e.__class__.__name__ -/
theorem pe_ename {X : Cx} {e : Expr} {te : TE} {p1 p2 : Pos} (he : PE X e te) (hb : attributeBase e "__class__" X.env (eval e X.env) = eval e X.env := by rfl)
    (hb2 : attributeBase (.Attribute e "__class__" p1) "__name__" X.env (eval (.Attribute e "__class__" p1) X.env) = eval (.Attribute e "__class__" p1) X.env := by rfl) :
    PE X (.Attribute (.Attribute e "__class__" p1) "__name__" p2) (fun σ H Q => te σ H fun x H1 => ∃ (a C : Addr) (d : Option Addr), x = .ref a ∧ H1 a = some (exo a C d) ∧ (∀ dx, d = some dx → ∃ fs, H1 dx = some (exd dx fs)) ∧ XisC X.K C ∧ NamC X.K C ∧ ∀ z, Q (.str z) H1) := by
  refine ⟨fun pins s σ H Q I h => attr_of hb2 (attr_of hb (thn (he.run pins s σ H _ I h) fun v s1 ⟨x, H1, I1, rx, a, C, d, ex, ha, hd, hX, hn, q⟩ => ?_))⟩
  subst ex
  obtain rfl : v = Value.ref a := rx
  obtain ⟨t1, ho⟩ := exo_at I1.hok ha
  have key : ∀ od : Option Obj, InstAt s1.heap a { cls := .ref C, dict := d, data := .fields #[.ref t1, .none, .none, .none, .bool false, .none] } C od → wpAny (model X.prog X.w) X.A (getAttr (.ref a) "__class__" true) (fun u s2 => wpAny (model X.prog X.w) X.A (getAttr u "__name__" true) (EP X pins σ Q) X.xe s2) X.xe s1 := fun od J =>
    eclass_attr I1.kIn J hX fun u => cname_attr (s := { s1 with toks := u }) I1.kIn hn fun z tk u' => ⟨.str z, H1, I1.kept (t' := u') (fun _ _ e => e), ⟨tk, rfl⟩, q z⟩
  cases d with
  | none => exact key none ⟨ho, rfl, rfl, trivial⟩
  | some dx =>
    obtain ⟨fs, hf⟩ := hd dx rfl
    obtain ⟨mA, hns, rel⟩ := exd_at I1.hok hf
    obtain ⟨oD, _, _, hoD, _, _⟩ := hns.count (within_of rel)
    exact key (some oD) ⟨ho, rfl, rfl, hoD⟩
end Mm

namespace Mm
open PySem
/-! ### running: what simp needs -/
section
variable {a b : Type}
theorem R.bind_ok (x : a) (st : Sto) (k : a → Sto → R b) : (R.ok x st).bind k = k x st := rfl
theorem R.st_ok (e : Env) (d : D) (st : Sto) (k : D → Sto → RS) : (R.ok d st).st e k = k d st := rfl
end
theorem kit_int_int : L2.kitB "int" "int" = some true := by decide +kernel
theorem kit_int_bool : L2.kitB "int" "bool" = some false := by decide +kernel
theorem kit_bool_int : L2.kitB "bool" "int" = some true := by decide +kernel
theorem kit_bool_bool : L2.kitB "bool" "bool" = some true := by decide +kernel
theorem kit_tup_tup : L2.kitB "tuple" "tuple" = some true := by decide +kernel
theorem kit_list_tup : L2.kitB "list" "tuple" = some false := by decide +kernel
theorem kit_tup_int : L2.kitB "tuple" "int" = some false := by decide +kernel
theorem kit_str_int : L2.kitB "str" "int" = some false := by decide +kernel
theorem kit_non_int : L2.kitB "NoneType" "int" = some false := by decide +kernel
theorem kit_list_int : L2.kitB "list" "int" = some false := by decide +kernel
theorem kit_int_tup : L2.kitB "int" "tuple" = some false := by decide +kernel
theorem kit_bool_tup : L2.kitB "bool" "tuple" = some false := by decide +kernel
theorem kit_str_tup : L2.kitB "str" "tuple" = some false := by decide +kernel
theorem kit_non_tup : L2.kitB "NoneType" "tuple" = some false := by decide +kernel
/-- a def that leaves the store as it is -/
theorem fin_same {st : Sto} {d : D} (h : lowD st.length d = true) : fin st d st = .ok d st := by
  unfold fin
  rw [if_pos (.inl (by simp)), if_pos h]
  simp
theorem mul_i {i j : Int} (h : (b64 i || b64 j) = true) (st : Sto) : oMul (.int i) (.int j) st = some (.int (i * j), st) := by
  unfold oMul
  simp only [h, if_true]
theorem fin_i (st : Sto) (i : Int) : fin st (.int i) st = .ok (.int i) st := fin_same rfl
theorem fin_b (st : Sto) (i : Bool) : fin st (.bl i) st = .ok (.bl i) st := fin_same rfl
theorem fin_n (st : Sto) : fin st .non st = .ok .non st := fin_same rfl
theorem fin_s (st : Sto) (i : Str) : fin st (.str i) st = .ok (.str i) st := fin_same rfl
mutual
def flatD : D → Bool
  | .ref _ => false
  | .tup xs => flatDs xs
  | _ => true
def flatDs : List D → Bool
  | [] => true
  | x :: xs => flatD x && flatDs xs
end
mutual
theorem low_flat (n : Nat) : ∀ d : D, flatD d = true → lowD n d = true
  | .non, _ => rfl
  | .bl _, _ => rfl
  | .int _, _ => rfl
  | .str _, _ => rfl
  | .ref _, h => by cases h
  | .tup xs, h => lows_flat n xs h
theorem lows_flat (n : Nat) : ∀ ds : List D, flatDs ds = true → lowDs n ds = true
  | [], _ => rfl
  | x :: xs, h => by
    simp only [flatDs, Bool.and_eq_true] at h
    simp only [lowDs, low_flat n x h.1, lows_flat n xs h.2, Bool.and_self]
end
theorem fin_f {st : Sto} {d : D} (h : flatD d = true) : fin st d st = .ok d st := fin_same (low_flat _ d h)
theorem fin_t2 (st : Sto) (i j : Int) : fin st (.tup [.int i, .int j]) st = .ok (.tup [.int i, .int j]) st := fin_f rfl
theorem flat_ints : ∀ ns : List Int, flatDs (ns.map D.int) = true
  | [] => rfl
  | _ :: r => by simp only [List.map, flatDs, flatD, flat_ints r, Bool.and_self]
/-- the store has changed below and grown: what is above falls away -/
theorem fin_low {st st' : Sto} {d : D} (h : lowS st.length (st'.take st.length) = true) (hd : lowD st.length d = true) : fin st d st' = .ok d (st'.take st.length) := by
  unfold fin
  rw [if_pos (.inr h), if_pos hd]
theorem pys_ints : ∀ ns : List Int, pys (ns.map D.int) = some (ns.map PyData.int)
  | [] => rfl
  | n :: r => by simp only [List.map, pys, py, pys_ints r, Option.bind, Option.map]
theorem lay_ints : ∀ ns : List Int, PyData.canLayAll0 (ns.map PyData.int) = true
  | [] => rfl
  | n :: r => by simp only [List.map, PyData.canLayAll0, PyData.canLay0, lay_ints r, Bool.and_self]
theorem dep_ints : ∀ ns : List Int, PyData.depthAll (ns.map PyData.int) = 0
  | [] => rfl
  | n :: r => by simp only [List.map, PyData.depthAll, PyData.depth, dep_ints r, Nat.max_self]
theorem shaped_lints (ns : List Int) : SeqAt.shaped (.list (ns.map PyData.int)) = true := by
  simp [SeqAt.shaped, PyData.canLay0, lay_ints, PyData.depth, dep_ints]
theorem shaped_tints (ns : List Int) : SeqAt.shaped (.tuple (ns.map PyData.int)) = true := by
  simp [SeqAt.shaped, PyData.canLay0, lay_ints, PyData.depth, dep_ints]
theorem eqv_ints : ∀ a b : List Int, PyData.eqvAll (a.map PyData.int) (b.map PyData.int) = decide (a = b)
  | [], [] => rfl
  | [], _ :: _ => rfl
  | _ :: _, [] => rfl
  | x :: xs, y :: ys => by
    simp only [List.map, PyData.eqvAll, PyData.eqv, eqv_ints xs ys, List.cons.injEq]
    by_cases h : x = y <;> simp [h]
/-- lists of numbers, by == -/
theorem eq_ints {st : Sto} {i j : Nat} {a b : List Int} (h1 : cellItems st[i]? = some (a.map D.int)) (h2 : cellItems st[j]? = some (b.map D.int)) : eqF st (.ref i) (.ref j) = some (decide (a = b)) := by
  simp only [eqF, eqD, pyS, h1, h2, pys_ints, Option.map, shaped_lints, PyData.eqv, eqv_ints, Bool.and_self, if_true]
theorem eq_tints {st : Sto} {a b : List Int} : eqF st (.tup (a.map D.int)) (.tup (b.map D.int)) = some (decide (a = b)) := by
  simp only [eqF, eqD, pyS, py, pys_ints, Option.map, shaped_tints, PyData.eqv, eqv_ints, Bool.and_self, if_true]
theorem atN {α : Type} (xs : List α) (i : Nat) (h : i < xs.length) : L2.atI xs (i : Int) = some xs[i] := by
  simp [L2.atI, L2.ixN, h]
theorem at0 {α : Type} (x : α) (r : List α) : L2.atI (x :: r) 0 = some x := atN (x :: r) 0 (by simp)
theorem at1 {α : Type} (x y : α) (r : List α) : L2.atI (x :: y :: r) 1 = some y := atN (x :: y :: r) 1 (by simp)
theorem at2 {α : Type} (x y z : α) (r : List α) : L2.atI (x :: y :: z :: r) 2 = some z := atN (x :: y :: z :: r) 2 (by simp)
theorem at3 {α : Type} (x y z u : α) (r : List α) : L2.atI (x :: y :: z :: u :: r) 3 = some u := atN (x :: y :: z :: u :: r) 3 (by simp)
theorem at4 {α : Type} (x y z u v : α) (r : List α) : L2.atI (x :: y :: z :: u :: v :: r) 4 = some v := atN (x :: y :: z :: u :: v :: r) 4 (by simp)
theorem ixN_nat {n i : Nat} (h : i < n) : L2.ixN n (i : Int) = some i := by simp [L2.ixN, h]
theorem ix0 {n : Nat} (h : 0 < n) : L2.ixN n 0 = some 0 := ixN_nat h
theorem ix1 {n : Nat} (h : 1 < n) : L2.ixN n 1 = some 1 := ixN_nat h
theorem ix2 {n : Nat} (h : 2 < n) : L2.ixN n 2 = some 2 := ixN_nat h
theorem cut1 (x : D) (r : List D) : cutD (x :: r) (some 1) none = r := by
  simp [cutD, HT.sIx]
/-! ### the numbers drawn out of a script -/
/-- the cells of a pool, then others -/
def pst (xs sl : List D) (ks : List Int) (a b : Int) (rest : Sto) : Sto := Cell.ro xs :: Cell.lst sl :: Cell.lst (ks.map D.int) :: Cell.lst [.int a, .int b, .ref 2] :: rest
def Pst (rest st : Sto) : Prop := ∃ xs sl ks a b, flatDs xs = true ∧ flatDs sl = true ∧ List.length ks ≤ 100 ∧ 0 ≤ a ∧ 0 ≤ b ∧ b < 4294967296 ∧ st = pst xs sl ks a b rest
theorem low_ints (n : Nat) (ks : List Int) : lowDs n (ks.map D.int) = true := lows_flat n _ (flat_ints ks)
theorem low_pst {xs sl : List D} {ks : List Int} {a b : Int} {rest : Sto} (h1 : flatDs xs = true) (h2 : flatDs sl = true) (h : lowS (4 + rest.length) rest = true) : lowS (4 + rest.length) (pst xs sl ks a b rest) = true := by
  simp only [lowS, pst, List.all_cons, lowC, lows_flat _ _ h1, lows_flat _ _ h2, low_ints, lowDs, lowD, Bool.true_and, Bool.and_true]
  simp only [lowS] at h
  simp [h]
  omega
theorem fin_pool (xs sl ks : List D) (a b : Int) : fin [Cell.ro xs] (.ref 3) [Cell.ro xs, Cell.lst sl, Cell.lst ks, Cell.lst [.int a, .int b, .ref 2]] = .ok (.ref 3) [Cell.ro xs, Cell.lst sl, Cell.lst ks, Cell.lst [.int a, .int b, .ref 2]] := by
  simp [fin, lowD, lowDs]
theorem pst_pool (n : Int) (r : List Int) (a b : Int) (hl : r.length ≤ 100) (ha : 0 ≤ a) (hb : 0 ≤ b) (hb2 : b < 4294967296) : Pst [] [Cell.ro (D.int n :: List.map D.int r), Cell.lst (List.map D.int r), Cell.lst (List.map D.int r), Cell.lst [.int a, .int b, .ref 2]] :=
  ⟨_, _, r, a, b, flat_ints (n :: r), flat_ints r, hl, ha, hb, hb2, rfl⟩
theorem fin_draw {xs sl : List D} {ks ks' : List Int} {a b a' b' : Int} {rest : Sto} {r : Int} (h1 : flatDs xs = true) (h2 : flatDs sl = true) (h : lowS (4 + rest.length) rest = true) {st' : Sto} (e : st'.take (4 + rest.length) = pst xs sl ks' a' b' rest) :
    fin (pst xs sl ks a b rest) (.int r) st' = .ok (.int r) (pst xs sl ks' a' b' rest) := by
  have hl : (pst xs sl ks a b rest).length = 4 + rest.length := by simp [pst]; omega
  have := fin_low (st := pst xs sl ks a b rest) (st' := st') (d := .int r) (by rw [hl, e]; exact low_pst h1 h2 h) rfl
  rw [hl, e] at this
  exact this
theorem fmod_lo (a b : Int) (h : 0 < b) : 0 ≤ Int.fmod a b := Int.fmod_nonneg_of_pos _ h
theorem fmod_hi (a b : Int) (h : 0 < b) : Int.fmod a b < b := Int.fmod_lt_of_pos _ h
theorem b64_47 (x : Int) : b64 (x.fmod 2147483647) = true := decide_eq_true (by have := fmod_lo x 2147483647 (by decide); have := fmod_hi x 2147483647 (by decide); omega)
theorem eqD_pool (xs sl : List D) (ks : List Int) (c : Cell) (rest : Sto) : eqD (Cell.ro xs :: Cell.lst sl :: Cell.lst (ks.map .int) :: c :: (rest ++ [Cell.lst []])) (.ref 2) (.ref (rest.length + 1 + 1 + 1 + 1)) = some (decide (ks = [])) := by
  have := eq_ints (st := Cell.ro xs :: Cell.lst sl :: Cell.lst (ks.map .int) :: c :: (rest ++ [Cell.lst []])) (i := 2) (j := rest.length + 1 + 1 + 1 + 1) (a := ks) (b := []) (by simp [cellItems]) (by simp [cellItems])
  exact this
theorem eqD_pool0 (xs sl : List D) (c : Cell) (rest : Sto) : eqD (Cell.ro xs :: Cell.lst sl :: Cell.lst [] :: c :: (rest ++ [Cell.lst []])) (.ref 2) (.ref (rest.length + 1 + 1 + 1 + 1)) = some true := eqD_pool xs sl [] c rest
theorem eqD_pool1 (xs sl : List D) (n : Int) (r : List Int) (c : Cell) (rest : Sto) : eqD (Cell.ro xs :: Cell.lst sl :: Cell.lst (.int n :: r.map .int) :: c :: (rest ++ [Cell.lst []])) (.ref 2) (.ref (rest.length + 1 + 1 + 1 + 1)) = some false := eqD_pool xs sl (n :: r) c rest
theorem take_a (c0 c1 c2 c3 x : Cell) (rest : Sto) : List.take (4 + rest.length) (c0 :: c1 :: c2 :: c3 :: (rest ++ [x])) = c0 :: c1 :: c2 :: c3 :: rest := by
  rw [show 4 + rest.length = rest.length + 1 + 1 + 1 + 1 by omega]
  simp
theorem take_b (c0 c1 c2 c3 : Cell) (rest : Sto) : List.take (4 + rest.length) (c0 :: c1 :: c2 :: c3 :: rest) = c0 :: c1 :: c2 :: c3 :: rest := by
  rw [show 4 + rest.length = rest.length + 1 + 1 + 1 + 1 by omega]
  simp
theorem b64_of {i : Int} (h1 : -1000000000 ≤ i) (h2 : i ≤ 1000000000) : b64 i = true := decide_eq_true (by omega)
theorem b64_nat {n : Nat} (h : n ≤ 1000000000) : b64 (n : Int) = true := b64_of (by omega) (by omega)
/-! ### loops -/
def RSok (P : RS → Prop) (I : Env → Sto → Prop) : RS → Prop
  | .nx e st => I e st
  | .ct e st => I e st
  | .brk e st => P (.nx e st)
  | r => P r
theorem forL_wp {g : Sto → Bool} {t : TX} {body : SX} (I : List D → Env → Sto → Prop) (P : RS → Prop)
    (step : ∀ d ds e st, I (d :: ds) e st → g st = true ∧ ∃ e1, t d e = some e1 ∧ RSok P (I ds) (body e1 st))
    (done : ∀ e st, I [] e st → g st = true ∧ P (.nx e st)) : ∀ ds e st, I ds e st → P (forL g t body ds e st)
  | [], e, st, h => by
    obtain ⟨h1, h2⟩ := done e st h
    rw [forL, if_pos h1]; exact h2
  | d :: ds, e, st, h => by
    obtain ⟨h1, e1, h2, h3⟩ := step d ds e st h
    rw [forL, if_pos h1, h2]
    simp only
    revert h3
    generalize body e1 st = r
    intro h3
    cases r with
    | nx e st => exact forL_wp I P step done ds e st h3
    | ct e st => exact forL_wp I P step done ds e st h3
    | brk e st => exact h3
    | ret d st => exact h3
    | exc x e st => exact h3
    | no => exact h3
theorem whL_wp {c : BX} {body : SX} (I : Nat → Env → Sto → Prop) (P : RS → Prop)
    (step : ∀ n e st, I n e st → ∃ st1, (c e st = .ok false st1 ∧ P (.nx e st1)) ∨ (c e st = .ok true st1 ∧ RSok P (fun e2 st2 => ∃ m, m < n ∧ I m e2 st2) (body e st1))) :
    ∀ (fuel n : Nat) e st, n < fuel → I n e st → P (whL c body fuel e st)
  | 0, n, e, st, h, _ => absurd h (Nat.not_lt_zero _)
  | fuel + 1, n, e, st, h, hi => by
    obtain ⟨st1, h1 | h1⟩ := step n e st hi
    · rw [whL, h1.1]; exact h1.2
    · rw [whL, h1.1]
      simp only
      have h3 := h1.2
      revert h3
      generalize body e st1 = r
      intro h3
      cases r with
      | nx e st => obtain ⟨m, h4, h5⟩ := h3; exact whL_wp I P step fuel m e st (by omega) h5
      | ct e st => obtain ⟨m, h4, h5⟩ := h3; exact whL_wp I P step fuel m e st (by omega) h5
      | brk e st => exact h3
      | ret d st => exact h3
      | exc x e st => exact h3
      | no => exact h3
theorem seq_nx {f g : SX} {e e1 : Env} {st st1 : Sto} {r : RS} (h : f e st = .nx e1 st1) (h2 : g e1 st1 = r) : sSeq f g e st = r := by
  unfold sSeq; rw [h]; exact h2
theorem seq_ret {f g : SX} {e : Env} {st st1 : Sto} {d : D} (h : f e st = .ret d st1) : sSeq f g e st = .ret d st1 := by
  unfold sSeq; rw [h]
theorem seq_exc {f g : SX} {e e1 : Env} {st st1 : Sto} {x : Exn} (h : f e st = .exc x e1 st1) : sSeq f g e st = .exc x e1 st1 := by
  unfold sSeq; rw [h]
theorem seq_if {c : BX} {f g : SX} {e : Env} {st : Sto} {r : RS} (h : c e st = .ok false st) (h2 : g e st = r) : sSeq (sIf c f sNx) g e st = r := by
  refine seq_nx (e1 := e) (st1 := st) ?_ h2
  unfold sIf; rw [h]; rfl
theorem fn_ret {n : Nat} {body : SX} {ds : List D} {st st' : Sto} {d : D} {r : R D} (h : body (ds.map some ++ List.replicate (n - ds.length) none) st = .ret d st') (h2 : fin st d st' = r) : fnS n body ds st = r := by
  unfold fnS; rw [h]; exact h2
theorem fn_nx {n : Nat} {body : SX} {ds : List D} {e : Env} {st st' : Sto} {r : R D} (h : body (ds.map some ++ List.replicate (n - ds.length) none) st = .nx e st') (h2 : fin st .non st' = r) : fnS n body ds st = r := by
  unfold fnS; rw [h]; exact h2
theorem or_ff {a b : BX} {e : Env} {st : Sto} (h : a e st = .ok false st) (h2 : b e st = .ok false st) : bOr a b e st = .ok false st := by
  unfold bOr; rw [h]; exact h2
theorem and_f {a b : BX} {e : Env} {st : Sto} (h : a e st = .ok false st) : bAnd a b e st = .ok false st := by
  unfold bAnd; rw [h]; rfl
theorem and_t {a b : BX} {e : Env} {st : Sto} {r : R Bool} (h : a e st = .ok true st) (h2 : b e st = r) : bAnd a b e st = r := by
  unfold bAnd; rw [h]; exact h2
theorem or_t {a b : BX} {e : Env} {st : Sto} (h : a e st = .ok true st) : bOr a b e st = .ok true st := by
  unfold bOr; rw [h]; rfl
theorem or_f {a b : BX} {e : Env} {st : Sto} {r : R Bool} (h : a e st = .ok false st) (h2 : b e st = r) : bOr a b e st = r := by
  unfold bOr; rw [h]; exact h2
theorem seq_nxE {f g : SX} {e : Env} {st : Sto} {r : RS} (h : ∃ e1 st1, f e st = .nx e1 st1 ∧ g e1 st1 = r) : sSeq f g e st = r :=
  let ⟨_, _, h1, h2⟩ := h; seq_nx h1 h2
end Mm

namespace Mm
open PySem L2
/-! ### raise -/
/-- raise x(e) -/
def sRaise (x : Str) (fr : AX) : SX := fun e st => match fr e st with
  | .ok [d] st1 => .exc ⟨x, d⟩ e st1
  | .ok _ _ => .no
  | .ex y st1 => .exc y e st1
  | .no => .no
/-- the class x of the module, at C: an exception whose __init__, at fI, keeps its argument in what -/
structure ExcC (K : PySem.W.Frag) (mg : Str → Option Value) (x : Str) (C fI : Addr) : Prop where
  gC : mg x = some (.ref C)
  T : OexC K C
  iC : PySem.W.findIn K (.ref C) "__init__" = some (some (.ref fI))
  noW : PySem.W.findIn K (.ref C) "what" = some none
  xf : XfC K C
  noK : PySem.W.findIn K (.ref C) "kind" = some none
  xi : XisC K C
  nm : NamC K C
/-- what the __init__ does: the exception's dict has what it is told -/
def spInit (K : PySem.W.Frag) : Sp := fun vs H Q _ => ∃ (a C : Addr) (x : V), vs = [.ref a, x] ∧ OexC K C ∧ XisC K C ∧ NamC K C ∧ H a = some (exo a C none) ∧ PySem.W.findIn K (.ref C) "what" = some none ∧ PySem.W.findIn K (.ref C) "kind" = some none ∧
  ∀ dx fs, H dx = none → dx ≠ a → fs.lookup ("what" : Str) = some x → Q .non (upd (upd H dx (exd dx fs)) a (exo a C (some dx)))
section
variable {X : Cx} {T : List (Addr × Str)} {W : WX} {a : Expr} {fr : AX}
theorem del_end {H1 : Hp} {p C dx : Addr} {fs : List (Str × V)} (h : H1 p = none) (hd : dx ≠ p) :
    upd (del (upd (upd (upd H1 p (exo p C none)) dx (exd dx fs)) p (exo p C (some dx))) p) dx (.xd fs) = upd H1 dx (.xd fs) := by
  funext b
  by_cases h1 : b = dx
  · rw [h1, upd_same, upd_same]
  · rw [upd_ne h1, upd_ne h1]
    by_cases h2 : b = p
    · rw [h2, del_same, h]
    · rw [del_ne h2, upd_ne h2, upd_ne h1, upd_ne h2]
theorem upd_swap {H : Hp} {a dx : Addr} {o o' u : HO} (h : dx ≠ a) : upd (upd (upd H dx o) a u) dx o' = upd (upd H dx o') a u := by
  funext b
  by_cases h1 : b = dx
  · rw [h1, upd_same, upd_ne h, upd_same]
  · rw [upd_ne h1]
    by_cases h2 : b = a
    · rw [h2, upd_same, upd_same]
    · rw [upd_ne h2, upd_ne h2, upd_ne h1, upd_ne h1]
theorem js_raise {x : Str} {C fI : Addr} {fd : FuncData} {k : Nat} {p pos pos2 : Pos} (hc : X.calm = true) (tk : Takes X W) (E : ExcC X.K X.mg x C fI) (tI : PySem.W.typeIn X.K (.ref fI) = some (.type "function"))
    (F1 : FnOk X.prog X.w X.K X.mg X.base (L2.CX X.prog X.w) k fI fd ["self", "what"] (spInit X.K)) (hr : Room (k + 1) X.A) (hb : Binds X.K fd ["self", "what"] []) (hg : Gl X x) (ha : JA X T W [a] fr)
    (hdb : (x == ("__debug__" : Str)) = false := by decide) (he : starEach [a] X.env = (false, eval a X.env) :: starEach [] X.env := by rfl) (hpl : (backTo pos (starEach [] X.env)).any (·.1) = false := by rfl) :
    JS X T W (.Raise (some (.Call (.Name x p) [a] [] pos)) none pos2) (sRaise x fr) := by
  refine ps_weak (ps_raise hc tk (pmk_oex E.T E.iC tI F1 hr hb .nil passL hg E.gC ha.pa hdb he hpl)) fun F s H ⟨e, st, m, he, ok, h⟩ => ?_
  refine ⟨e, st, m, he, ok, ?_⟩
  unfold sRaise at h
  have hn := ha.len e st
  revert h hn
  generalize fr e st = r
  intro h hn
  cases r with
  | no => exact h
  | ex y st1 => exact fun cls dd H1 m1 l pr ok1 xr => h cls dd s H1 m1 l pr ok1 (he.mono l pr) xr
  | ok ds st1 =>
    have hl := hn ds st1 rfl
    match ds, hl with
    | [d], _ =>
      intro y H1 m1 l pr ok1 rl
      obtain ⟨v, r, rfl, rv, rr⟩ := rl
      cases rr
      refine ⟨(by decide : 1 ≤ 1000), fun q hq => ⟨q, C, v, rfl, E.T, E.xi, E.nm, upd_same, E.noW, E.noK, fun dx fs hdx hne hw => ⟨rfl, dx, fs, upd_same, by rw [upd_ne hne, upd_same], ?_, ?_⟩⟩⟩
      · rw [upd_ne hne] at hdx; exact hdx
      · have hdx1 : H1 dx = none := by rw [upd_ne hne] at hdx; exact hdx
        rw [del_end hq hne]
        exact h (.ref C) (some dx) s _ m1 (l.trans (Le.new hdx1)) pr (ok1.new hdx1) ((he.mono l pr).mono (Le.new hdx1) (.refl m1)) ⟨C, dx, v, fs, rfl, E.gC, rfl, upd_same, hw, rv.mono (Le.new hdx1) (.refl m1)⟩
def tNam (K : PySem.W.Frag) (te : TE) : TE := fun σ H Q => te σ H fun x H1 => ∃ (a C : Addr) (d : Option Addr), x = .ref a ∧ H1 a = some (exo a C d) ∧ (∀ dx, d = some dx → ∃ fs, H1 dx = some (exd dx fs)) ∧ XisC K C ∧ NamC K C ∧ ∀ z, Q (.str z) H1
def tInit (K : PySem.W.Frag) : TS := fun D σ H => tVeI K (fun σ H Q => tVar 0 σ H fun v H1 => Q [v] H1) σ H fun _ H1 => tOst K "what" (tVar 0) (tVar 1) { D with nx := fun σ2 H2 => tOst K "kind" (tVar 0) (tNam K (tVar 0)) D σ2 H2 } σ H1
theorem init_reads {K : PySem.W.Frag} {a C : Addr} {x : V} {H : Hp} {Q : VK} (hT : OexC K C) (hX : XisC K C) (hn : NamC K C) (ha : H a = some (exo a C none)) (hno : PySem.W.findIn K (.ref C) "what" = some none) (hnk : PySem.W.findIn K (.ref C) "kind" = some none)
    (h : ∀ dx fs, H dx = none → dx ≠ a → fs.lookup ("what" : Str) = some x → Q .non (upd (upd H dx (exd dx fs)) a (exo a C (some dx)))) :
    tInit K { nx := fun _ H' => Q .non H', rt := Q } (L2.start ["self", "what"] [.ref a, x]) H := by
  refine ⟨.ref a, rfl, a, C, [], rfl, by decide, hT, ha, x, rfl, .ref a, rfl, a, C, rfl, hT, hno, .inl ⟨ha, fun dx h1 h2 => ?_⟩⟩
  have e1 : upd (upd H dx (exd dx [(("what" : Str), x)])) a (exo a C (some dx)) dx = some (exd dx [(("what" : Str), x)]) := by rw [upd_ne h2, upd_same]
  refine ⟨.ref a, rfl, a, C, some dx, rfl, upd_same, fun d e => ?_, hX, hn, fun z => ⟨.ref a, rfl, a, C, rfl, hT, hnk, .inr ⟨dx, [(("what" : Str), x)], upd_same, e1, Nat.le_of_ble_eq_true rfl, ?_⟩⟩⟩
  · cases e; exact ⟨_, e1⟩
  · rw [upd_swap h2]
    exact h dx _ h1 h2 (by rw [lookup_put, if_neg (by decide), lookup_put, if_pos rfl])
end
end Mm

namespace Mm
open PySem L2 PySem.Spec PyProof.Rows
/-! ### try with several clauses, each with a name or without -/
/-- where a suite goes on: the slot of its name, if it has one, is empty behind it -/
def dropAt (D : Ends) : Option Nat → Ends
  | none => D
  | some i => { nx := fun σ H => D.nx (σ.set i none) H, rt := D.rt, bk := fun σ H => D.bk (σ.set i none) H, ct := fun σ H => D.ct (σ.set i none) H }
def putAt (σ : L2.St) (a : Addr) : Option Nat → L2.St
  | none => σ
  | some i => σ.set i (some (.ref a))
structure Cls where
  c : Value
  i : Option Nat
  ts : Addr → Value → Option Addr → TS
def wCls (K : PySem.W.Frag) (Wout : WX) (D : Ends) : List Cls → WX
  | [] => Wout
  | q :: r => fun cls d σ H => ∃ b, PySem.W.exmOne K cls q.c = some b ∧ (b = true → ∀ a, H a = none → q.ts a cls d (dropAt D q.i) (putAt σ a q.i) H) ∧ (b = false → wCls K Wout D r cls d σ H)
/-- the name of a clause and its slot -/
def NamedAt (X : Cx) (n : Option Str) (i : Option Nat) : Prop := match n, i with
  | none, none => True
  | some n, some i => X.N.Nodup ∧ X.N[i]? = some n ∧ X.env.kindOf n = some .local
  | _, _ => False
def Suite (X : Cx) (sms : List Stmt) (ts : Addr → Value → Option Addr → TS) : Prop :=
  ∀ (a : Addr) (oe : Obj) (cls : Value) (d : Option Addr) (pn : List (Addr × Obj)), Zc cls d oe → (∃ vs, oe.data = .fields vs) → PSs (X.suite a ((a, oe) :: pn)) sms (ts a cls d)
inductive ClsOk (X : Cx) : List ExceptHandler → List Cls → Prop
  | nil : ClsOk X [] []
  | cons {x : Str} {n : Option Str} {q : Cls} {b0 : Stmt} {suite : List Stmt} {np pos : Pos} {hds : List ExceptHandler} {l : List Cls} (hc : Names X x q.c) (hn : NamedAt X n q.i) (hsu : Suite X (b0 :: suite) q.ts) (r : ClsOk X hds l) :
      ClsOk X (.ExceptHandler (some (.Name x np)) n (b0 :: suite) pos :: hds) (q :: l)
section
variable {X : Cx} {body : List Stmt} {h0 : ExceptHandler} {hds : List ExceptHandler} {l : List Cls} {pos : Pos} {tb : WX → TS} {Wout : WX}
theorem ps_try_cls (hs : X.stack = X.env :: X.outer) (hf : X.env.frame = some X.env.locals) (tk : Takes X Wout)
    (hb : ∀ (W : WX) (pn : List (Addr × Obj)) (xe : Value → Shared → Prop), Takes (X.tr pn xe) W → PassesOwn (model X.prog X.w) X.A X.env xe → PSs (X.tr pn xe) body (tb W))
    (hh : ClsOk X (h0 :: hds) l) : PS X (.Try body (h0 :: hds) [] [] pos) (fun D σ H => tb (wCls X.K Wout D l) D σ H) := by
  refine ⟨fun pins s σ H D I h => wpAny_Try_except ?_⟩
  have ok := I.ok
  have hfr : X.A.frames = some (X.env :: X.outer) := by rw [ok.frames, hs]
  let xe : Value → Shared → Prop := fun e s1 => wpAny (model X.prog X.w) X.A (noteFrame e X.env) (fun _ s2 => wpAny (model X.prog X.w) X.A (setFlight e none) (fun _ s3 => wpAny (model X.prog X.w) X.A (handleBy e X.env (h0 :: hds)) (SP X pins D) X.xe s3) X.xe s2) X.xe s1
  have caught : Takes (X.tr (X.pn ++ pins) xe) (wCls X.K Wout D l) := by
    intro u s' xx
    obtain ⟨a, B, sI, pins', σ1, H1, cls, d, rfl, J', nb, up, sky, na, os, ag, w⟩ := xx
    have J : Inv X pins σ1 H1 sI := J'.ofTry ok
    show wpAny (model X.prog X.w) X.A (noteFrame (.ref a) X.env) _ _ _
    refine Sky.land Zc.steady hfr hf (by rw [← hs]; exact sky) fun h3 fl3 up3 => ?_
    have J3 : Inv X pins σ1 H1 { s' with heap := h3 } := J.landed nb fl3.1 (up.trans up3) os ag
    obtain ⟨oe3, vs3, he3, hz3, hd3⟩ := fl3.there
    -- the exception is no frame's
    have nfr : a ∉ frs (X.env :: X.outer) := fun hm => by
      obtain ⟨_, o, e, hno⟩ := fl3.2.2.1.mem hm
      rw [he3] at e
      cases e
      exact hno _ hd3
    have nL : a ≠ X.env.locals := fun z => nfr (List.mem_filterMap.mpr ⟨X.env, List.mem_cons_self, by rw [hf, z]⟩)
    have nF : a ∉ X.fs := fun hm => by
      obtain ⟨e, he, q⟩ := List.mem_filterMap.mp hm
      exact nfr (List.mem_filterMap.mpr ⟨e, List.mem_cons_of_mem _ he, q⟩)
    have S3 := J3.suite he3 hd3 na nL nF
    suffices go : ∀ (hds2 : List ExceptHandler) (l2 : List Cls), ClsOk X hds2 l2 → wCls X.K Wout D l2 cls d σ1 H1 → wpAny (model X.prog X.w) X.A (handleBy (.ref a) X.env hds2) (SP X pins D) X.xe { s' with heap := h3 } from go _ _ hh w
    intro hds2 l2 hk
    induction hk with
    | nil =>
      intro w
      refine wpAny_handleBy_nil ?_
      obtain ⟨k1, k2, k3, oe, vs, T, oT, ts', he, hz, hd, h1, hr⟩ := id fl3
      unfold PySem.passOn
      refine wpAny_bind (wpAny_field he hd h1 ?_)
      rw [if_neg (show ¬ ((Value.ref T == Value.none) = true) from by simp)]
      have out : wpAny (model X.prog X.w) X.A (setFlight (.ref a) X.env.frame) (fun _ s4 => wpAny (model X.prog X.w) X.A (throw (.ref a) : Sem Flow) (SP X pins D) X.xe s4) X.xe { s' with heap := h3 } := by
        rw [hf]
        refine HandSPX.setFlight_upZ fl3 fun h4 hh4 up4 => wpAny_throw (tk _ _ ?_)
        exact ⟨a, B, sI, pins, σ1, H1, cls, d, rfl, J, nb, (up.trans up3).trans up4, .inr (.inr (by rw [hs]; exact hh4)), na, os, ag, w⟩
      first
        | exact wpAny_bind (wpAny_pure (wpAny_bind out))
        | exact wpAny_bind out
    | @cons x n q b0 suite np pos2 hds3 l3 hc hn hsu r ih =>
      intro w
      obtain ⟨b, hb1, hyes, hno⟩ := w
      refine wpAny_handleBy_cons (codeAny_handlers_test ?_) (by intro q; cases q)
      have LT : PySem.W.Looks (model X.prog X.w) h3 (typeOf (.ref a)) cls := fun A Q E s k q => wpAny_typeOf_ref (k _ _ he3) (by rw [hz3.1]; exact q)
      have LM := PySem.W.exm_one (M := model X.prog X.w) (J3.kIn) LT hb1
      have test : ∀ {Q : Value → Shared → Prop} {E : Value → Shared → Prop}, Q q.c { s' with heap := h3 } → wpAny (model X.prog X.w) (X.A.mark (some (.ref a))) (eval (.Name x np) X.env) Q E { s' with heap := h3 } := fun {Q E} z => by
        obtain ⟨hg, hdbg, hm | ⟨hm, hv, hnn⟩⟩ := hc
        · exact ld_glob (X := X.suite a ((a, oe3) :: (X.pn ++ pins))) S3 hg hm z hdbg
        · exact ld_blt (X := X.suite a ((a, oe3) :: (X.pn ++ pins))) S3 hg hm hv z hnn hdbg
      refine test (LM.here ?_)
      cases b with
      | false =>
        show wpAny _ X.A (handleBy (.ref a) X.env hds3) _ _ _
        exact ih (hno rfl)
      | true =>
        obtain ⟨c0, ci, ts⟩ := q
        match n, ci, hn with
        | none, none, _ =>
          refine codeAny_handlers_suite ?_
          refine HandSPX.lands_againZ fl3 fun h4 fl4 up4 => ?_
          have J4 : Inv X pins σ1 H1 { s' with heap := h4 } := J.landed nb fl4.1 ((up.trans up3).trans up4) os ag
          obtain ⟨oe4, vs4, he4, hz4, hd4⟩ := fl4.there
          have S4 := J4.suite he4 hd4 na nL nF
          refine wpAny_mono ((hsu a oe4 cls d (X.pn ++ pins) hz4 ⟨_, hd4⟩).run [] _ _ H1 _ S4 (hyes rfl a na)) (fun f s6 hsp => ?_) (fun _ _ z => False.elim z)
          cases f with
          | next => obtain ⟨σ6, H6, S6, q6⟩ := hsp; exact ⟨_, _, S6.unsuite ok, q6⟩
          | brk => obtain ⟨σ6, H6, S6, q6⟩ := hsp; exact ⟨_, _, S6.unsuite ok, q6⟩
          | cont => obtain ⟨σ6, H6, S6, q6⟩ := hsp; exact ⟨_, _, S6.unsuite ok, q6⟩
          | ret u => obtain ⟨v6, σ6, H6, S6, r6, q6⟩ := hsp; exact ⟨_, _, _, S6.unsuite ok, r6, q6⟩
        | some n, some i, hn =>
          obtain ⟨hN, hi, hln⟩ := hn
          refine codeAny_handlers_suite_as ?_
          refine HandSPX.lands_againZ fl3 fun h4 fl4 up4 => ?_
          have J4 : Inv X pins σ1 H1 { s' with heap := h4 } := J.landed nb fl4.1 ((up.trans up3).trans up4) os ag
          obtain ⟨oe4, vs4, he4, hz4, hd4⟩ := fl4.there
          have S4 := J4.suite he4 hd4 na nL nF
          refine store_ok (X := X.suite a ((a, oe4) :: (X.pn ++ pins))) (v := .ref a) S4 hN hi (.inl hln) rfl (fun s5 S5 => ?_) (.inr hln)
          refine wpAny_mono ((hsu a oe4 cls d (X.pn ++ pins) hz4 ⟨_, hd4⟩).run [] s5 _ H1 _ S5 (hyes rfl a na)) (fun f s6 hsp => ?_) (fun _ _ z => False.elim z)
          have behind : ∀ {σ6 : L2.St} {H6 : Hp} {Q : Shared → Prop}, Inv (X.suite a ((a, oe4) :: (X.pn ++ pins))) [] σ6 H6 s6 → (∀ s7, Inv X pins (σ6.set i none) H6 s7 → Q s7) →
              wpAny (model X.prog X.w) X.A (do bindName X.env n .none; unbindBehindTheSuite X.env n pos2) (fun _ s7 => Q s7) X.xe s6 := fun {σ6 H6 Q} S6 hq => gone_ok (S6.unsuite ok) hN hi hln hq
          cases f with
          | next => obtain ⟨σ6, H6, S6, q6⟩ := hsp; exact behind S6 fun s7 J7 => ⟨_, _, J7, q6⟩
          | brk => obtain ⟨σ6, H6, S6, q6⟩ := hsp; exact behind S6 fun s7 J7 => ⟨_, _, J7, q6⟩
          | cont => obtain ⟨σ6, H6, S6, q6⟩ := hsp; exact behind S6 fun s7 J7 => ⟨_, _, J7, q6⟩
          | ret u => obtain ⟨v6, σ6, H6, S6, r6, q6⟩ := hsp; exact behind S6 fun s7 J7 => ⟨_, _, _, J7, r6, q6⟩
  refine wpAny_mono ((hb _ _ xe caught PassesOwn.looking).run [] s σ H D (I.toTry _) h) (fun f s1 hsp => ?_) (fun e s1 he => he)
  cases f with
  | next => obtain ⟨σ', H', J', q⟩ := hsp; exact wpAny_execs_nil ⟨σ', H', J'.ofTry ok, q⟩
  | brk => obtain ⟨σ', H', J', q⟩ := hsp; exact ⟨σ', H', J'.ofTry ok, q⟩
  | cont => obtain ⟨σ', H', J', q⟩ := hsp; exact ⟨σ', H', J'.ofTry ok, q⟩
  | ret u => obtain ⟨v, σ', H', J', r, q⟩ := hsp; exact ⟨v, σ', H', J'.ofTry ok, r, q⟩
end
end Mm

namespace Mm
open PySem L2 PySem.Spec PyProof.Rows
def clrE (e : Env) : Option Nat → Env
  | none => e
  | some i => e.set i none
def hasE (e : Env) : Option Nat → Bool
  | none => true
  | some i => decide (i < e.length)
def dropR (i : Option Nat) : RS → RS
  | .nx e st => .nx (clrE e i) st
  | .brk e st => .brk (clrE e i) st
  | .ct e st => .ct (clrE e i) st
  | .ret d st => .ret d st
  | .exc x e st => .no
  | .no => .no
structure SC where
  c : Str
  i : Option Nat
  f : Exn → SX
/-- the clauses, one after the other: mt y c tells whether the class y is under c -/
def goC (mt : Str → Str → Option Bool) (x : Exn) (e : Env) (st : Sto) : List SC → RS
  | [] => .exc x e st
  | q :: r => match mt x.cls q.c with
    | some true => if hasE e q.i = true then dropR q.i (q.f x (clrE e q.i) st) else .no
    | some false => goC mt x e st r
    | none => .no
def sTry (mt : Str → Str → Option Bool) (names : List Str) (f : SX) (l : List SC) : SX := fun e st => match f e st with
  | .exc x e1 st1 => if names.contains x.cls = true then goC mt x e1 st1 l else .no
  | r => r
abbrev noW : WX := fun _ _ _ _ => False
/-- a suite at the exception x: what it is to do -/
def tsOf (X : Cx) (T : List (Addr × Str)) (names : List Str) (i : Option Nat) (f : Exn → SX) : Addr → Value → Option Addr → TS := fun a cls d D σ H =>
  ∃ x e st m, EnvOk X.K H m σ e ∧ (∀ j, i = some j → σ[j]? = some (some (.ref a))) ∧ Ok X.K T H m st ∧ XRep X.K X.mg H m x cls d ∧ x.cls ∈ names ∧ DenS X.K T X.mg noW H m (f x e st) D
inductive JCls (X : Cx) (T : List (Addr × Str)) (mt : Str → Str → Option Bool) (names : List Str) : List ExceptHandler → List SC → Prop
  | nil : JCls X T mt names [] []
  | cons {x : Str} {n : Option Str} {i : Option Nat} {C : Addr} {f : Exn → SX} {b0 : Stmt} {suite : List Stmt} {np pos : Pos} {hds : List ExceptHandler} {l : List SC} (hc : Names X x (.ref C)) (hn : NamedAt X n i)
      (hm : ∀ y ∈ names, ∀ b, mt y x = some b → ∀ Cy, X.mg y = some (.ref Cy) → PySem.W.exmOne X.K (.ref Cy) (.ref C) = some b) (hsu : Suite X (b0 :: suite) (tsOf X T names i f)) (r : JCls X T mt names hds l) :
      JCls X T mt names (.ExceptHandler (some (.Name x np)) n (b0 :: suite) pos :: hds) (⟨x, i, f⟩ :: l)
section
variable {X : Cx} {T : List (Addr × Str)} {W : WX} {mt : Str → Str → Option Bool} {names : List Str} {body : List Stmt} {h0 : ExceptHandler} {hds : List ExceptHandler} {l : List SC} {pos : Pos} {f : SX}
theorem EnvOk.put {K : PySem.W.Frag} {H : Hp} {m : List Addr} {s : L2.St} {e : Env} (h : EnvOk K H m s e) (a : Addr) (i : Option Nat) : EnvOk K H m (putAt s a i) (clrE e i) := by
  cases i with
  | none => exact h
  | some i =>
    refine ⟨by simp [putAt, clrE, h.1], fun j d hd => ?_⟩
    simp only [clrE, putAt] at hd ⊢
    by_cases hj : i = j
    · subst hj
      rw [List.getElem?_set] at hd
      simp at hd
    · rw [List.getElem?_set_ne hj] at hd ⊢
      exact h.2 j d hd
theorem EnvOk.drop {K : PySem.W.Frag} {H : Hp} {m : List Addr} {s : L2.St} {e : Env} (h : EnvOk K H m s e) (i : Nat) : EnvOk K H m (s.set i none) (e.set i none) := by
  refine ⟨by simp [h.1], fun j d hd => ?_⟩
  by_cases hj : i = j
  · subst hj
    rw [List.getElem?_set] at hd
    simp at hd
  · rw [List.getElem?_set_ne hj] at hd ⊢
    exact h.2 j d hd
theorem den_drop {K : PySem.W.Frag} {mg : Str → Option Value} {H : Hp} {m : List Addr} {i : Option Nat} {r : RS} {D : Ends} (h : DenS K T mg W H m (dropR i r) D) : DenS K T mg noW H m r (dropAt D i) := by
  cases r with
  | no => exact h
  | exc x e st => exact False.elim h
  | ret d st => cases i <;> exact h
  | nx e st =>
    cases i with
    | none => exact h
    | some i => exact fun s' H' m' l p ok he => h _ H' m' l p ok (he.drop i)
  | brk e st =>
    cases i with
    | none => exact h
    | some i => exact fun s' H' m' l p ok he => h _ H' m' l p ok (he.drop i)
  | ct e st =>
    cases i with
    | none => exact h
    | some i => exact fun s' H' m' l p ok he => h _ H' m' l p ok (he.drop i)
theorem jcls_ok {hds : List ExceptHandler} {l : List SC} (h : JCls X T mt names hds l) : ∃ l' : List Cls, ClsOk X hds l' ∧
    ∀ (D : Ends) (x : Exn) (e : Env) (st : Sto) (H : Hp) (m : List Addr), x.cls ∈ names → DenS X.K T X.mg W H m (goC mt x e st l) D →
      ∀ cls dd s' H' m', Le H H' → Pre m m' → Ok X.K T H' m' st → EnvOk X.K H' m' s' e → XRep X.K X.mg H' m' x cls dd → wCls X.K W D l' cls dd s' H' := by
  induction h with
  | nil => exact ⟨[], .nil, fun D x e st H m _ h => h⟩
  | @cons x n i C f b0 suite np pos hds l hc hn hm hsu r ih =>
    obtain ⟨l', h1, h2⟩ := ih
    refine ⟨⟨.ref C, i, tsOf X T names i f⟩ :: l', .cons hc hn hsu h1, fun D y e st H m hy h cls dd s' H' m' le pr ok he xr => ?_⟩
    obtain ⟨Cy, d, v, fs0, rfl, g2, rest⟩ := id xr
    unfold goC at h
    simp only at h
    cases hb : mt y.cls x with
    | none => rw [hb] at h; exact False.elim h
    | some b =>
      rw [hb] at h
      refine ⟨b, hm _ hy b hb Cy g2, fun ht a ha => ?_, fun hf => ?_⟩
      · subst ht
        simp only at h
        by_cases hh : hasE e i = true
        · rw [if_pos hh] at h
          refine ⟨y, clrE e i, st, m', he.put a i, fun j hj => ?_, ok, xr, hy, den_drop (DenS.mono h le pr)⟩
          subst hj
          have hlt : j < s'.length := by rw [← he.1]; exact of_decide_eq_true hh
          simp [putAt, hlt]
        · rw [if_neg hh] at h; exact False.elim h
      · subst hf
        simp only at h
        exact h2 D y e st H m hy h _ dd s' H' m' le pr ok he xr
theorem js_try (hs : X.stack = X.env :: X.outer) (hf : X.env.frame = some X.env.locals) (tk : Takes X W)
    (hb : ∀ (W : WX) (pn : List (Addr × Obj)) (xe : Value → Shared → Prop), Takes (X.tr pn xe) W → PassesOwn (model X.prog X.w) X.A X.env xe → JB (X.tr pn xe) T W body f)
    (hh : JCls X T mt names (h0 :: hds) l) : JS X T W (.Try body (h0 :: hds) [] [] pos) (sTry mt names f l) := by
  obtain ⟨l', h1, h2⟩ := jcls_ok (W := W) hh
  refine ps_weak (ps_try_cls (tb := fun W => tS X.K T X.mg W f) hs hf tk hb h1) fun F s H ⟨e, st, m, he, ok, h⟩ => ⟨e, st, m, he, ok, ?_⟩
  unfold sTry at h
  revert h
  generalize f e st = r
  intro h
  cases r with
  | no => exact h
  | nx e st => exact h
  | brk e st => exact h
  | ct e st => exact h
  | ret d st => exact h
  | exc x e1 st1 =>
    simp only at h
    by_cases hc : names.contains x.cls = true
    · rw [if_pos hc] at h
      exact h2 F x e1 st1 H m (by simpa using hc) h
    · rw [if_neg hc] at h; exact False.elim h
/-- a suite that does not look at the exception -/
theorem su_plain {sms : List Stmt} {i : Option Nat} {g : SX} (h : ∀ (a : Addr) (pn : List (Addr × Obj)), JB (X.suite a pn) T noW sms g) : Suite X sms (tsOf X T names i (fun _ => g)) := fun a oe cls d pn hz hf =>
  pss_weak (h a ((a, oe) :: pn)) fun D s H ⟨x, e, st, m, he, _, ok, _, _, hd⟩ => ⟨e, st, m, he, ok, hd⟩
/-- return ('s', n.what), n the exception -/
theorem su_told {i : Nat} {n s : Str} {j kt : Nat} {p1 p2 p3 p4 p5 : Pos} (hN : X.N[i]? = some n) (hv : Vis X.env.scope n) (hx : ∀ y ∈ names, ∀ Cy, X.mg y = some (.ref Cy) → XfC X.K Cy ∧ PySem.W.findIn X.K (.ref Cy) "what" = some none)
    (hd : (n == ("__debug__" : Str)) = false := by decide) (hcd : (n == ("__classdict__" : Str)) = false := by decide)
    (hb : attributeBase (.Name n p2) "what" X.env (eval (.Name n p2) X.env) = eval (.Name n p2) X.env := by rfl) :
    Suite X [.Return (some (.Tuple [.Constant (.str s) j p1, .Attribute (.Name n p2) "what" p3] kt p4)) p5] (tsOf X T names (some i) fun x _ st => .ret (.tup [.str s, x.what]) st) := by
  intro a oe cls d pn hz hf
  by_cases hy : ∃ y, y ∈ names ∧ ∃ Cy, X.mg y = some (.ref Cy) ∧ cls = .ref Cy
  · obtain ⟨y, hy, Cy, g, rfl⟩ := hy
    obtain ⟨hX, hno⟩ := hx y hy Cy g
    have ht := pe_xf (X := X) (pos := p3) hX hno hz hf (pe_var (X := X.suite a ((a, oe) :: pn)) (pos := p2) (i := i) hN hv hd hcd) hb
    refine pss_weak (pss_one (ps_ret (pe_tupN (pa_cons pe_str (pa_cons ht pa_nil))))) fun D σ H ⟨x, e, st, m, he, hs, ok, xr, hx, hd⟩ => ?_
    obtain ⟨C2, d2, v, fs, e1, e2, rfl, e4, hw, rv⟩ := xr
    cases e1
    refine ⟨.ref a, hs i rfl, rfl, rfl, d2, _, v, rfl, e4, hw, ?_, fun p o hp ho => ?_⟩
    · show 2 ≤ sizeLine
      exact lim_le (by decide)
    · exact hd (.ref p) _ m (Le.new hp) (.refl m) (ok.new hp) ⟨p, [.str s, v], rfl, .new ho, .str s, [v], rfl, rfl, v, [], rfl, rv.mono (Le.new hp) (.refl m), rfl⟩
  · refine pss_weak pss_never fun D σ H ⟨x, e, st, m, he, hs, ok, xr, hx, hd⟩ => ?_
    obtain ⟨C2, d2, v, fs, e1, e2, _⟩ := xr
    exact hy ⟨x.cls, hx, C2, e2, e1⟩
end
/-! which class is under which -/
def mtOf (l : List (Str × Str × Bool)) (y c : Str) : Option Bool := (l.find? fun t => t.1 == y && t.2.1 == c).map (·.2.2)
theorem mt_one {K : PySem.W.Frag} {mg : Str → Option Value} {o : Option Bool} {y : Str} {b b' : Bool} {C Cy : Addr} {c : Value} (h : o = some b) (e : o = some b') (hC : mg y = some (.ref Cy)) (g : mg y = some (.ref C)) (xm : PySem.W.exmOne K (.ref C) c = some b') : PySem.W.exmOne K (.ref Cy) c = some b := by
  cases hC.symm.trans g
  cases h.symm.trans e
  exact xm
theorem all_nil {P : Str → Prop} : ∀ y ∈ ([] : List Str), P y := fun _ h => by cases h
theorem all_cons {P : Str → Prop} {x : Str} {xs : List Str} (h : P x) (r : ∀ y ∈ xs, P y) : ∀ y ∈ x :: xs, P y := fun y hy => by
  rcases List.mem_cons.mp hy with rfl | hy
  · exact h
  · exact r y hy
end Mm

namespace Mm
open PySem L2 PySem.Spec PyProof.Rows LamX
/-! ### g(lambda: e), g a def that calls it in a try -/
def eHeard (s0 : Str) (n : Nat) (mt : Str → Str → Option Bool) (names : List Str) (l : List SC) (fb : EX) : EX := fun e st => match fb e st with
  | .ok d st1 => .ok (.tup [.str s0, d]) st1
  | .ex x st1 => if names.contains x.cls = true then (match goC mt x (List.replicate n none) st1 l with | .ret d st2 => .ok d st2 | _ => .no) else .no
  | .no => .no
theorem Le.ofN {H H' : Hp} (e : ExtN H H') : Le H H' :=
  ⟨fun a xs h => e a _ h (fun ps z => by cases z), fun a o u h => e a _ h (fun ps z => by cases z), fun a q h => e a _ h (fun ps z => by unfold CodeO at z; cases z)⟩
section
variable {X : Cx} {T : List (Addr × Str)} {W : WX} {pins : List (Addr × Obj)} {σ : L2.St} {H : Hp} {s : Shared}
theorem Ok.extN {K : PySem.W.Frag} {m : List Addr} {st : Sto} {H' : Hp} (ok : Ok K T H m st) (e : ExtN H H') (t : Tabs T H') : Ok K T H' m st := by
  refine ⟨ok.len, ok.nd, fun i c hc => ?_, t⟩
  obtain ⟨a, h1, h2⟩ := ok.cell i c hc
  refine ⟨a, h1, ?_⟩
  cases c with
  | lst ds =>
    obtain ⟨vs, q1, q2⟩ := h2
    exact ⟨vs, e a _ q1 (fun ps z => by cases z), Reps.mono (Le.ofN e) (.refl m) q2⟩
  | ro ds =>
    obtain ⟨vs, q1, q2⟩ := h2
    exact ⟨vs, fun H2 l => q1 H2 ((Le.ofN e).trans l), Reps.mono (Le.ofN e) (.refl m) q2⟩
/-- a(), in the def that got the lambda -/
theorem act_g {CXg : CXT} {Eg : XK} {Ng : List Str} {qg : Str} {sg : Scope} {g f c' : Addr} {cdg pm ctv : Value} {params : Arguments} {body : Expr} {scope : Scope} {k i : Nat} {a : Str} {pn : List (Addr × Obj)} {xe : Value → Shared → Prop} {fb : EX} {p1 p2 : Pos}
    (I : Inv X pins σ H s) (L : LamS X.env.scope scope) (hf : s.heap.get? f = some (PySem.W.kla_obj "<lambda>" (X.env.qual ++ "<lambda>") params body scope (cloFrom X.env.cells scope.names []) pm c' ctv)) (hfn : H f = none) (hfr : f ∉ frs X.stack)
    (hbind : bindArgs (PySem.W.kla_fn "<lambda>" (X.env.qual ++ "<lambda>") params body scope (cloFrom X.env.cells scope.names []) pm (.ref c') ctv) ⟨[], []⟩ = pure [])
    (tk : Takes ((cxOf CXg X.prog X.w X.K X.mg X.base Ng qg sg g cdg X.A X.stack s H Eg).tr pn xe) W) (hr : Room (k + 1) (X.A.deeper (envOfC qg sg s.heap.objs.size g cdg))) (hgd : X.A.guards = some [])
    (hbody : ∀ (A : Around) (outer : List PySem.Env) (s : Shared) (H : Hp) (E : XK), A.guards = some [] → Room k (A.deeper (lamEnv X scope s.heap.objs.size f c')) → J (lamCx X A outer s H E scope f c') T (fun cls d _ H' => E cls d H') body fb)
    (hN : Ng[i]? = some a) (hv : Vis sg a) (hd : (a == ("__debug__" : Str)) = false) (hcd : (a == ("__classdict__" : Str)) = false) :
    PE ((cxOf CXg X.prog X.w X.K X.mg X.base Ng qg sg g cdg X.A X.stack s H Eg).tr pn xe) (.Call (.Name a p1) [] [] p2)
      (fun σZ HZ Q => σZ[i]? = some (some (.ref f)) ∧ HZ c' = some (CodeO c' (X.env.qual ++ "<lambda>")) ∧ tE X.K T X.mg (fun cls d _ H' => W cls d σZ H') fb σ HZ Q) := by
  refine ⟨fun pinsZ sZ σZ HZ Q IZ h => ?_⟩
  obtain ⟨hs, hc, ht⟩ := h
  refine wpAny_Call_Name_kw (thn ((pe_var (pos := p1) (i := i) hN hv hd hcd).run pinsZ sZ σZ HZ (fun v H1 => v = .ref f ∧ H1 = HZ) IZ ⟨.ref f, hs, rfl, rfl⟩) fun u s1 ⟨v, H1, I1, r1, q1⟩ => ?_)
  obtain ⟨ev, eH⟩ := q1
  subst ev
  rw [eH] at I1
  obtain rfl : u = Value.ref f := r1
  have of1 := I1.base.keep f _ hf hfn hfr (fun z => nomatch (show f ∈ ([] : List Addr) from z))
  refine PySem.W.callWith_F0 ⟨_, _, _, _, of1⟩ ?_
  have un : Un (frs X.stack) [] H HZ s.heap s1.heap := I1.base
  obtain ⟨⟨oc, vs, t, hoc, hdc, hvc⟩, _, _⟩ := I1.hok c' _ hc
  have rc : codeAny (model X.prog X.w) (X.A.deeper (envOfC qg sg s.heap.objs.size g cdg)) (.call (.ref f) ⟨[], []⟩) (CR (L2.CX X.prog X.w) (envOfC qg sg s.heap.objs.size g cdg :: X.stack) X.prog X.w HZ s1 Q (WE W σZ)) s1 := by
    refine PySem.W.kla_callFunE hr.depth of1 rfl L.co L.gen rfl ⟨c', oc, vs, t, rfl, hoc, hdc, hvc⟩ ?_
    rw [hbind]
    refine wpAny_pure (wpAny_newFunctionEnv (fun y hy => (L.own y hy).2) (fun y hy => absurd hy (by simp)) (fun h1 hns hsb => ⟨I1.nolimit.fresh _ hsb, ?_⟩) L.kind)
    show codeAny _ _ (.expr body (lamEnv X scope s1.heap.objs.size f c')) _ _
    have kp : ∀ b o, s1.heap.get? b = some o → h1.get? b = some o := fun b o e => hsb.extBut b o (Nat.ne_of_lt (Heap.lt_size e)) (Heap.get?_push_of_some _ e)
    have JI : Inv (lamCx X (X.A.deeper (envOfC qg sg s.heap.objs.size g cdg)) (envOfC qg sg s.heap.objs.size g cdg :: X.stack) s1 HZ (WE W σZ) scope f c') [] σ HZ { s1 with heap := h1, toks := s1.toks + ([] : List (Str × Value)).length } :=
      lam_start2 I L I1.env0 hr.hd un hns kp
    refine PySem.W.kla_codeExpr (wpAny_mono ((hbody (X.A.deeper (envOfC qg sg s.heap.objs.size g cdg)) (envOfC qg sg s.heap.objs.size g cdg :: X.stack) s1 HZ (WE W σZ) hgd (hr.deeper _)).run [] _ _ HZ Q JI ht) (fun v s' hq => ?_) fun e s' hq => hq)
    obtain ⟨w', H', J', rv, q⟩ := hq
    exact ⟨w', H', J'.os, J'.bare, J'.base, J'.hok, rv, q⟩
  refine wpAny_call (codeAny_mono rc fun r s' hq => ?_)
  cases r with
  | error e => exact passAt tk σZ pinsZ HZ s1 e s' I1 hq
  | ok fl =>
    cases fl with
    | ret u => exact I1.after hq
    | next => exact False.elim hq
    | brk => exact False.elim hq
    | cont => exact False.elim hq
theorem j_heard {x a : Str} {g c P : Addr} {k : Nat} {pg : Arguments} {bg : List Stmt} {sg : Scope} {dV kV doc pm cdv ct oc : Value} {an od : Option Addr} {osl : Array (Option Value)} {Ng : List Str}
    {params : Arguments} {body : Expr} {scope : Scope} {p lpos pos p1 p2 p3 p4 p5 p6 : Pos} {j kt : Nat} {s0 : Str} {mt : Str → Str → Option Bool} {names : List Str} {l : List SC} {h0 : ExceptHandler} {hds : List ExceptHandler} {fb : EX}
    (hgd : X.A.guards = some []) (hg : Gl X x) (hm : X.mg x = some (.ref g)) (hk : PySem.W.keepIn X.K (.ref g) = true)
    (lk : X.K.lookup g = some ⟨oc, od, .func (PySem.W.fnOf x x pg bg sg dV kV doc pm an cdv ct), osl⟩) (hcg : PySem.W.codeIn X.K cdv x = true) (hb : L2.Binds X.K (PySem.W.fnOf x x pg bg sg dV kV doc pm an cdv ct) [a] []) (Sg : FnScope Ng [a] sg) (hNg : Ng[0]? = some a) (hva : Vis sg a)
    (hbg : bg = [.Try [.Return (some (.Tuple [.Constant (.str s0) j p1, .Call (.Name a p2) [] [] p3] kt p4)) p5] (h0 :: hds) [] [] p6])
    (hcl : ∀ (s : Shared) (H : Hp), JCls (cxOf C8.CX0 X.prog X.w X.K X.mg X.base Ng x sg g cdv X.A X.stack s H C8.E0).nox T mt names (h0 :: hds) l)
    (TB : TabB X.base X.mg c P) (hcode : X.env.code = .ref c) (hmT : (P, X.env.qual ++ "<lambda>") ∈ T) (hu : ∀ p ∈ T, p.1 = P → p.2 = X.env.qual ++ "<lambda>") (hr : Room (k + 2) X.A) (L : LamS X.env.scope scope) (hdef : defaultsOf params X.env = ([], []))
    (hbind : ∀ (q : Str) (cl : List (Str × Addr)) (pm cv ctv : Value), bindArgs (PySem.W.kla_fn "<lambda>" q params body scope cl pm cv ctv) ⟨[], []⟩ = pure [])
    (hbody : ∀ (A : Around) (outer : List PySem.Env) (s : Shared) (H : Hp) (E : XK) (f c' : Addr), A.guards = some [] → Room k (A.deeper (lamEnv X scope s.heap.objs.size f c')) → J (lamCx X A outer s H E scope f c') T (fun cls d _ H' => E cls d H') body fb)
    (hdb : (x == ("__debug__" : Str)) = false := by decide) (hd : (a == ("__debug__" : Str)) = false := by decide) (hcd : (a == ("__classdict__" : Str)) = false := by decide) :
    J X T W (.Call (.Name x p) [.Lambda params body scope lpos] [] pos) (eHeard s0 Ng.length mt names l fb) := by
  subst hbg
  refine ⟨fun pins s σ H Q I h => ?_⟩
  obtain ⟨e, st, m, he, ok, h⟩ := h
  refine wpAny_Call_Name_kw (ld_glob I hg hm ?_ hdb)
  refine PySem.W.callWith_K (h₀ := X.base) I.ok.mod.kin hk ?_ (by rfl) (by rfl)
  show wpAny _ _ (spliced ((false, eval (.Lambda params body scope lpos) X.env) :: backTo pos (starEach [] X.env))) _ _ s
  refine Calls.spliced_cons (lam_make2 I TB hcode hmT hu ok.tabs hdef (L.has I.ok) fun f c' pm' ctv H1 s' I1 eN T1 hf hfn hfr hco => ?_)
  refine Calls.spliced_nil ⟨I1.kIn, ?_⟩
  have ok1 := ok.extN eN T1
  have he1 := he.mono (Le.ofN eN) (.refl m)
  have rc : codeAny (model X.prog X.w) X.A (.call (.ref g) ⟨[.ref f], []⟩) (CR C8.CX0 X.stack X.prog X.w H1 s' Q C8.E0) s' := by
    refine run_ofS (N := Ng) (ps := [a]) (us := [.ref f]) (vs := [.ref f]) lk hcg Sg hr I1.env0 (hb s' [.ref f] I1.kIn rfl) (.cons rfl .nil) rfl fun hr' => ?_
    obtain ⟨l', q1, q2⟩ := jcls_ok (W := noW) (hcl s' H1)
    have key := ps_try_cls (X := (cxOf C8.CX0 X.prog X.w X.K X.mg X.base Ng x sg g cdv X.A X.stack s' H1 C8.E0).nox) (pos := p6)
      (tb := fun W D σZ HZ => σZ[0]? = some (some (.ref f)) ∧ HZ c' = some (CodeO c' (X.env.qual ++ "<lambda>")) ∧ tE X.K T X.mg (fun cls d _ H' => W cls d σZ H') fb σ HZ (fun v H2 => 2 ≤ sizeLine ∧ ∀ q o, H2 q = none → o.dict = none → D.rt (.ref q) (upd H2 q (.frz o (.tup [.str s0, v])))))
      (body := [.Return (some (.Tuple [.Constant (.str s0) j p1, .Call (.Name a p2) [] [] p3] kt p4)) p5]) rfl rfl LamX.takes0 (fun W pn xe tk _ => ?_) q1
    · refine ⟨_, (pss_one key).nox, ?_⟩
      refine ⟨?_, hco, e, st, m, he1, ok1, ?_⟩
      · have : (L2.start Ng [V.ref f]) = some (V.ref f) :: List.replicate (Ng.length - 1) none := rfl
        rw [this]; rfl
      · have h2 := h
        unfold eHeard at h2
        revert h2
        generalize fb e st = r
        intro h2
        cases r with
        | no => exact h2
        | ok d st1 =>
          intro y H' m' le pr ok' rv
          refine ⟨lim_le (by decide), fun q o hq ho => ?_⟩
          exact h2 (.ref q) _ m' (((Le.ofN eN).trans le).trans (Le.new hq)) pr (ok'.new hq) ⟨q, [.str s0, y], rfl, .new ho, .str s0, [y], rfl, rfl, y, [], rfl, rv.mono (Le.new hq) (.refl m'), rfl⟩
        | ex x st1 =>
          simp only at h2
          by_cases hc : names.contains x.cls = true
          · rw [if_pos hc] at h2
            have hd : DenS X.K T X.mg noW H1 m (goC mt x (List.replicate Ng.length none) st1 l) { nx := fun _ H' => Q .non H', rt := Q } := by
              revert h2
              generalize goC mt x (List.replicate Ng.length none) st1 l = r
              intro h2
              cases r with
              | ret d st2 => exact fun v H' m' le pr ok' rv => h2 v H' m' ((Le.ofN eN).trans le) pr ok' rv
              | no => exact h2
              | nx e st => exact False.elim h2
              | brk e st => exact False.elim h2
              | ct e st => exact False.elim h2
              | exc x e st => exact False.elim h2
            refine fun cls dd H' m' le pr ok' xr => q2 _ x _ st1 H1 m (by simpa using hc) hd cls dd _ H' m' le pr ok' ⟨?_, fun i d hi => ?_⟩ xr
            · have hlen : 0 < Ng.length := by
                cases Ng with
                | nil => cases hNg
                | cons => simp
              have : (L2.start Ng [V.ref f]) = some (V.ref f) :: List.replicate (Ng.length - 1) none := rfl
              rw [this]
              simp
              omega
            · rw [List.getElem?_replicate] at hi
              split at hi <;> cases hi
          · rw [if_neg hc] at h2; exact False.elim h2
    · exact pss_one (ps_ret (pe_tupN (pa_cons pe_str (pa_cons (act_g (CXg := C8.CX0) (Eg := C8.E0) (Ng := Ng) (i := 0) I1 L hf hfn hfr (hbind _ _ _ _ _) tk hr' hgd (fun A outer s2 H2 E hA hR => hbody A outer s2 H2 E f c' hA hR) hNg hva hd hcd) pa_nil))))
  refine wpAny_call (codeAny_mono rc fun r s2 hq => ?_)
  cases r with
  | error e => exact (show False from hq).elim
  | ok fl =>
    cases fl with
    | ret u => exact I1.after hq
    | next => exact False.elim hq
    | brk => exact False.elim hq
    | cont => exact False.elim hq
end
end Mm

namespace Mm
open PySem L2 PySem.Spec PyProof.Rows PySem.W
/-! ### t[::-1] of a tuple -/
theorem adjust_rev (n : Nat) : Builtin.Slice.sliceAdjust none none (-1) (n : Int) = ((n : Int) - 1, -1) := by
  simp [Builtin.Slice.sliceAdjust]
theorem places_rev (n : Nat) : Builtin.Slice.slicePlaces ((n : Int) - 1) (-1) (-1) = n := by
  unfold Builtin.Slice.slicePlaces
  simp
  omega
theorem sliceApplied_rev {prog : Program} {w : World} {A : Around} {E : Value → Shared → Prop} {s : Shared} {sl : Addr} {n : Nat} {u : Tok} {Q : Int × Int × Nat → Shared → Prop} (hs : s.heap.IsSliceOf sl .none .none (.int (-1) u)) (h : Q ((n : Int) - 1, -1, n) s) :
    wpAny (model prog w) A (Builtin.Slice.sliceApplied (.ref sl) (pure (n : Int))) Q E s := by
  obtain ⟨os, hos, hcs, hds⟩ := id hs
  unfold Builtin.Slice.sliceApplied
  refine wpAny_bind (wpAny_bind (wpAny_field hos hds rfl (wpAny_bind (wpAny_field hos hds rfl (wpAny_bind (wpAny_field hos hds rfl (wpAny_pure ?_)))))))
  refine wpAny_bind (slicePart_int ?_)
  show wpAny _ _ (if (((-1 : Int) == 0) = true) then _ else _) _ _ _
  rw [if_neg (by decide)]
  refine wpAny_bind (slicePart_none (wpAny_bind (slicePart_none (wpAny_bind (wpAny_pure ?_)))))
  show wpAny _ _ (match Builtin.Slice.sliceAdjust none none (-1) (n : Int) with | (lo, hi) => pure (lo, -1, Builtin.Slice.slicePlaces lo hi (-1))) _ _ _
  rw [adjust_rev]
  show wpAny _ _ (pure ((n : Int) - 1, -1, Builtin.Slice.slicePlaces ((n : Int) - 1) (-1) (-1))) _ _ _
  rw [places_rev]
  exact wpAny_pure h
theorem fm_some {α β : Type} {f : α → Option β} {g : α → β} : ∀ l : List α, (∀ m ∈ l, f m = some (g m)) → l.filterMap f = l.map g
  | [], _ => rfl
  | x :: r, h => by
    rw [List.filterMap_cons, h x (by simp), List.map_cons, fm_some r fun y hy => h y (by simp [hy])]
theorem pick_rev (xs : Array Value) : (List.filterMap (fun (m : Nat) => xs[(((xs.size : Nat) : Int) - 1 + (m : Int) * (-1)).toNat]?) (List.range xs.size)).toArray = xs.toList.reverse.toArray := by
  congr 1
  rw [fm_some (g := fun m => xs.toList.reverse.getD m default) _ fun m hm => by
    rw [List.mem_range] at hm
    have e1 : (((xs.size : Nat) : Int) - 1 + (m : Int) * (-1)).toNat = xs.size - 1 - m := by omega
    rw [e1]
    simp only [List.getD, ← Array.getElem?_toList]
    rw [List.getElem?_reverse (by simpa using hm)]
    rw [Array.length_toList]
    have : xs.size - 1 - m < xs.toList.length := by simp; omega
    rw [List.getElem?_eq_getElem this]
    rfl]
  apply List.ext_getElem?
  intro i
  rw [List.getElem?_map]
  by_cases hi : i < xs.size
  · rw [List.getElem?_range hi]
    have : i < xs.toList.reverse.length := by simpa using hi
    simp only [Option.map, List.getD, List.getElem?_eq_getElem this, Option.getD]
  · rw [List.getElem?_eq_none (by simpa using hi), List.getElem?_eq_none (by simpa using hi)]
    rfl
theorem getItem_tuple_rev {prog : Program} {w : World} {A : Around} {E : Value → Shared → Prop} {s : Shared} {t sl : Addr} {items : Array Value} {u : Tok} {Q : Value → Shared → Prop} (ht : IsTup s.heap t items) (hs : s.heap.IsSliceOf sl .none .none (.int (-1) u))
    (h : Q (.ref s.heap.objs.size) { s with heap := s.heap.push { cls := .type "tuple", data := .seq items.toList.reverse.toArray } }) (hsz : items.size ≤ sizeLine) : wpAny (model prog w) A (getItem (.ref t) (.ref sl)) Q E s := by
  obtain ⟨os, hos, hcs, hds⟩ := id hs
  have hTs : s.TypeIs (.ref sl) "slice" := ⟨os, hos, hcs⟩
  have hsz2 : items.toList.reverse.toArray.size ≤ sizeLine := by simpa using hsz
  refine wpAny_holding (wpAny_bind (wpAny_sequenceKey ht.typeIs (by decide) (wpAny_bind (wpAny_callSpecial?_slot ht.typeIs slot_tuple_getitem (wpAny_call_entry slot_tuple_getitem ht.typeIs entry_tuple_getitem ?_ (args_tuple_getitem _ _))))))
  have e0 : slotArgs "__getitem__" 1 { pos := [Value.ref t, Value.ref sl] } = (pure (Value.ref t, [Value.ref sl]) : Sem (Value × List Value)) := rfl
  refine wpAny_bind ?_
  rw [e0]
  refine wpAny_pure (wpAny_bind (tupleItemsOf_ ht (wpAny_bind (wpAny_typeOf hTs ?_))))
  rw [if_pos (by decide)]
  refine wpAny_bind (sliceApplied_rev (n := items.size) hs ?_)
  simp only
  rw [if_neg (by simp)]
  show wpAny _ _ (bind (Builtin.Tuple.tupleExact (List.filterMap (fun (k : Nat) => items[(((items.size : Nat) : Int) - 1 + (k : Int) * (-1)).toNat]?) (List.range items.size)).toArray) _) _ _ _
  rw [pick_rev]
  exact wpAny_bind (wpAny_newObj_type (wpAny_pure ⟨_, rfl, wpAny_pure h⟩) hsz2)
theorem pe_rev2 {X : Cx} {e : Expr} {te : TE} {k : Nat} {p1 p2 p3 pos : Pos} (he : PE X e te) : PE X (.Subscript e (.Slice none none (some (.UnaryOp .USub (.Constant (.int 1) k p1) p2)) p3) pos)
    (fun σ H Q => te σ H fun x H1 => ∃ a xs, x = V.ref a ∧ ((SqT X.K H1 a xs ∧ ∀ p o, H1 p = none → o.dict = none → Q (.ref p) (upd H1 p (.frz o (.tup xs.reverse)))) ∨ (SqL X.K H1 a xs ∧ ∀ p, H1 p = none → Q (.ref p) (upd H1 p (.lst xs.reverse))))) := by
  refine ⟨fun pins s σ H Q I h => Subscript_ (thn (he.run pins s σ H _ I h) fun v s1 ⟨x, H1, I1, r1, a, xs, ex, hq⟩ => ?_)⟩
  subst ex
  obtain rfl : v = Value.ref a := r1
  have hst := po_some (pe_un (X := X) (pos := p2) un_neg (pe_int (X := X) (i := 1) (j := k) (pos := p1)))
  refine wpAny_Slice (thn (po_none.run pins s1 σ H1 (fun o H2 => o = none ∧ H2 = H1) I1 ⟨rfl, rfl⟩) fun vl s2 ⟨l, H2, I2, pl, el, e2⟩ => ?_)
  subst el e2
  refine thn (po_none.run pins s2 σ H2 (fun o H3 => o = none ∧ H3 = H2) I2 ⟨rfl, rfl⟩) fun vu s3 ⟨u, H3, I3, pu, eu, e3⟩ => ?_
  subst eu e3
  refine thn (hst.run pins s3 σ H3 (fun o H4 => o = some (-1) ∧ H4 = H3) I3 ?_) fun vs s4 ⟨t, H4, I4, ps, et, e4⟩ => ?_
  · exact ⟨1, rfl, -1, rfl, rfl, rfl⟩
  subst et e4
  cases pl
  cases pu
  obtain ⟨tk, rfl⟩ : ∃ tk, vs = Value.int (-1) tk := by cases ps; exact ⟨_, rfl⟩
  have I5 : L2.Inv X pins σ H4 { s4 with heap := s4.heap.push { cls := .type "slice", data := .fields #[.none, .none, .int (-1) tk] } } := I4.kept (t' := s4.toks) (fun b ob q => Heap.get?_push_of_some _ q)
  have hsl : Heap.IsSliceOf (s4.heap.push { cls := .type "slice", data := .fields #[.none, .none, .int (-1) tk] }) s4.heap.objs.size .none .none (.int (-1) tk) := Heap.IsSliceOf.new s4.1 _ _ _
  have fr := HOk.fresh I5.hok (Nat.le_refl _)
  rcases hq with ⟨hx, q⟩ | ⟨hx, q⟩
  · obtain ⟨its, r, ht, hz⟩ := Inv.tuple I5 hx
    have hlen := Vals.length r
    refine tail_any (ht.typeIs) slot_tuple_getitem.lookup (getItem_tuple_rev ht hsl ?_ (by simp; omega)) rfl
    refine ⟨V.ref _, upd H4 _ (.frz (tupO its.reverse) (.tup xs.reverse)), Inv.laid I5 (fun b ob q => Heap.get?_push_of_some _ q) (Nat.le_refl _) ?_, rfl, q _ _ fr rfl⟩
    exact ⟨Heap.get?_push_size _ rfl, by simpa using hz, its.reverse, Vals.reverse r, _, Heap.get?_push_size _ rfl, rfl, 0, rfl⟩
  · obtain ⟨its, r, ht, hz⟩ := Inv.list I5 hx
    have hlen := Vals.length r
    refine tail_any (Heap.IsList.typeIs (PlainL.isList ht)) slot_list_getitem.lookup (wpAny_getItem_list_slice (lo := none) (hi := none) (st := some (-1)) (PlainL.isList ht) hsl .none .none ps (by decide) ?_ (by simp; omega)) rfl
    rw [krv_pick]
    refine ⟨V.ref _, upd H4 _ (.lst xs.reverse), Inv.laid I5 (fun b ob q => Heap.get?_push_of_some _ q) (Nat.le_refl _) ?_, rfl, q _ fr⟩
    exact ⟨by simpa using hz, its.reverse, 0, Vals.reverse r, Heap.get?_push_size _ rfl⟩
end Mm

namespace Mm
open PySem L2 PySem.Spec PyProof.Rows LamX
/-! ### the law's end, with the tables of the code objects of those defs that make lambdas -/
section
variable {P : Program} {w : World} {K : PySem.W.Frag} {mg mb : Str → Option Value} {k : Nat} {fa a : Addr} {fd : FuncData} {x : Str} {g : List D → Sto → R D} {s1 : Shared} {vs : List Value} {ns : List Int} {cs : List (Addr × Addr)} {T : List (Addr × Str)}
/-- what is tracked where the law is called: the tables, and the script unless the text holds it -/
structure Track (P : Program) (w : World) (K : PySem.W.Frag) (h : Heap) (a : Addr) (ns : List Int) (ts : List Addr) (H : Hp) : Prop where
  tab : ∀ b ∈ ts, H b = some (.tbl #[])
  only : ∀ b, H b = none ∨ b ∈ ts ∨ ∃ o xs, H b = some (.frz o (.lst xs))
  script : ∀ H', Le H H' → SqL K H' a (ns.map V.int)
  hok : HOk P w H h
  at_ : ∀ b, H b ≠ none → b = a ∨ b ∈ ts
  free : H a ≠ none → K.lookup a = none
theorem track_of {ts : List Addr} (KX : K.In s1.heap) (hT : ∀ b ∈ ts, s1.heap.get? b = some { cls := .none, data := .fields #[] }) (ha : s1.heap.get? a = some { cls := .type "list", data := .seq vs.toArray }) (hi : IntsAre vs ns) (hl : ns.length ≤ sizeLine) :
    ∃ H : Hp, Track P w K s1.heap a ns ts H := by
  have rv := vals_ints hi
  have aT : a ∉ ts := fun z => by
    have q := hT a z
    rw [ha] at q
    have q2 : Data.seq vs.toArray _ = Data.fields #[] := congrArg Obj.data (Option.some.inj q)
    cases q2
  have tOk : ∀ (H : Hp) (b : Addr), b ∈ ts → ObjOk P w H s1.heap b (.tbl #[]) := fun H b hb => hT b hb
  cases hk : K.lookup a with
  | some o =>
    have e := KX a o hk
    rw [ha] at e
    cases e
    refine ⟨fun b => if b ∈ ts then some (.tbl #[]) else none, fun b hb => if_pos hb, fun b => ?_, fun H' _ => .inr ⟨_, vs.toArray, _, hk, rfl, rfl, rfl, ?_, ?_⟩, fun b u z => ?_, fun b z => ?_, fun z => absurd (if_neg aT) z⟩
    · by_cases hb : b ∈ ts
      · exact .inr (.inl hb)
      · exact .inl (if_neg hb)
    · rw [List.size_toArray, hi.length]; exact hl
    · simpa using rv
    · by_cases hb : b ∈ ts
      · have z' := (if_pos hb).symm.trans z
        cases z'
        exact tOk _ b hb
      · have z' := (if_neg hb).symm.trans z
        cases z'
    · by_cases hb : b ∈ ts
      · exact .inr hb
      · exact absurd (if_neg hb) z
  | none =>
    let u : HO := .frz { cls := .type "list", data := .seq vs.toArray } (.lst (ns.map V.int))
    let H : Hp := fun b => if b = a then some u else if b ∈ ts then some (.tbl #[]) else none
    have at_a : H a = some u := if_pos rfl
    have at_t : ∀ b, b ≠ a → b ∈ ts → H b = some (.tbl #[]) := fun b h1 h2 => (if_neg h1).trans (if_pos h2)
    have at_n : ∀ b, b ≠ a → b ∉ ts → H b = none := fun b h1 h2 => (if_neg h1).trans (if_neg h2)
    refine ⟨H, fun b hb => at_t b (fun z => aT (by rw [← z]; exact hb)) hb, fun b => ?_, fun H' le => .inl (.inr ⟨_, le.frz a _ _ at_a⟩), fun b o z => ?_, fun b z => ?_, fun _ => hk⟩
    · by_cases h1 : b = a
      · exact .inr (.inr ⟨_, _, by rw [h1]; exact at_a⟩)
      · by_cases h2 : b ∈ ts
        · exact .inr (.inl h2)
        · exact .inl (at_n b h1 h2)
    · by_cases h1 : b = a
      · rw [h1, at_a] at z
        cases z
        rw [h1]
        exact ⟨ha, by rw [List.length_map]; exact hl, vs, _, rv, ha⟩
      · by_cases h2 : b ∈ ts
        · rw [at_t b h1 h2] at z
          cases z
          exact tOk _ b h2
        · rw [at_n b h1 h2] at z
          cases z
    · by_cases h1 : b = a
      · exact .inl h1
      · by_cases h2 : b ∈ ts
        · exact .inr h2
        · exact absurd (at_n b h1 h2) z
theorem law_callGT (KX : K.In s1.heap) (hns : s1.heap.Ns mainGlobals mg) (hb : s1.heap.Ns builtinsNs mb) (hbb : ∀ x : Str, x ≠ "__name__" → mb x = bootBuiltins x) (hlim : s1.heap.NoLimit) (hg : s1.gens = #[])
    (hT : ∀ p ∈ cs, s1.heap.get? p.2 = some { cls := .none, data := .fields #[] }) (nT : ∀ p ∈ cs, K.lookup p.2 = none) (C : ∀ p ∈ cs, PySem.W.CodeHd s1.heap p.1 p.2)
    (hbm : ∃ (bm : Addr) (ob : Obj), mg "__builtins__" = some (.ref bm) ∧ bm ≠ builtinsNs ∧ s1.heap.get? bm = some ob ∧ ob.cls = .type "module" ∧ ob.dict = some builtinsNs ∧ ob.data = .plain)
    (hTs : ∀ p ∈ T, p.1 ∈ cs.map (·.2))
    (ha : s1.heap.get? a = some { cls := .type "list", data := .seq vs.toArray }) (hi : IntsAre vs ns) (hl : ns.length ≤ sizeLine) (hr : Room k callerA)
    (F : ∀ base : Heap, K.In base → base.Ns mainGlobals mg → (∀ p ∈ cs, TabB base mg p.1 p.2) → FnG P w K mg base (L2.CX P w) k fa fd [x] (SpG K T mg 1 g)) (hbind : ∀ (s : Shared) (u : Value), BindsTo s fd ⟨[u], []⟩ [(x, u)])
    (hlaw : ∃ st', g [.ref 0] [.ro (ns.map D.int)] = .ok (.bl true) st') :
    codeAny (model P w) callerA (.call (.ref fa) ⟨[.ref a], []⟩) (fun r s' => r = .ok (.ret (.bool true)) ∧ OldK s1.heap s'.heap ∧ s'.os = s1.os ∧ AllBare s'.gens) s1 := by
  have isT : ∀ b ∈ cs.map (·.2), s1.heap.get? b = some { cls := .none, data := .fields #[] } := fun b hb => by
    obtain ⟨p, hp, e⟩ := List.mem_map.mp hb
    rw [← e]
    exact hT p hp
  have memT : ∀ p ∈ cs, p.2 ∈ cs.map (·.2) := fun p hp => List.mem_map.mpr ⟨p, hp, rfl⟩
  obtain ⟨H, HT⟩ := track_of (P := P) (w := w) KX isT ha hi hl
  have same : ∀ {b : Addr} {o : Obj}, s1.heap.get? b = some o → H b = none → (hidT s1.heap H).get? b = some o := fun e n => hidT_get e n
  -- what is neither a sequence nor an empty table is not tracked
  have plainB : ∀ {b : Addr} {o : Obj}, s1.heap.get? b = some o → (∀ vs n, o.data ≠ .seq vs n) → o.data ≠ .fields #[] → H b = none := fun {b o} e h1 h2 => by
    cases q : H b with
    | none => rfl
    | some u =>
      rcases HT.at_ b (by rw [q]; simp) with e' | e'
      · rw [e', ha] at e
        cases e
        exact (h1 _ _ rfl).elim
      · rw [isT b e'] at e
        cases e
        exact (h2 rfl).elim
  have keepNs : ∀ {b : Addr} {m : Str → Option Value}, s1.heap.Ns b m → (hidT s1.heap H).Ns b m := fun {b m} ⟨o, es, ep, e, d, r⟩ =>
    ⟨o, es, ep, same e (plainB e (fun vs n z => by rw [d] at z; cases z) fun z => by rw [d] at z; cases z), d, r⟩
  have hKb : K.In (hidT s1.heap H) := fun b o e => same (KX b o e) (by
    cases q : H b with
    | none => rfl
    | some u =>
      rcases HT.at_ b (by rw [q]; simp) with e' | e'
      · rw [e'] at e q
        rw [HT.free (by rw [q]; simp)] at e
        cases e
      · obtain ⟨p, hp, ep⟩ := List.mem_map.mp e'
        rw [← ep, nT p hp] at e
        cases e)
  have hM : Mod K mg (hidT s1.heap H) := ⟨hKb, keepNs hns, ⟨mb, keepNs hb, hbb⟩, let ⟨mc, h1, h2⟩ := hlim; ⟨mc, keepNs h1, h2⟩⟩
  have TB : ∀ p ∈ cs, TabB (hidT s1.heap H) mg p.1 p.2 := fun p hp => by
    have hTp := hT p hp
    refine ⟨?_, ?_, fun z => ?_⟩
    · obtain ⟨o, us, file, tf, flags, tg, inF, text, tt, e1, r1, r2, r3, rest⟩ := C p hp
      refine ⟨o, us, file, tf, flags, tg, inF, text, tt, same e1 (plainB e1 (fun vs n z => by rw [r2] at z; cases z) fun z => ?_), r1, r2, r3, rest⟩
      rw [r2] at z
      cases z
      simp at r3
    · obtain ⟨bm, ob, b1, b2, b3, b4, b5, b6⟩ := hbm
      have nG : bm ≠ mainGlobals := fun q => by
        obtain ⟨o, es, ep, e, hd, _⟩ := hns
        rw [q, e] at b3
        cases b3
        rw [hd] at b6
        cases b6
      have nP : bm ≠ p.2 := fun q => by
        rw [q, hTp] at b3
        cases b3
        cases b6
      exact ⟨bm, ob, b1, b2, nG, nP, same b3 (plainB b3 (fun vs n z => by rw [b6] at z; cases z) fun z => by rw [b6] at z; cases z), b4, b5, b6⟩
    · obtain ⟨o, es, ep, e, hd, _⟩ := hns
      rw [z, hTp] at e
      cases e
      cases hd
  have e0 : Env0 P w K mg (hidT s1.heap H) callerA [] s1 H := ⟨rfl, hM, fun b o e => of_hidT e, Nat.le_of_eq (hidT_size _ _), trivial, fun b hb => absurd (show b ∈ ([] : List Addr) from hb) (by simp), HT.hok, .of_eq hg⟩
  have hsp : SpG K T mg 1 g [.ref a] H (fun v _ => v = .bl true) fun _ _ _ => False := by
    refine ⟨rfl, [.ref 0], [.ro (ns.map D.int)], [a], ⟨_, [], rfl, ⟨a, rfl, rfl⟩, rfl⟩, ⟨rfl, fun i j b xs ys h1 h2 h3 h4 => ?_, fun i c hc => ?_, fun p hp => TabS.nil (HT.tab p.1 (hTs p hp))⟩, ?_⟩
    · match i, h3 with
      | 0, h3 => cases h3
      | i + 1, h3 => simp at h3
    · match i, hc with
      | 0, hc => cases hc; exact ⟨a, rfl, ns.map V.int, HT.script, Reps.of_ints ns⟩
      | i + 1, hc => simp at hc
    · obtain ⟨st', e⟩ := hlaw
      show Den K T mg _ (RD K) [] H [a] (g [.ref 0] [.ro (ns.map D.int)]) _
      rw [e]
      exact fun y H' m' _ _ _ r => r
  refine codeAny_mono ((F _ hKb (keepNs hns) TB).run callerA [] s1 H ⟨[.ref a], []⟩ [.ref a] [.ref a] _ _ rfl hr e0 (hbind s1 (.ref a)) (.cons rfl .nil) hsp) fun r s' h => ?_
  cases r with
  | error e =>
    obtain ⟨_, _, _, _, _, _, _, _, _, _, _, _, z⟩ := (show L2.CX P w [] H s1 (fun _ _ _ => False) e s' from h)
    exact z.elim
  | ok fl =>
    cases fl with
    | next => exact False.elim h
    | brk => exact False.elim h
    | cont => exact False.elim h
    | ret u =>
      obtain ⟨v, H', os, bare, un, hok', r', q⟩ := h
      have q' : v = .bl true := q
      subst q'
      obtain rfl : u = Value.bool true := r'
      have key : ∀ b o, b ∉ cs.map (·.2) → s1.heap.get? b = some o → s'.heap.get? b = some o := fun b o nb e => by
        cases q : H b with
        | none => exact un.keep b o e q (fun z => absurd (show b ∈ ([] : List Addr) from z) (by simp)) (by simp)
        | some u =>
          rcases HT.only b with z | z | ⟨ob, xs, z⟩
          · rw [q] at z; cases z
          · exact absurd z nb
          · obtain ⟨e1, _⟩ := HT.hok b _ z
            obtain ⟨e2, _⟩ := hok' b _ (un.frzs b ob _ z)
            rw [e] at e1; cases e1
            exact e2
      have grown : ∀ b ∈ cs.map (·.2), ∃ more : Array Value, s'.heap.get? b = some { cls := .none, data := .fields more } := fun b hb => by
        obtain ⟨more, z⟩ := un.tbls b #[] (HT.tab b hb)
        exact ⟨_, hok' b _ z⟩
      refine ⟨rfl, ⟨fun b o e => ?_, fun b o e => ?_⟩, os, bare⟩
      · by_cases hb : b ∈ cs.map (·.2)
        · obtain ⟨more, hm⟩ := grown b hb
          rw [isT b hb] at e
          cases e
          obtain ⟨p, hp, ep⟩ := List.mem_map.mp hb
          refine .inr (.inl ⟨?_, rfl, #[], more, rfl, by rw [Array.empty_append]; exact hm⟩)
          rw [← ep]
          exact ((C p hp).tab (hT p hp)).isCodeTable
        · exact .inl (key b o hb e)
      · by_cases hb : b ∈ cs.map (·.2)
        · obtain ⟨more, hm⟩ := grown b hb
          exact ⟨_, hm⟩
        · exact ⟨o, key b o hb e⟩
/-- what k_head leaves of a law -/
theorem walk_ofGT {l : PySem.W.OpenLaw} {n k : Nat} {q : Program} {loose : List Str} {XP : (Str → Option Value) → Heap → Prop} {YP : World → Heap → Prop} {d : DefRec} {g : List D → Sto → R D} {x : Str}
    (hn : l.most = some n) (hn2 : n ≤ sizeLine) (hdf : d.params.defaults = []) (hr : Room k callerA)
    (F : ∀ (w : World) (mg : Str → Option Value) (fa : Addr) (h : Heap), YP w h → h.Ns mainGlobals mg → mg d.name = some (.ref fa) →
      ∃ (K : PySem.W.Frag) (fd : FuncData) (cs : List (Addr × Addr)) (T : List (Addr × Str)), K.In h ∧ (∀ p ∈ cs, h.get? p.2 = some { cls := .none, data := .fields #[] }) ∧ (∀ p ∈ cs, K.lookup p.2 = none) ∧ (∀ p ∈ cs, PySem.W.CodeHd h p.1 p.2) ∧ (∀ p ∈ T, p.1 ∈ cs.map (·.2)) ∧
        (∀ (s : Shared) (u : Value), BindsTo s fd ⟨[u], []⟩ [(x, u)]) ∧
        ∀ base : Heap, K.In base → base.Ns mainGlobals mg → (∀ p ∈ cs, TabB base mg p.1 p.2) → FnG l.prog w K mg base (L2.CX l.prog w) k fa fd [x] (SpG K T mg 1 g))
    (hlaw : ∀ ns : List Int, ns.length ≤ n → ∃ st', g [.ref 0] [.ro (ns.map D.int)] = .ok (.bl true) st') :
    PySem.W.WalkO q loose XP YP l.row.toRowW d [] (fun f vs => PySem.call f vs) := by
  refine Att.attach_call hn hdf fun w s0 s1 mg mb fa o pm cd doc a vs ns G Y ho hd hcd hmg hobj hints hlen hg => ?_
  obtain ⟨K, fd, cs, T, KX, hT, nT, C, hTs, hb, hF⟩ := F w mg fa _ Y G.T.g hmg
  exact law_callGT KX G.T.g G.T.b G.T.builtins G.T.nolimit hg hT nT C G.T.bmain hTs hobj hints (Nat.le_trans hlen hn2) hr hF hb (hlaw ns hlen)
end
end Mm

namespace Mm
open PySem L2 PySem.Spec PyProof.Rows LamX
section
variable {X : Cx} {T : List (Addr × Str)} {W : WX} {k : Nat} {f : Addr} {fd : FuncData} {g : List D → Sto → R D} {x : Str} {p pos : Pos}
/-- f() -/
theorem j_call0 (F : FnG X.prog X.w X.K X.mg X.base (L2.CX X.prog X.w) k f fd [] (SpG X.K T X.mg 0 g)) (hgd : X.A.guards = some []) (hr : Room k X.A) (tk : Takes X W) (hg : Gl X x) (hm : X.mg x = some (.ref f)) (hk : PySem.W.keepIn X.K (.ref f) = true) (hb : Binds X.K fd [] [])
    (hdb : (x == ("__debug__" : Str)) = false := by decide) : J X T W (.Call (.Name x p) [] [] pos) (eCall g aN) := by
  refine ⟨fun pins s σ H Q I h => ?_⟩
  refine wpAny_Call_Name_kw (ld_glob I hg hm ?_ hdb)
  obtain ⟨en, st, m, hen, ok, h⟩ := h
  have q : SpG X.K T X.mg 0 g [] H Q (WE W σ) := by
    refine ⟨rfl, [], st, m, rfl, ok, ?_⟩
    have h1 : Den X.K T X.mg W (RD X.K) σ H m (g [] st) Q := h
    revert h1
    generalize g [] st = r
    intro h1
    cases r with
    | no => exact h1
    | ok d st2 => exact h1
    | ex xx st2 => exact h1
  refine PySem.W.callWith_K0 I.kIn hk ?_
  have b := hb s [] I.kIn rfl
  refine wpAny_call (codeAny_mono (F.run X.A X.stack s H ⟨[], []⟩ [] [] Q (WE W σ) hgd hr I.env0 b .nil q) fun r s' hq => ?_)
  cases r with
  | error e => exact passAt tk σ pins H s e s' I hq
  | ok fl =>
    cases fl with
    | ret u => exact I.after hq
    | next => exact False.elim hq
    | brk => exact False.elim hq
    | cont => exact False.elim hq
/-- g(lambda: e), of g as a def of the text -/
theorem j_heardF {a : Str} {st : Stmt} {gd : FuncData} {c P gA : Addr} {Ng : List Str} {params : Arguments} {body : Expr} {scope : Scope} {lpos p1 p2 p3 p4 p5 p6 : Pos} {j kt : Nat} {s0 : Str} {mt : Str → Str → Option Bool} {names : List Str} {l : List SC} {h0 : ExceptHandler} {hds : List ExceptHandler} {fb : EX} (k : Nat)
    (F : Fun X.K x x st gA gd) (Sg : FnScope Ng [a] (defScope st)) (hb : L2.Binds X.K gd [a] []) (hgd : X.A.guards = some []) (hg : Gl X x) (hm : X.mg x = some (.ref gA)) (hNg : Ng[0]? = some a) (hva : Vis (defScope st) a)
    (hbg : defBody st = [.Try [.Return (some (.Tuple [.Constant (.str s0) j p1, .Call (.Name a p2) [] [] p3] kt p4)) p5] (h0 :: hds) [] [] p6])
    (hcl : ∀ (cdv : Value) (s : Shared) (H : Hp), JCls (cxOf C8.CX0 X.prog X.w X.K X.mg X.base Ng x (defScope st) gA cdv X.A X.stack s H C8.E0).nox T mt names (h0 :: hds) l)
    (TB : TabB X.base X.mg c P) (hcode : X.env.code = .ref c) (hmT : (P, X.env.qual ++ "<lambda>") ∈ T) (hu : ∀ p ∈ T, p.1 = P → p.2 = X.env.qual ++ "<lambda>") (hr : Room (k + 2) X.A) (L : lamSB X.env.scope scope = true) (hdef : defaultsOf params X.env = ([], []))
    (hbind : ∀ (q : Str) (cl : List (Str × Addr)) (pm cv ctv : Value), bindArgs (PySem.W.kla_fn "<lambda>" q params body scope cl pm cv ctv) ⟨[], []⟩ = pure [])
    (hbody : ∀ (A : Around) (outer : List PySem.Env) (s : Shared) (H : Hp) (E : XK) (f c' : Addr), A.guards = some [] → Room k (A.deeper (lamEnv X scope s.heap.objs.size f c')) → J (lamCx X A outer s H E scope f c') T (fun cls d _ H' => E cls d H') body fb)
    (hdb : (x == ("__debug__" : Str)) = false := by decide) (hd : (a == ("__debug__" : Str)) = false := by decide) (hcd : (a == ("__classdict__" : Str)) = false := by decide) :
    J X T W (.Call (.Name x p) [.Lambda params body scope lpos] [] pos) (eHeard s0 Ng.length mt names l fb) := by
  obtain ⟨oc, od, kV, doc, pm, an, cdv, ct, osl, rfl, lk, hcdI⟩ := F.ex
  exact j_heard hgd hg hm F.kp lk hcdI hb Sg hNg hva hbg (hcl cdv) TB hcode hmT hu hr (lamS_by L) hdef hbind hbody hdb hd hcd
theorem tall_nil {Q : Addr × Str → Prop} : ∀ p ∈ ([] : List (Addr × Str)), Q p := fun _ h => by cases h
theorem tall_cons {Q : Addr × Str → Prop} {q : Addr × Str} {l : List (Addr × Str)} (h : Q q) (r : ∀ p ∈ l, Q p) : ∀ p ∈ q :: l, Q p := fun p hp => by
  rcases List.mem_cons.mp hp with rfl | hp
  · exact h
  · exact r p hp
def handlersOf (st : Stmt) : List ExceptHandler := match defBody st with
  | [.Try _ h _ _ _] => h
  | _ => []
end
end Mm

namespace Mm
open PySem L2 PySem.Spec PyProof.Rows
/-- a part of the text without the objects at ts -/
def dropK (ts : List Addr) (K : PySem.W.Frag) : PySem.W.Frag := K.filter fun q => !ts.contains q.1
theorem dropK_look {ts : List Addr} {a : Addr} : ∀ {K : PySem.W.Frag}, (dropK ts K).lookup a = if ts.contains a = true then none else K.lookup a
  | [] => by
    show (none : Option Obj) = _
    split <;> rfl
  | (b, o) :: r => by
    have ih := dropK_look (ts := ts) (a := a) (K := r)
    unfold dropK at ih ⊢
    by_cases hb : ts.contains b = true
    · rw [List.filter_cons_of_neg (by simpa using hb), ih]
      by_cases ha : ts.contains a = true
      · rw [if_pos ha, if_pos ha]
      · rw [if_neg ha, if_neg ha]
        have hne : (a == b) = false := by
          apply beq_eq_false_iff_ne.mpr
          intro e
          rw [e] at ha
          exact ha hb
        simp [List.lookup, hne]
    · rw [List.filter_cons_of_pos (by simpa using hb)]
      by_cases hab : (a == b) = true
      · have e : a = b := by simpa using hab
        subst e
        rw [if_neg hb]
        simp [List.lookup]
      · have hab' : (a == b) = false := by simpa using hab
        simp only [List.lookup, hab']
        exact ih
theorem dropK_in {ts : List Addr} {K : PySem.W.Frag} {h : Heap} (X : K.In h) : (dropK ts K).In h := fun a o e => by
  rw [dropK_look] at e
  split at e
  · cases e
  · exact X a o e
theorem dropK_none {ts : List Addr} {K : PySem.W.Frag} {a : Addr} (h : a ∈ ts) : (dropK ts K).lookup a = none := by
  rw [dropK_look, if_pos (by simpa using h)]
/-- the table that a code object names -/
def tabAt (o : Obj) : Option Value := match o.data with
  | .fields vs => vs[11]?
  | _ => none
/-- the object is a code object with its table at P -/
def codeHdB (o : Obj) (c P : Addr) : Bool := match o with
  | ⟨.type t, _, .fields vs, _⟩ => decide (t = "code") && decide (vs[11]? = some (.ref P)) && decide (vs.getD 11 .none = .ref P) && (match vs.getD 18 .none with | .str _ _ => true | _ => false) && (match vs.getD 7 .none with | .int _ _ => true | _ => false) &&
    (match vs.getD 9 .none with | .bool _ => true | _ => false) && (match vs.getD 10 .none with | .int _ _ => true | _ => false) && decide (c ≠ P)
  | _ => false
theorem codeHd_of {K : PySem.W.Frag} {h : Heap} {c P : Addr} {o : Obj} (X : K.In h) (lo : K.lookup c = some o) (hb : codeHdB o c P = true) : PySem.W.CodeHd h c P := by
  obtain ⟨oc, od, dt, sl⟩ := o
  cases oc with
  | type t =>
    cases dt with
    | fields vs =>
      simp only [codeHdB, Bool.and_eq_true, decide_eq_true_eq] at hb
      obtain ⟨⟨⟨⟨⟨⟨⟨h1, h2⟩, h3⟩, h4⟩, h5⟩, h6⟩, h7⟩, h8⟩ := hb
      subst h1
      split at h4
      · rename_i f tf e4
        split at h5
        · rename_i i ti e5
          split at h6
          · rename_i b e6
            split at h7
            · rename_i tx tt e7
              exact ⟨_, vs, _, _, _, _, _, _, _, X _ _ lo, rfl, rfl, h2, h3, e4, e5, e6, e7, h8⟩
            · cases h7
          · cases h6
        · cases h5
      · cases h4
    | _ => cases hb
  | _ => cases dt <;> cases hb
theorem call_nil {Q : Addr × Addr → Prop} : ∀ p ∈ ([] : List (Addr × Addr)), Q p := fun _ h => by cases h
theorem call_cons {Q : Addr × Addr → Prop} {q : Addr × Addr} {l : List (Addr × Addr)} (h : Q q) (r : ∀ p ∈ l, Q p) : ∀ p ∈ q :: l, Q p := fun p hp => by
  rcases List.mem_cons.mp hp with rfl | hp
  · exact h
  · exact r p hp
end Mm

namespace Mm
open PySem
/-! ### steps of loops -/
theorem for_nil {g : Sto → Bool} {t : TX} {body : SX} {e : Env} {st : Sto} (h : g st = true) : forL g t body [] e st = .nx e st := by
  rw [forL, if_pos h]
theorem for_nx {g : Sto → Bool} {t : TX} {body : SX} {d : D} {ds : List D} {e e1 e2 : Env} {st st2 : Sto} {r : RS} (h : g st = true) (ht : t d e = some e1) (hb : body e1 st = .nx e2 st2) (hr : forL g t body ds e2 st2 = r) : forL g t body (d :: ds) e st = r := by
  rw [forL, if_pos h, ht]; simp only; rw [hb]; exact hr
theorem for_brk {g : Sto → Bool} {t : TX} {body : SX} {d : D} {ds : List D} {e e1 e2 : Env} {st st2 : Sto} (h : g st = true) (ht : t d e = some e1) (hb : body e1 st = .brk e2 st2) : forL g t body (d :: ds) e st = .nx e2 st2 := by
  rw [forL, if_pos h, ht]; simp only; rw [hb]
theorem for_ret {g : Sto → Bool} {t : TX} {body : SX} {d x : D} {ds : List D} {e e1 : Env} {st st2 : Sto} (h : g st = true) (ht : t d e = some e1) (hb : body e1 st = .ret x st2) : forL g t body (d :: ds) e st = .ret x st2 := by
  rw [forL, if_pos h, ht]; simp only; rw [hb]
/-- every turn goes on, and leaves the store -/
theorem for_all {g : Sto → Bool} {t : TX} {body : SX} {st : Sto} (I : Env → Prop) (hg : g st = true) : ∀ (ds : List D) (e : Env), I e → (∀ d ∈ ds, ∀ e, I e → ∃ e1 e2, t d e = some e1 ∧ body e1 st = .nx e2 st ∧ I e2) → ∃ e2, forL g t body ds e st = .nx e2 st ∧ I e2
  | [], e, hi, _ => ⟨e, for_nil hg, hi⟩
  | d :: ds, e, hi, h => by
    obtain ⟨e1, e2, h1, h2, h3⟩ := h d (by simp) e hi
    obtain ⟨e3, h4, h5⟩ := for_all I hg ds e2 h3 (fun d' hd => h d' (by simp [hd]))
    exact ⟨e3, for_nx hg h1 h2 h4, h5⟩
theorem wh_no {c : BX} {body : SX} {n : Nat} {e : Env} {st st1 : Sto} (h : c e st = .ok false st1) : whL c body (n + 1) e st = .nx e st1 := by
  rw [whL, h]
theorem wh_go {c : BX} {body : SX} {n : Nat} {e e2 : Env} {st st1 st2 : Sto} {r : RS} (h : c e st = .ok true st1) (hb : body e st1 = .nx e2 st2) (hr : whL c body n e2 st2 = r) : whL c body (n + 1) e st = r := by
  rw [whL, h]; simp only; rw [hb]; exact hr
theorem up_succ (a j : Nat) : intsUp (a : Nat) (j + 1) = .int (a : Nat) :: intsUp ((a + 1 : Nat) : Int) j := rfl
/-- an invariant of each turn -/
theorem for_inv {g : Sto → Bool} {t : TX} {body : SX} (I : Env → Sto → Prop) (hg : ∀ e s, I e s → g s = true) : ∀ (ds : List D) (e : Env) (s : Sto), I e s → (∀ d ∈ ds, ∀ e s, I e s → ∃ e1 e2 s2, t d e = some e1 ∧ body e1 s = .nx e2 s2 ∧ I e2 s2) → ∃ e2 s2, forL g t body ds e s = .nx e2 s2 ∧ I e2 s2
  | [], e, s, hi, _ => ⟨e, s, for_nil (hg e s hi), hi⟩
  | d :: ds, e, s, hi, h => by
    obtain ⟨e1, e2, s2, h1, h2, h3⟩ := h d (by simp) e s hi
    obtain ⟨e3, s3, h4, h5⟩ := for_inv I hg ds e2 s2 h3 (fun d' hd => h d' (by simp [hd]))
    exact ⟨e3, s3, for_nx (hg e s hi) h1 h2 h4, h5⟩
/-- a comprehension that keeps nothing -/
theorem lc_none {g : Sto → Bool} {t : TX} {c : BX} {f : EX} {n : Nat} {e0 : Env} {st : Sto} (hg : g st = true) : ∀ ds : List D, (∀ d ∈ ds, ∃ e1, t d e0 = some e1 ∧ c e1 st = .ok false st) → lcL g t c f n e0 ds st = .ok st
  | [], _ => by rw [lcL, if_pos hg]
  | d :: ds, h => by
    obtain ⟨e1, h1, h2⟩ := h d (by simp)
    rw [lcL, if_pos hg, h1]
    simp only
    rw [h2]
    exact lc_none hg ds (fun d' hd => h d' (by simp [hd]))
theorem lc_empty {own : List Nat} {src : IX} {t : TX} {c : BX} {f : EX} {e : Env} {st st1 : Sto} {s : Src} (hs : src e st = .ok s st1) (hg : s.ok (st1 ++ [Cell.lst []]) = true) (h : ∀ d ∈ s.items, ∃ e1, t d (wipeE e own) = some e1 ∧ c e1 (st1 ++ [Cell.lst []]) = .ok false (st1 ++ [Cell.lst []])) :
    eLc own src t c f e st = .ok (.ref st1.length) (st1 ++ [Cell.lst []]) := by
  unfold eLc
  rw [hs]
  simp only
  rw [lc_none hg s.items h]
/-- [.. for .. if ..] != [] where nothing is kept -/
theorem ne_empty {a : EX} {e : Env} {st st1 : Sto} {i : Nat} (h : a e st = .ok (.ref i) st1) (hi : st1[i]? = some (.lst [])) : bB (e2 oNe a (eLst aN)) e st = .ok false (st1 ++ [Cell.lst []]) := by
  have hl : i < st1.length := (List.getElem?_eq_some_iff.mp hi).1
  have h1 : eqF (st1 ++ [Cell.lst []]) (.ref i) (.ref st1.length) = some (decide (([] : List Int) = [])) := eq_ints (by rw [List.getElem?_append_left hl, hi]; rfl) (by simp [cellItems])
  simp only [bB, e2, h, R.bind, eLst, aN, oNe, h1]
  rfl
/-- a new list is handed back -/
theorem fin_list {st r : Sto} {xs : List D} (h : lowDs st.length xs = true) : fin st (.ref st.length) (st ++ Cell.lst xs :: r) = .ok (.ref st.length) (st ++ [Cell.lst xs]) := by
  unfold fin
  rw [if_pos (.inl (by simp)), if_neg (by simp [lowD])]
  simp [h]
theorem fn_list {n : Nat} {body : SX} {ds : List D} {st r : Sto} {xs : List D} (hd : flatDs xs = true) (h : body (ds.map some ++ List.replicate (n - ds.length) none) st = .ret (.ref st.length) (st ++ Cell.lst xs :: r)) : fnS n body ds st = .ok (.ref st.length) (st ++ [Cell.lst xs]) := fn_ret h (fin_list (lows_flat _ _ hd))
/-! ### repr of what is not too great -/
mutual
def okP : PyData → Bool
  | .none | .bool _ => true
  | .int i => decide (i.natAbs < 10 ^ 60)
  | .str x => x.cps.toList.all fun c => decide (c < 16 ^ 8)
  | .list xs | .tuple xs => okPs xs
  | .dict _ => false
def okPs : List PyData → Bool
  | [] => true
  | x :: xs => okP x && okPs xs
end
theorem shown_nat (n : Nat) (h : n < 10 ^ 60) : (PyData.shown (.int (n : Nat))).length ≤ 60 := by
  simp only [PyData.shown]
  exact PyProof.Rows.toString_length_le (v := (n : Int)) (by omega) (by decide) (by
    have : (n : Int) < ((10 ^ 60 : Nat) : Int) := Int.ofNat_lt.mpr h
    exact this)
theorem ofString_len (a b : String) : (Str.ofString (a ++ b)).length = (Str.ofString a).length + (Str.ofString b).length := by
  simp only [PyProof.Rows.ofString_length, String.toList_append, List.length_append]
theorem shown_int (i : Int) (h : i.natAbs < 10 ^ 60) : (PyData.shown (.int i)).length ≤ 61 := by
  cases i with
  | ofNat n => have := shown_nat n h; exact Nat.le_succ_of_le this
  | negSucc n =>
    have h2 : n + 1 < 10 ^ 60 := h
    have h3 := shown_nat (n + 1) h2
    simp only [PyData.shown] at h3 ⊢
    have e1 : toString (Int.negSucc n) = "-" ++ toString ((n + 1 : Nat) : Int) := rfl
    show (Str.ofString (toString (Int.negSucc n))).length ≤ 61
    rw [e1, ofString_len]
    have h4 : (Str.ofString "-").length = 1 := by rw [PyProof.Rows.ofString_length]; rfl
    have h5 : (Str.ofString (toString ((n + 1 : Nat) : Int))).length ≤ 60 := h3
    omega
mutual
theorem okP_leaves : ∀ d : PyData, okP d = true → d.leavesShort 61 = true
  | .none, _ => rfl
  | .bool _, _ => rfl
  | .int i, h => decide_eq_true (shown_int i (of_decide_eq_true h))
  | .str _, h => h
  | .list xs, h => okPs_leaves xs h
  | .tuple xs, h => okPs_leaves xs h
  | .dict _, h => by cases h
theorem okPs_leaves : ∀ d : List PyData, okPs d = true → PyData.leavesShortAll 61 d = true
  | [], _ => rfl
  | x :: xs, h => by
    simp only [okPs, Bool.and_eq_true] at h
    simp only [PyData.leavesShortAll, okP_leaves x h.1, okPs_leaves xs h.2, Bool.and_self]
end
theorem log_int (i : Int) (h : i.natAbs < 10 ^ 60) : i.natAbs.log2 < 1920 := by
  by_cases h0 : i.natAbs = 0
  · rw [h0]; decide
  · exact (Nat.log2_lt h0).mpr (Nat.lt_of_lt_of_le h (by decide +kernel))
mutual
theorem okP_show : ∀ d : PyData, okP d = true → d.showable = true ∧ d.hasDict = false
  | .none, _ => ⟨rfl, rfl⟩
  | .bool _, _ => ⟨rfl, rfl⟩
  | .int i, h => ⟨decide_eq_true (log_int i (of_decide_eq_true h)), rfl⟩
  | .str _, _ => ⟨rfl, rfl⟩
  | .list xs, h => okPs_show xs h
  | .tuple xs, h => okPs_show xs h
  | .dict _, h => by cases h
theorem okPs_show : ∀ d : List PyData, okPs d = true → PyData.showableAll d = true ∧ PyData.hasDictAll d = false
  | [], _ => ⟨rfl, rfl⟩
  | x :: xs, h => by
    simp only [okPs, Bool.and_eq_true] at h
    obtain ⟨h1, h2⟩ := okP_show x h.1
    obtain ⟨h3, h4⟩ := okPs_show xs h.2
    exact ⟨by simp only [PyData.showableAll, h1, h3, Bool.and_self], by simp only [PyData.hasDictAll, h2, h4, Bool.or_self]⟩
end
theorem repr_ok {st : Sto} {d : D} {p : PyData} (h : pyS st d = some p) (ho : okP p = true) (hd : p.depth ≤ 60) (hb : p.bulk ≤ 200000) : oRepr [d] st = some (.str p.shown, st) := by
  have h1 := okP_show p ho
  have h2 := PyData.shown_le_bulk 61 (by decide) p (okP_leaves p ho)
  have h3 : p.shown.length ≤ 16000000 := by omega
  simp only [oRepr, h, h1.1, h1.2, hd, h3, decide_true, Bool.not_false, Bool.and_self, if_true, reprD]
theorem okPs_ints : ∀ ns : List Int, (∀ n ∈ ns, n.natAbs < 10 ^ 60) → okPs (ns.map PyData.int) = true
  | [], _ => rfl
  | n :: r, h => by
    have h1 := h n (by simp)
    simp only [List.map, okPs, okP, h1, decide_true, okPs_ints r (fun x hx => h x (by simp [hx])), Bool.and_self]
theorem bulk_ints : ∀ ns : List Int, PyData.bulkAll (ns.map PyData.int) = ns.length
  | [] => rfl
  | n :: r => by simp only [List.map, PyData.bulkAll, PyData.bulk, bulk_ints r, List.length_cons]; omega
theorem eqD_of {st : Sto} {x y : D} {p q : PyData} (h1 : pyS st x = some p) (h2 : pyS st y = some q) (s1 : SeqAt.shaped p = true) (s2 : SeqAt.shaped q = true) : eqD st x y = some (p.eqv q) := by
  simp only [eqD, h1, h2, s1, s2, Bool.and_self, if_true]
theorem eqF_tup {st : Sto} {xs ys : List D} {p q : List PyData} {b : Bool} (h1 : pys xs = some p) (h2 : pys ys = some q) (s1 : SeqAt.shaped (.tuple p) = true) (s2 : SeqAt.shaped (.tuple q) = true) (hb : (PyData.tuple p).eqv (.tuple q) = b) : eqF st (.tup xs) (.tup ys) = some b := by
  have h := eqD_of (st := st) (x := .tup xs) (y := .tup ys) (p := .tuple p) (q := .tuple q) (by simp only [pyS, py, h1]; rfl) (by simp only [pyS, py, h2]; rfl) s1 s2
  rw [hb] at h
  exact h
theorem fin_app {st r : Sto} {d : D} (h : flatD d = true) : fin st d (st ++ r) = .ok d st := by
  unfold fin
  rw [if_pos (.inl (by simp)), if_pos (low_flat _ d h)]
  simp
theorem fn_flat {n : Nat} {body : SX} {ds : List D} {st r : Sto} {d : D} (hd : flatD d = true) (h : body (ds.map some ++ List.replicate (n - ds.length) none) st = .ret d (st ++ r)) : fnS n body ds st = .ok d st := fn_ret h (fin_app hd)
theorem eqD_tints {st : Sto} {a b : List Int} : eqD st (.tup (a.map D.int)) (.tup (b.map D.int)) = some (decide (a = b)) := by
  simp only [eqD, pyS, py, pys_ints, Option.map, shaped_tints, PyData.eqv, eqv_ints, Bool.and_self, if_true]
theorem eqD_t0 {st : Sto} : eqD st (.tup []) (.tup []) = some true := eqD_tints (a := []) (b := [])
theorem eqD_tc {st : Sto} {n : Int} {r : List Int} : eqD st (.tup (.int n :: r.map D.int)) (.tup []) = some false := eqD_tints (a := n :: r) (b := [])
mutual
theorem lowD_mono {n m : Nat} (h : n ≤ m) : ∀ d : D, lowD n d = true → lowD m d = true
  | .ref i, q => by
    simp only [lowD, decide_eq_true_eq] at q ⊢
    omega
  | .tup xs, q => lowDs_mono h xs q
  | .non, _ => rfl
  | .bl _, _ => rfl
  | .int _, _ => rfl
  | .str _, _ => rfl
theorem lowDs_mono {n m : Nat} (h : n ≤ m) : ∀ ds : List D, lowDs n ds = true → lowDs m ds = true
  | [], _ => rfl
  | d :: ds, q => by
    simp only [lowDs, Bool.and_eq_true] at q ⊢
    exact ⟨lowD_mono h d q.1, lowDs_mono h ds q.2⟩
end
theorem lowC_mono {n m : Nat} (h : n ≤ m) : ∀ c : Cell, lowC n c = true → lowC m c = true
  | .lst xs, q => lowDs_mono h xs q
  | .ro xs, q => lowDs_mono h xs q
theorem lowS_push {n : Nat} {st : Sto} {xs : List D} (h : lowS n st = true) (hx : flatDs xs = true) : lowS (n + 1) (st ++ [Cell.lst xs]) = true := by
  simp only [lowS, List.all_append, Bool.and_eq_true] at h ⊢
  refine ⟨?_, by simp only [List.all_cons, List.all_nil, lowC, lows_flat _ _ hx, Bool.and_self]⟩
  rw [List.all_eq_true] at h ⊢
  exact fun c hc => lowC_mono (Nat.le_succ n) c (h c hc)
/-! ### a pool and what stands behind it -/
theorem pst_len {rest st : Sto} (h : Pst rest st) : st.length = 4 + rest.length := by
  obtain ⟨xs, sl, ks, a, b, _, _, _, _, _, _, rfl⟩ := h
  simp [pst]; omega
theorem pst_push {rest st : Sto} (h : Pst rest st) (c : Sto) : Pst (rest ++ c) (st ++ c) := by
  obtain ⟨xs, sl, ks, a, b, h1, h2, h3, h4, h5, h6, rfl⟩ := h
  exact ⟨xs, sl, ks, a, b, h1, h2, h3, h4, h5, h6, rfl⟩
theorem pst_get {rest st : Sto} (h : Pst rest st) (i : Nat) : st[4 + i]? = rest[i]? := by
  obtain ⟨xs, sl, ks, a, b, _, _, _, _, _, _, rfl⟩ := h
  simp [pst, show 4 + i = i + 1 + 1 + 1 + 1 by omega]
theorem pst_last {rest st : Sto} {c : Cell} (h : Pst (rest ++ [c]) st) : st[4 + rest.length]? = some c := by
  rw [pst_get h]; simp
theorem pst_set {rest st : Sto} {c c2 : Cell} (h : Pst (rest ++ [c]) st) : Pst (rest ++ [c2]) (st.set (4 + rest.length) c2) := by
  obtain ⟨xs, sl, ks, a, b, h1, h2, h3, h4, h5, h6, rfl⟩ := h
  refine ⟨xs, sl, ks, a, b, h1, h2, h3, h4, h5, h6, ?_⟩
  simp [pst, show 4 + rest.length = rest.length + 1 + 1 + 1 + 1 by omega]
theorem fin_pst {rest r st st' : Sto} {d : D} (h : Pst rest st) (hr : lowS (4 + rest.length) rest = true) (h' : Pst (rest ++ r) st') (hd : flatD d = true) : ∃ st2, fin st d st' = .ok d st2 ∧ Pst rest st2 := by
  have hl := pst_len h
  obtain ⟨xs, sl, ks, a, b, h1, h2, h3, h4, h5, h6, rfl⟩ := h'
  have e : (pst xs sl ks a b (rest ++ r)).take (4 + rest.length) = pst xs sl ks a b rest := by
    simp [pst, show 4 + rest.length = rest.length + 1 + 1 + 1 + 1 by omega]
  refine ⟨pst xs sl ks a b rest, ?_, ⟨xs, sl, ks, a, b, h1, h2, h3, h4, h5, h6, rfl⟩⟩
  have := fin_low (st := st) (st' := pst xs sl ks a b (rest ++ r)) (d := d) (by rw [hl, e]; exact low_pst h1 h2 hr) (low_flat _ d hd)
  rw [hl, e] at this
  exact this
theorem fin_lstP {rest r st st' : Sto} {xs : List D} (h : Pst rest st) (hr : lowS (4 + rest.length) rest = true) (h' : Pst (rest ++ Cell.lst xs :: r) st') (hd : flatDs xs = true) : ∃ st2, fin st (.ref (4 + rest.length)) st' = .ok (.ref (4 + rest.length)) st2 ∧ Pst (rest ++ [Cell.lst xs]) st2 := by
  have hl := pst_len h
  have hg : st'[4 + rest.length]? = some (Cell.lst xs) := by rw [pst_get h']; simp
  obtain ⟨ys, sl, ks, a, b, h1, h2, h3, h4, h5, h6, rfl⟩ := h'
  have e : (pst ys sl ks a b (rest ++ Cell.lst xs :: r)).take (4 + rest.length) = pst ys sl ks a b rest := by
    simp [pst, show 4 + rest.length = rest.length + 1 + 1 + 1 + 1 by omega]
  refine ⟨pst ys sl ks a b (rest ++ [Cell.lst xs]), ?_, ⟨ys, sl, ks, a, b, h1, h2, h3, h4, h5, h6, rfl⟩⟩
  unfold fin
  rw [hl, e]
  rw [if_pos (.inr (low_pst h1 h2 hr)), if_neg (by simp [lowD])]
  simp only [hg, lows_flat _ _ hd, if_true]
  rfl
theorem set_ok {i : Nat} {f : EX} {e : Env} {st st1 : Sto} {d : D} (h : f e st = .ok d st1) : sSet i f e st = .nx (e.set i (some d)) st1 := by
  unfold sSet; rw [h]; rfl
theorem ret_ok {f : EX} {e : Env} {st st1 : Sto} {d : D} (h : f e st = .ok d st1) : sRet f e st = .ret d st1 := by
  unfold sRet; rw [h]; rfl
theorem fin_bool (st st' : Sto) (b : Bool) : ∃ st2, fin st (.bl b) st' = .ok (.bl b) st2 := by
  unfold fin
  split
  · exact ⟨_, if_pos rfl⟩
  · exact ⟨_, rfl⟩
/-- a loop over a new list whose turns let the store grow -/
theorem for_new {src : IX} {t : TX} {body : SX} {e : Env} {st s1 : Sto} {xs : List D} {i : Nat} (I : Env → Prop) (hs : src e st = .ok ⟨xs, fun q => decide (q[i]? = s1[i]?)⟩ s1) (hi : i < s1.length) (h0 : I e)
    (h : ∀ d ∈ xs, ∀ e st, I e → ∃ e1 e2 r, t d e = some e1 ∧ body e1 st = .nx e2 (st ++ r) ∧ I e2) : ∃ e2 r, sFor src t body e st = .nx e2 (s1 ++ r) ∧ I e2 := by
  obtain ⟨e2, s2, h1, h2, r, rfl⟩ := for_inv (g := fun q => decide (q[i]? = s1[i]?)) (t := t) (body := body) (fun e s => I e ∧ ∃ r, s = s1 ++ r) (fun e s ⟨_, r, q⟩ => by subst q; rw [List.getElem?_append_left hi]; simp) xs e s1 ⟨h0, [], by simp⟩
    (fun d hd e s ⟨he, r, q⟩ => by
      subst q
      obtain ⟨e1, e2, r2, k1, k2, k3⟩ := h d hd e (s1 ++ r) he
      exact ⟨e1, e2, _, k1, k2, k3, r ++ r2, by simp⟩)
  refine ⟨e2, r, ?_, h2⟩
  unfold sFor
  rw [hs]
  exact h1
end Mm

namespace Mm
open PySem L2
/-! ### a def that calls itself -/
section
variable {P : Program} {w : World} {K : PySem.W.Frag} {mg : Str → Option Value} {base : Heap} {T : List (Addr × Str)} {CX : CXT}
theorem fnG_no {k : Nat} {f : Addr} {fd : FuncData} {ps : List Str} : FnG P w K mg base CX k f fd ps (SpG K T mg ps.length (fun _ _ => .no)) :=
  ⟨fun _ _ _ _ h => h.1, fun A outer s H args us vs Q E _ _ _ _ _ h => by
    obtain ⟨_, ds, st, m, _, _, h⟩ := h
    exact False.elim h⟩
end
/-! ### (a, *xs) -/
def aSt (a : EX) (r : AX) : AX := fun e st => (a e st).bind fun x st1 => match seqOf st1 x with
  | some xs => (r e st1).bind fun ys st2 => .ok (xs ++ ys) st2
  | none => .no
def eTupS (as : AX) : EX := fun e st => (as e st).bind fun ds st1 => if ds.length ≤ lim then .ok (.tup ds) st1 else .no
def eLstS (as : AX) : EX := fun e st => (as e st).bind fun ds st1 => if ds.length ≤ lim then .ok (.ref st1.length) (st1 ++ [.lst ds]) else .no
section
variable {X : Cx} {T : List (Addr × Str)} {W : WX} {a b c : Expr} {es : List Expr} {fa fb fc : EX} {fr : AX} {pos p2 : Pos}
abbrev JAS (X : Cx) (T : List (Addr × Str)) (W : WX) (es : List Expr) (f : AX) : Prop := PA X es (tA X.K T X.mg W f)
theorem jas_nil : JAS X T W [] aN := ja_nil.pa
theorem jas_cons (ha : J X T W a fa) (hr : JAS X T W es fr) (hs : starEach (a :: es) X.env = (false, eval a X.env) :: starEach es X.env := by rfl) : JAS X T W (a :: es) (aC fa fr) :=
  pa_weak (pa_cons ha hr hs) fun s H Q ⟨e, st, m, he, ok, h⟩ => ⟨e, st, m, he, ok, h.bind fun d v st1 H1 m1 _ l1 p1 ok1 r1 h1 =>
    ⟨e, st1, m1, he.mono l1 p1, ok1, h1.bind fun ds vs st2 H2 m2 _ l2 p2 ok2 r2 h2 => h2.of_ok (.refl H2) (.refl m2) ok2 ⟨v, vs, rfl, r1.mono l2 p2, r2⟩⟩⟩
theorem jas_star {p : Pos} (ha : J X T W a fa) (hr : JAS X T W es fr) (hs : starEach (.Starred a p :: es) X.env = (true, eval a X.env) :: starEach es X.env := by rfl) : JAS X T W (.Starred a p :: es) (aSt fa fr) :=
  pa_weak (StX.pa_star ha hr hs) fun s H Q ⟨e, st, m, he, ok, h⟩ => ⟨e, st, m, he, ok, h.bind fun d v st1 H1 m1 _ l1 p1 ok1 r1 h1 => by
    cases hx : seqOf st1 d with
    | none => simp only [hx] at h1; exact False.elim h1
    | some xs =>
      simp only [hx] at h1
      obtain ⟨a, ws, rfl, h2, h3⟩ := seq_ok ok1 r1 hx
      exact ⟨a, ws, rfl, h2.symm, e, st1, m1, he.mono l1 p1, ok1, h1.bind fun ds vs st2 H2 m2 _ l2 p2 ok2 r2 h4 => h4.of_ok (.refl H2) (.refl m2) ok2 ((h3.mono l2 p2).append r2)⟩⟩
theorem j_tupS {k : Nat} (hr : JAS X T W es fr) : J X T W (.Tuple es k pos) (eTupS fr) := pe_weak (pe_tupN hr) fun s H Q ⟨e, st, m, he, ok, h⟩ =>
  ⟨e, st, m, he, ok, h.bind fun ds vs st1 H1 m1 _ l1 p1 ok1 rs h1 => by
    by_cases hl : ds.length ≤ lim
    · simp only [if_pos hl] at h1
      exact ⟨by rw [← rs.length]; exact lim_le hl, fun p o hp ho => h1.of_ok (.new hp) (.refl m1) (ok1.new hp) ⟨p, vs, rfl, .new ho, rs.mono (.new hp) (.refl m1)⟩⟩
    · simp only [if_neg hl] at h1
      exact False.elim h1⟩
theorem j_lstS (hr : JAS X T W es fr) : J X T W (.List es pos) (eLstS fr) := pe_weak (pe_lst hr) fun s H Q ⟨e, st, m, he, ok, h⟩ =>
  ⟨e, st, m, he, ok, h.bind fun ds vs st1 H1 m1 _ l1 p1 ok1 rs h1 => by
    by_cases hl : ds.length ≤ lim
    · simp only [if_pos hl] at h1
      exact ⟨by rw [← rs.length]; exact lim_le hl, fun p hp => h1.of_ok (.new hp) (.add m1 p) (ok1.newCell hp rs) ⟨p, by rw [← ok1.len]; simp, rfl⟩⟩
    · simp only [if_neg hl] at h1
      exact False.elim h1⟩
end
end Mm

/-! ### sorted of numbers in a tuple -/
namespace SrtO
open PySem PyProof.Rows Srt
section
variable {prog : Program} {w : World} {A : Around} {E : Value → Shared → Prop} {s : Shared}
theorem gather_tup {tp : Addr} {its : List Value} {Q : List Value → Shared → Prop} (ht : s.heap.IsTuple tp its.toArray) (hz : its.length ≤ sizeLine)
    (hq : Q its { s with heap := (s.heap.push (seqObj "list" #[] 0)).update s.heap.objs.size (Obj.mapSeq (· ++ its.toArray)) }) : wpAny (model prog w) A (collect (.ref tp)) Q E s := by
  obtain ⟨ob, hob, hcl, ep, hda⟩ := id ht
  have hob2 : (s.heap.push (seqObj "list" #[] 0)).get? tp = some ob := Heap.get?_push_of_some _ hob
  have hself : (s.heap.push (seqObj "list" #[] 0)).get? s.heap.objs.size = some (seqObj "list" #[] 0) := Heap.get?_push_size _ rfl
  have hty : (Value.type "tuple" == Value.type "tuple") = true := by rfl
  unfold collect
  refine wpAny_bind (wpAny_runValue (codeAny_builtin (A := _) entry_proto_collect' ?_))
  show wpAny _ _ (do again (.builtin "list.__iadd__" ⟨[← newList [], .ref tp], []⟩)) _ _ s
  refine wpAny_bind (wpAny_newList (wpAny_pure ⟨Code.quiet_builtin _ (by decide +kernel), codeAny_builtin (A := _) entry_list_iadd' ?_⟩))
  show wpAny _ _ (Builtin.List.listExtendWith (.ref s.heap.objs.size) (.ref tp) (.ref s.heap.objs.size)) _ _ { s with heap := s.heap.push (seqObj "list" #[] 0) }
  unfold Builtin.List.listExtendWith
  refine wpAny_bind (wpAny_typeOf (T := "tuple") ⟨ob, hob2, hcl⟩ ?_)
  rw [if_pos (show _ from by rw [hty]; simp)]
  refine wpAny_bind (listItems_at hob2 hda ?_)
  refine wpAny_bind (listItems_at (n := 0) (xs := #[]) hself rfl ?_)
  rw [if_neg (show _ from by simp)]
  refine wpAny_bind (listUpdate_at (n := 0) (xs := #[]) hself rfl ?_ (Nat.zero_le _) (by show (#[] ++ its.toArray).size ≤ sizeLine + 1; simp only [Array.size_append, List.size_toArray, List.length_nil]; omega))
  refine wpAny_pure (show _ from ?_)
  show wpAny (model prog w) A (do
      let o ← load s.heap.objs.size
      match o.data with
      | .seq xs _ => pure xs.toList
      | _ => unsupported "internal:collect") Q E { s with heap := (s.heap.push (seqObj "list" #[] 0)).update s.heap.objs.size (Obj.mapSeq (· ++ its.toArray)) }
  refine wpAny_bind (wpAny_load (get?_update_seq hself _) ?_)
  show wpAny _ _ (pure ((#[] : Array Value) ++ its.toArray).toList) Q E _
  rw [show ((#[] : Array Value) ++ its.toArray).toList = its by simp]
  exact wpAny_pure hq
theorem sorted_tupO {tp : Addr} {its : List Value} {lt : Value → Value → Bool} {Q : Value → Shared → Prop} (O : Swo lt) (ht : s.heap.IsTuple tp its.toArray) (hz : its.length ≤ sizeLine)
    (hS : 2 ≤ its.length → ∀ (h1 : Heap) (a : Addr), h1.get? a = some (seqObj "list" its.toArray 0) → (∀ b o, s.heap.get? b = some o → b ≠ a ∧ h1.get? b = some o) → SortableO prog w A.in1.in1 { s with heap := h1 } a its lt)
    (hq : ∀ res : List Value, Srtd lt res → Stb lt res its → Q (.ref (s.heap.objs.size + 1)) { s with heap := sortedAll s.heap its res.toArray }) :
    wpAny (model prog w) A (call (.builtin "sorted") [.ref tp]) Q E s := by
  refine Calls.call_function_entry kind_sorted plain_sorted entry_sorted (args_sorted1 (Value.ref tp)) ?_
  unfold Builtin.«sorted»
  refine wpAny_bind (m := checkCount "sorted" 1 1 _) (wpAny_pure (show _ from ?_))
  refine wpAny_bind (gather_tup ht hz ?_)
  refine wpAny_bind (wpAny_newList (hsz := hz) ?_)
  have hn : ((s.heap.push (seqObj "list" #[] 0)).update s.heap.objs.size (Obj.mapSeq (· ++ its.toArray))).objs.size = s.heap.objs.size + 1 := by
    rw [Heap.size_update, size_push']
  have hnew : (((s.heap.push (seqObj "list" #[] 0)).update s.heap.objs.size (Obj.mapSeq (· ++ its.toArray))).push (seqObj "list" its.toArray 0)).get? (s.heap.objs.size + 1) = some (seqObj "list" its.toArray 0) := by
    rw [← hn]
    exact Heap.get?_push_size _ rfl
  have old : ∀ b o, s.heap.get? b = some o → b ≠ s.heap.objs.size + 1 ∧ (((s.heap.push (seqObj "list" #[] 0)).update s.heap.objs.size (Obj.mapSeq (· ++ its.toArray))).push (seqObj "list" its.toArray 0)).get? b = some o := fun b o q => by
    have lt : b < s.heap.objs.size := Heap.lt_size q
    refine ⟨Nat.ne_of_lt (Nat.lt_succ_of_lt lt), Heap.get?_push_of_some _ ?_⟩
    rw [Heap.get?_update_ne _ _ _ _ (Nat.ne_of_lt lt)]
    exact Heap.get?_push_of_some (seqObj "list" #[] 0) q
  show wpAny _ _ _ _ _ { s with heap := ((s.heap.push (seqObj "list" #[] 0)).update s.heap.objs.size (Obj.mapSeq (· ++ its.toArray))).push (seqObj "list" its.toArray 0) }
  rw [hn]
  refine wpAny_bind (wpAny_holding (wpAny_call_entry slot_list_sort ⟨_, hnew, rfl⟩ entry_list_sort (list_sort_ord O hnew hz (fun h2 => hS h2 _ _ hnew old) fun res h1 h2 => ⟨_, rfl, ?_⟩) (args_list_sort _)))
  exact wpAny_pure ⟨_, rfl, hq res h1 h2⟩
end
end SrtO
namespace Mm
open PySem L2
/-- the numbers in order -/
def sortI (ns : List Int) : List Int := ns.mergeSort (fun a b => decide (a ≤ b))
theorem sort_one {ns ms : List Int} (h : ms.Perm ns) (hp : ms.Pairwise (· ≤ ·)) : ms = sortI ns := by
  refine List.Perm.eq_of_pairwise (le := fun a b : Int => a ≤ b) ?_ hp ?_ (h.trans (List.mergeSort_perm ns _).symm)
  · intro a b _ _ h1 h2; omega
  · have := List.pairwise_mergeSort (le := fun a b : Int => decide (a ≤ b)) (by intro a b c h1 h2; simp only [decide_eq_true_eq] at *; omega) (by intro a b; simp only [Bool.or_eq_true, decide_eq_true_eq]; omega) ns
    exact this.imp fun h => of_decide_eq_true h
def oSorted : ON := fun ds st => match ds with
  | [d] => ((seqOf st d).bind intsOf).map fun l => (.ref st.length, st ++ [.lst ((sortI l).map .int)])
  | _ => none
section
variable {X : Cx} {T : List (Addr × Str)} {W : WX}
open PyProof.Rows in
theorem cr_sortedS : CallR X (.builtin "sorted") (fun vs H Q => ∃ (a : Addr) (ns : List Int), vs = [V.ref a] ∧ (SqL X.K H a (ns.map V.int) ∨ SqT X.K H a (ns.map V.int)) ∧ ∀ p, H p = none → Q (.ref p) (upd H p (.lst ((sortI ns).map V.int)))) := by
  intro pins s σ H vs us Q I rr h
  obtain ⟨a, ns, rfl, hs, q⟩ := h
  rcases hs with hs | hs
  · exact cr_sortedI pins s σ H _ us Q I rr ⟨a, ns, rfl, hs, fun ms p h1 h2 h3 => by rw [sort_one h1 h2]; exact q p h3⟩
  · obtain ⟨its, rv, ht, hz⟩ := I.tuple hs
    rw [Vals.ref1 rr]
    have hi := rv.ints
    refine SrtO.sorted_tupO SrtO.swo_int ht (by rw [← rv.length]; exact hz) (fun h2 h₁ a' _ _ => SrtO.ints_sortable hi h2) fun res h1 h2 => ?_
    obtain ⟨k1, k2, k3⟩ := SrtO.ints_out hi h1 h2
    obtain ⟨ep, he'⟩ := PyProof.Rows.sortedAll_at s.heap its res.toArray
    have hl : ((res.map SrtO.iv).map V.int).length ≤ sizeLine := by
      rw [List.length_map, k2.length_eq, ← List.length_map (f := V.int)]
      exact hz
    have e := sort_one k2 k3
    refine ⟨.ref _, upd H (s.heap.objs.size + 1) (.lst ((res.map SrtO.iv).map V.int)), I.laid (t' := s.toks) (fun _ _ => PyProof.Rows.sortedAll_old) (Nat.le_succ _) ⟨hl, res, ep, vals_of_ints k1, he'⟩, rfl, ?_⟩
    rw [e]
    exact q _ (I.hok.fresh (Nat.le_succ _))
theorem cre_sorted : CallR X (.builtin "sorted") (rN X.K T oSorted) := cr_of fun ds st m H xs r Q rx ok ho q => by
  match ds, ho, rx with
  | [d], ho, rx =>
    simp only [oSorted, Option.map_eq_some_iff] at ho
    obtain ⟨l, h1, rfl⟩ := ho
    obtain ⟨ys, h2, h3⟩ := seq_bind h1
    obtain ⟨a, ws, rfl, h4, h5⟩ := one_seq ok rx h2
    have h6 := reps_ints h5 h3
    subst h6
    exact ⟨_, cr_sortedS, a, l, rfl, h4, deno_lst q ok (Reps.of_ints (sortI l))⟩
end
end Mm

namespace Mm
open PySem L2
/-! ### zip of two lists or tuples -/
def SqK (t : Bool) (K : PySem.W.Frag) (H : Hp) (a : Addr) (xs : List V) : Prop := match t with
  | true => SqT K H a xs
  | false => SqL K H a xs
def SeqsK (t : Bool) (h : Heap) (a : Addr) (its : Array Value) : Prop := match t with
  | true => h.IsTuple a its
  | false => h.IsList a its
def IterK (t : Bool) (h : Heap) (it a : Addr) (i : Nat) : Prop := match t with
  | true => h.IsTupleIter it a i
  | false => h.IsListIter it a i
def iterO (t : Bool) (a : Addr) : Obj := match t with
  | true => { cls := .type "tuple_iterator", data := .fields #[.ref a, .int 0 0] }
  | false => { cls := .type "list_iterator", data := .fields #[.ref a, .int 0 0] }
section
variable {X : Cx} {pins : List (Addr × Obj)} {s : Shared} {σ : L2.St} {H : Hp} {a : Addr} {xs ys : List V}
theorem sqk_inj {t : Bool} (I : Inv X pins σ H s) (h : SqK t X.K H a xs) (h' : SqK t X.K H a ys) : xs = ys := by
  cases t with
  | true => exact I.tuple_inj h h'
  | false => exact I.list_inj h h'
theorem sqk_items {t : Bool} (I : Inv X pins σ H s) (h : SqK t X.K H a xs) : ∃ its, Vals xs its ∧ SeqsK t s.heap a its.toArray ∧ a < s.heap.objs.size := by
  cases t with
  | true => obtain ⟨its, r, p, _⟩ := I.tuple h; obtain ⟨o, e, _⟩ := id p; exact ⟨its, r, p, Heap.lt_size e⟩
  | false => obtain ⟨its, r, p, _⟩ := I.list h; exact ⟨its, r, p.isList, p.lt⟩
theorem iterk_at {t : Bool} {h h' : Heap} {it a : Addr} {i : Nat} (x : IterK t h it a i) (k : ∀ o, h.get? it = some o → h'.get? it = some o) : IterK t h' it a i := by
  cases t with
  | true => exact Heap.IsTupleIter.at x k
  | false => exact Heap.IsListIter.at x k
theorem iterk_obj {t : Bool} {h : Heap} {it a : Addr} {i : Nat} (x : IterK t h it a i) : ∃ o, h.get? it = some o ∧ ∀ v, o.data ≠ .cell v := by
  cases t with
  | true => obtain ⟨o, e, _, d⟩ := x; exact ⟨o, e, fun v q => by rw [d] at q; cases q⟩
  | false => obtain ⟨o, e, _, d⟩ := x; exact ⟨o, e, fun v q => by rw [d] at q; cases q⟩
theorem iterk_new {t : Bool} {h : Heap} {it a : Addr} (x : h.get? it = some (iterO t a)) : IterK t h it a 0 := by
  cases t with
  | true => exact ⟨_, x, rfl, rfl⟩
  | false => exact ⟨_, x, rfl, rfl⟩
theorem drawsK (t : Bool) {prog : Program} {w : World} {A : Around} (hh : A.handled = none) (it a : Addr) (hne : a ≠ it) (items : Array Value) :
    Draws prog w A it [it, a] items.size (fun i v => items[i]? = some v) (fun i h => IterK t h it a i ∧ SeqsK t h a items) := by
  cases t with
  | true => exact Draws.tuple hh it a hne items
  | false => exact Draws.list hh it a hne items
theorem beginsK (t : Bool) (a : Addr) (items : Array Value) : Begins (.ref a) (iterO t a) fun h => SeqsK t h a items := by
  cases t with
  | true => exact begins_tuple a items
  | false => exact begins_list a items
end
/-- the two sequences as they stand at each turn, the items in new pairs -/
def ItzM (ta tb : Bool) (K : PySem.W.Frag) (a b : Addr) : It :=
  ⟨fun i H => ∃ (xs ys : List V) (x y : V), SqK ta K H a xs ∧ SqK tb K H b ys ∧ xs[i]? = some x ∧ ys[i]? = some y,
    fun i H v H' => ∃ p x y, v = .ref p ∧ H p = none ∧ H' = upd H p (.tup [x, y]) ∧ (∀ xs, SqK ta K H a xs → xs[i]? = some x) ∧ ∀ ys, SqK tb K H b ys → ys[i]? = some y,
    fun i H => ∃ xs ys : List V, SqK ta K H a xs ∧ SqK tb K H b ys ∧ i = min xs.length ys.length⟩
def zipSt (ta tb : Bool) (a b : Addr) (N : Nat) (i : Nat) (h : Heap) : Prop := IsZip h (N + 4) (N + 2) (N + 3) .none ∧ IsTupOf2 h (N + 2) (.ref N) (.ref (N + 1)) ∧ (∃ x y, IsTupOf2 h (N + 3) x y) ∧ IterK ta h N a i ∧ IterK tb h (N + 1) b i
theorem mem5 {N c : Nat} (h : c ∈ [N + 4, N + 2, N + 3, N, N + 1]) : N ≤ c ∧ (c = N + 4 ∨ c = N + 2 ∨ c = N + 3 ∨ c = N ∨ c = N + 1) := by
  have e : c = N + 4 ∨ c = N + 2 ∨ c = N + 3 ∨ c = N ∨ c = N + 1 := by simpa using h
  exact ⟨by omega, e⟩
theorem turn_zipM {P : Program} {w : World} {K : PySem.W.Frag} {elts : List Expr} {kk : Nat} {tpos : Pos} {a b : Addr} {N : Nat} (ta tb : Bool) (ha : a < N) (hb : b < N) :
    Turn P w K (.Tuple elts kk tpos) (ItzM ta tb K a b) [N + 4, N + 2, N + 3, N, N + 1] (N + 4) (zipSt ta tb a b N) where
  mem := by simp
  obj := fun i h st c hc => by
    obtain ⟨hz, hT, ⟨x, y, hO⟩, k1, k2⟩ := st
    rcases (mem5 hc).2 with q | q | q | q | q
    · rw [q]; exact ⟨_, hz, fun v q => nomatch q⟩
    · rw [q]; exact ⟨_, hT, fun v q => nomatch q⟩
    · rw [q]; exact ⟨_, hO, fun v q => nomatch q⟩
    · rw [q]; exact iterk_obj k1
    · rw [q]; exact iterk_obj k2
  keep := fun i h h' st k => by
    obtain ⟨hz, hT, ⟨x, y, hO⟩, k1, k2⟩ := st
    exact ⟨k _ (by simp) _ hz, k _ (by simp) _ hT, ⟨x, y, k _ (by simp) _ hO⟩, iterk_at k1 fun o e => k _ (by simp) o e, iterk_at k2 fun o e => k _ (by simp) o e⟩
  item := by
    intro X hP hw hK hc i pins s σ H E I hf st hg
    subst hP hw hK
    obtain ⟨hz, hT, hO, k1, k2⟩ := st
    obtain ⟨xs, ys, x, y, hqx, hqy, hx, hy⟩ := hg
    obtain ⟨its, rv, p, _⟩ := sqk_items I hqx
    obtain ⟨its2, rv2, p2, _⟩ := sqk_items I hqy
    have hh : X.A.in1.handled = none := I.ok.hd hc
    have Gz := GoesN.zip2 (prog := X.prog) (w := X.w) (A := X.A) (elts := elts) (x1 := kk) (pos := tpos) (zip_sep2 (N := N) (fp1 := [a]) (fp2 := [b]) (by simpa using ha) (by simpa using hb)) (drawsK ta hh N a (Nat.ne_of_lt ha) its.toArray) (drawsK tb hh (N + 1) b (Nat.ne_of_lt (Nat.lt_succ_of_lt hb)) its2.toArray)
    have hi : i < min its.toArray.size its2.toArray.size := by
      have l1 := (List.getElem?_eq_some_iff.mp hx).1
      have l2 := (List.getElem?_eq_some_iff.mp hy).1
      rw [rv.length] at l1
      rw [rv2.length] at l2
      simp only [List.size_toArray]
      omega
    refine Gz.goes i s _ E hi ⟨hz, hT, hO, ⟨k1, p⟩, ⟨k2, p2⟩⟩ fun v h' tk hY st' hk _ => ?_
    obtain ⟨q, u, u2, rfl, hq, hu, hu2, hqt⟩ := hY
    obtain ⟨hz', hT', hO', ⟨k1', _⟩, ⟨k2', _⟩⟩ := st'
    obtain ⟨u', e1, r1⟩ := rv.get hx
    obtain ⟨u2', e2, r2⟩ := rv2.get hy
    have e1' : u' = u := by simpa [e1] using hu
    have e2' : u2' = u2 := by simpa [e2] using hu2
    subst e1' e2'
    have new : ObjOk X.prog X.w (upd H q (.tup [x, y])) h' q (.tup [x, y]) := ⟨by show 2 ≤ sizeLine; decide, [u', u2'], .cons r1 (.cons r2 .nil), hqt⟩
    have I1 := I.turnedNew (t' := tk) (ch := [N + 4, N + 2, N + 3, N, N + 1]) (h' := h') (fun c o hc' q' => hk c o (fun z => hc' (by
      have e : c = N + 4 ∨ c = N + 3 ∨ c = N ∨ c = N + 1 := by simpa using z
      rcases e with e | e | e | e <;> simp [e])) q') hf hq new
    refine ⟨.ref q, _, I1, rfl, ⟨q, x, y, rfl, I.hok.fresh hq, rfl, fun l hl => by rw [sqk_inj I hl hqx]; exact hx, fun l hl => by rw [sqk_inj I hl hqy]; exact hy⟩, ⟨hz', hT', hO', k1', k2'⟩, fun c hcm => ?_⟩
    have hcl : c < s.heap.objs.size := by
      obtain ⟨x0, y0, hO0⟩ := hO
      rcases (mem5 hcm).2 with z | z | z | z | z
      · rw [z]; exact Heap.lt_size hz
      · rw [z]; exact Heap.lt_size hT
      · rw [z]; exact Heap.lt_size hO0
      · rw [z]; obtain ⟨_, e, _⟩ := iterk_obj k1; exact Heap.lt_size e
      · rw [z]; obtain ⟨_, e, _⟩ := iterk_obj k2; exact Heap.lt_size e
    rw [upd_ne (Nat.ne_of_lt (Nat.lt_of_lt_of_le hcl hq))]
    exact (hf c hcm).1
  done := by
    intro X hP hw hK hc i pins s σ H E I hf st hg
    subst hP hw hK
    obtain ⟨hz, hT, hO, k1, k2⟩ := st
    obtain ⟨xs, ys, hqx, hqy, he⟩ := hg
    obtain ⟨its, rv, p, _⟩ := sqk_items I hqx
    obtain ⟨its2, rv2, p2, _⟩ := sqk_items I hqy
    have hh : X.A.in1.handled = none := I.ok.hd hc
    have Gz := GoesN.zip2 (prog := X.prog) (w := X.w) (A := X.A) (elts := elts) (x1 := kk) (pos := tpos) (zip_sep2 (N := N) (fp1 := [a]) (fp2 := [b]) (by simpa using ha) (by simpa using hb)) (drawsK ta hh N a (Nat.ne_of_lt ha) its.toArray) (drawsK tb hh (N + 1) b (Nat.ne_of_lt (Nat.lt_succ_of_lt hb)) its2.toArray)
    have hi : i = min its.toArray.size its2.toArray.size := by
      rw [he, rv.length, rv2.length]
      simp only [List.size_toArray]
    subst hi
    refine Gz.stops s _ E ⟨hz, hT, hO, ⟨k1, p⟩, ⟨k2, p2⟩⟩ fun h' tk hk _ => ?_
    exact I.turnedL (t' := tk) (ch := [N + 4, N + 2, N + 3, N, N + 1]) (fun c o hc' q' => hk c o (fun z => hc' (by
      have e : c = N + 4 ∨ c = N + 3 ∨ c = N ∨ c = N + 1 := by simpa using z
      rcases e with e | e | e | e <;> simp [e])) q') hf
  self := fun A i s Q E st h => wpAny_pyIter_zip st.1 h
def zipD : List D → List D → List D
  | a :: as, b :: bs => .tup [a, b] :: zipD as bs
  | _, _ => []
theorem zipD_len : ∀ (a b : List D), (zipD a b).length = min a.length b.length
  | [], _ => by simp [zipD]
  | _ :: _, [] => by simp [zipD]
  | a :: as, b :: bs => by simp [zipD, zipD_len as bs, Nat.succ_min_succ]
theorem zipD_get : ∀ (a b : List D) (i : Nat) (x y : D), a[i]? = some x → b[i]? = some y → (zipD a b)[i]? = some (.tup [x, y])
  | [], _, _, _, _, h, _ => by simp at h
  | _ :: _, [], _, _, _, _, h => by simp at h
  | a :: as, b :: bs, 0, x, y, h1, h2 => by simp at h1 h2; subst h1 h2; simp [zipD]
  | a :: as, b :: bs, i + 1, x, y, h1, h2 => by
    rw [zipD, List.getElem?_cons_succ]
    exact zipD_get as bs i x y (by simpa using h1) (by simpa using h2)
def seqG (st : Sto) : D → Option (List D × (Sto → Bool))
  | .tup xs => some (xs, fun _ => true)
  | .ref i => (cellItems st[i]?).map fun xs => (xs, fun s => decide (s[i]? = st[i]?))
  | _ => none
def iZp (a b : EX) : IX := fun e st => (a e st).bind fun x st1 => (b e st1).bind fun y st2 => match seqG st2 x, seqG st2 y with
  | some (xs, gx), some (ys, gy) => .ok ⟨zipD xs ys, fun s => gx s && gy s⟩ st2
  | _, _ => .no
theorem seqG_ok {K : PySem.W.Frag} {T : List (Addr × Str)} {H : Hp} {m : List Addr} {st : Sto} {d : D} {x : V} {xs : List D} {g : Sto → Bool} (ok : Ok K T H m st) (r : Rep K H m d x) (h : seqG st d = some (xs, g)) :
    ∃ (t : Bool) (a : Addr), x = .ref a ∧ (∃ ws, SqK t K H a ws) ∧ ∀ H' m' st', Le H H' → Pre m m' → Ok K T H' m' st' → g st' = true → ∃ vs, SqK t K H' a vs ∧ Reps K H' m' xs vs := by
  cases d with
  | tup ds =>
    cases h
    obtain ⟨a, vs, rfl, h1, h2⟩ := r
    exact ⟨true, a, rfl, ⟨vs, h1.sq⟩, fun H' m' st' l p _ _ => ⟨vs, l.sqT h1.sq, Reps.mono l p h2⟩⟩
  | ref i =>
    obtain ⟨a, hm, rfl⟩ := r
    simp only [seqG, Option.map_eq_some_iff] at h
    obtain ⟨ys, h1, h2⟩ := h
    cases h2
    obtain ⟨a', vs, q1, q2, q3⟩ := cellItems_ok ok h1
    rw [hm] at q1
    cases q1
    refine ⟨false, a, rfl, ⟨vs, q2⟩, fun H' m' st' l p ok' hg => ?_⟩
    have hg : st'[i]? = st[i]? := of_decide_eq_true hg
    obtain ⟨a', vs', z1, z2, z3⟩ := cellItems_ok ok' (by rw [hg]; exact h1)
    rw [p.get hm] at z1
    cases z1
    exact ⟨vs', z2, z3⟩
  | non | bl _ | str _ | int _ => cases h
section
open PyProof.Rows
variable {X : Cx} {T : List (Addr × Str)} {W : WX} {a b : Expr} {fa fb : EX} {pos p2 tpos : Pos} {elts : List Expr} {kk : Nat}
theorem ji_zip (hg : Gl X "zip") (hmm : X.mg "zip" = none) (ha : J X T W a fa) (hb : J X T W b fb) (hs : starEach [a, b] X.env = (false, eval a X.env) :: starEach [b] X.env := by rfl) (he2 : starEach (b :: []) X.env = (false, eval b X.env) :: starEach [] X.env := by rfl) (hpl : (backTo pos (starEach [b] X.env)).any (·.1) = false := by rfl) :
    JI true X T W (.Tuple elts kk tpos) (.Call (.Name "zip" p2) [a, b] [] pos) (iZp fa fb) := by
  refine ⟨fun pins s σ H RR I hw => ?_⟩
  obtain ⟨e, st, m, hen, ok, h⟩ := hw
  have key : tA X.K T X.mg W (aC fa (aC fb aN)) σ H (fun vs H1 => ∃ (ta tb : Bool) (x y : Addr), vs = [.ref x, .ref y] ∧ (∃ ws, SqK ta X.K H1 x ws) ∧ (∃ ws, SqK tb X.K H1 y ws) ∧ RR (ItzM ta tb X.K x y) H1) := by
    refine ⟨e, st, m, hen, ok, ?_⟩
    have h' : DenI true X.K T X.mg W σ H m ((aC fa (aC fb aN) e st).bind fun ds st2 => match ds with
        | [x, y] => (match seqG st2 x, seqG st2 y with
          | some (xs, gx), some (ys, gy) => .ok ⟨zipD xs ys, fun s => gx s && gy s⟩ st2
          | _, _ => .no)
        | _ => .no) RR := by
      have : ((aC fa (aC fb aN) e st).bind fun ds st2 => match ds with
        | [x, y] => (match seqG st2 x, seqG st2 y with
          | some (xs, gx), some (ys, gy) => R.ok (⟨zipD xs ys, fun s => gx s && gy s⟩ : Src) st2
          | _, _ => .no)
        | _ => .no) = iZp fa fb e st := by
        simp only [aC, aN, iZp]
        cases fa e st with
        | ok x st1 => simp only [Mm.R.bind]; cases fb e st1 <;> rfl
        | ex _ _ => rfl
        | no => rfl
      rw [this]
      exact h
    refine deni_of h' fun ds vs st1 H1 m1 hf l p ok1 rs h1 => ?_
    match ds, rs, h1 with
    | [dx, dy], rs, h1 =>
      obtain ⟨x, r, rfl, rx, y, r2, rfl, ry, rfl⟩ := rs
      cases hx : seqG st1 dx with
      | none => simp only [hx] at h1; exact False.elim h1
      | some px =>
        cases hy : seqG st1 dy with
        | none => simp only [hx, hy] at h1; exact False.elim h1
        | some py =>
          obtain ⟨xs, gx⟩ := px
          obtain ⟨ys, gy⟩ := py
          simp only [hx, hy] at h1
          obtain ⟨ta, ax, rfl, wx, fx⟩ := seqG_ok ok1 rx hx
          obtain ⟨tb, ay, rfl, wy, fy⟩ := seqG_ok ok1 ry hy
          refine ⟨ta, tb, ax, ay, rfl, wx, wy, h1 _ H1 m1 (.refl H1) (.refl m1) ok1 fun H' m' st' l2 p2 ok2 g2 => ?_⟩
          simp only [Bool.and_eq_true] at g2
          obtain ⟨vs, q1, q2⟩ := fx H' m' st' l2 p2 ok2 g2.1
          obtain ⟨ws, q3, q4⟩ := fy H' m' st' l2 p2 ok2 g2.2
          have e1 := Reps.length q2
          have e2 := Reps.length q4
          simp only [zipD_len]
          refine ⟨fun i hi => ⟨vs, ws, vs[i]'(by omega), ws[i]'(by omega), q1, q3, List.getElem?_eq_getElem _, List.getElem?_eq_getElem _⟩, ⟨vs, ws, q1, q3, by rw [e1, e2]⟩, fun i x H2 hi hY => ?_⟩
          obtain ⟨q, u, v, rfl, hq, rfl, k1, k2⟩ := hY
          obtain ⟨du, g1, r1⟩ := q2.back (k1 vs q1)
          obtain ⟨dv, g3, r3⟩ := q4.back (k2 ws q3)
          exact ⟨Le.new hq, ok2.new hq, _, zipD_get xs ys i du dv g1 g3, q, [u, v], rfl, .of upd_same, u, [v], rfl, r1.mono (Le.new hq) (.refl _), v, [], rfl, r3.mono (Le.new hq) (.refl _), rfl⟩
    | [], _, h1 => exact False.elim h1
    | [_], _, h1 => exact False.elim h1
    | _ :: _ :: _ :: _, _, h1 => exact False.elim h1
  refine Call_ (ld_blt I hg hmm boot_zip (PyProof.Rows.callWith_type1 (thn ((ja_cons ha (ja_cons hb ja_nil he2) hs).pa.run pos pins s σ H _ I key) fun us s1 ⟨vs, H1, I1, r1, q1⟩ => ?_) hs hpl))
  obtain ⟨ta, tb, x, y, rfl, ⟨ws, hqx⟩, ⟨ws2, hqy⟩, q⟩ := q1
  cases r1 with
  | cons r rr =>
    cases rr with
    | cons r' rr =>
      cases rr
      cases r
      cases r'
      obtain ⟨its, rv, p1, l1⟩ := sqk_items I1 hqx
      obtain ⟨its2, rv2, p3, l2⟩ := sqk_items I1 hqy
      refine zip_begins2 (beginsK ta x its.toArray) (beginsK tb y its2.toArray) p1 p3 fun h' hz hT hO g1 g2 hsz hk => wpAny_pyIter_zip hz ?_
      have I2 : Inv X pins σ H1 { s1 with heap := h' } := I1.kept (t' := s1.toks) hk
      exact ⟨s1.heap.objs.size + 4, [s1.heap.objs.size + 4, s1.heap.objs.size + 2, s1.heap.objs.size + 3, s1.heap.objs.size, s1.heap.objs.size + 1], _, _, H1, rfl, I2, turn_zipM ta tb l1 l2, ⟨hz, hT, ⟨_, _, hO⟩, iterk_new g1, iterk_new g2⟩, fun c hc => I1.fpOk (mem5 hc).1 (I1.hok.fresh (mem5 hc).1), q⟩
end
/-! ### xs[::-1] of a list or a tuple -/
def eRev (a : EX) : EX := fun e st => (a e st).bind fun x st1 => match x with
  | .ref i => match cellItems st1[i]? with
    | some xs => .ok (.ref st1.length) (st1 ++ [.lst xs.reverse])
    | none => .no
  | .tup xs => .ok (.tup xs.reverse) st1
  | _ => .no
section
variable {X : Cx} {T : List (Addr × Str)} {W : WX} {a : Expr} {fa : EX} {k : Nat} {p1 p2 p3 pos : Pos}
theorem j_rev (ha : J X T W a fa) : J X T W (.Subscript a (.Slice none none (some (.UnaryOp .USub (.Constant (.int 1) k p1) p2)) p3) pos) (eRev fa) :=
  pe_weak (pe_rev2 ha) fun s H Q ⟨e, st, m, he, ok, h⟩ => ⟨e, st, m, he, ok, h.bind fun d v st1 H1 m1 _ l1 q1 ok1 r1 h1 => by
    cases d with
    | ref i =>
      cases hc : cellItems st1[i]? with
      | none => simp only [hc] at h1; exact False.elim h1
      | some xs =>
        simp only [hc] at h1
        obtain ⟨a', hm, rfl⟩ := r1
        obtain ⟨a2, vs, z1, z2, z3⟩ := cellItems_ok ok1 hc
        rw [hm] at z1
        cases z1
        exact ⟨a', vs, rfl, .inr ⟨z2, fun p hp => h1.of_ok (.new hp) (.add m1 p) (ok1.newCell hp z3.reverse) ⟨p, by rw [← ok1.len]; simp, rfl⟩⟩⟩
    | tup xs =>
      obtain ⟨a', vs, rfl, z2, z3⟩ := r1
      exact ⟨a', vs, rfl, .inl ⟨z2.sq, fun p o hp ho => h1 (.ref p) _ m1 (.new hp) (.refl m1) (ok1.new hp) ⟨p, vs.reverse, rfl, .new ho, (Reps.mono (.new hp) (.refl m1) z3).reverse⟩⟩⟩
    | non => exact False.elim h1
    | bl _ => exact False.elim h1
    | str _ => exact False.elim h1
    | int _ => exact False.elim h1⟩
end
end Mm

namespace Mm
open PySem
/-! ### comprehensions over what is known -/
theorem app_get {st : Sto} {c : Cell} {r : Sto} : (st ++ c :: r)[st.length]? = some c := by simp
theorem app_set {st : Sto} {c d : Cell} {r : Sto} : (st ++ c :: r).set st.length d = st ++ d :: r := by simp
theorem app_low {st r : Sto} {i : Nat} (h : i < st.length) : (st ++ r)[i]? = st[i]? := List.getElem?_append_left h
theorem lcL_gen {g : Sto → Bool} {t : TX} {c : BX} {f : EX} {e0 : Env} {st : Sto} (p : D → Bool) (F : D → D) (hg : ∀ acc r, g (st ++ Cell.lst acc :: r) = true) : ∀ (ds acc : List D) (r : Sto), acc.length + ds.length ≤ lim →
    (∀ d ∈ ds, ∃ e1, t d e0 = some e1 ∧ (∀ acc r, ∃ r', c e1 (st ++ Cell.lst acc :: r) = .ok (p d) (st ++ Cell.lst acc :: r')) ∧ (p d = true → ∀ acc r, ∃ r', f e1 (st ++ Cell.lst acc :: r) = .ok (F d) (st ++ Cell.lst acc :: r'))) →
    ∃ r', lcL g t c f st.length e0 ds (st ++ Cell.lst acc :: r) = .ok (st ++ Cell.lst (acc ++ (ds.filter p).map F) :: r')
  | [], acc, r, _, _ => ⟨r, by rw [lcL, if_pos (hg acc r)]; simp⟩
  | d :: ds, acc, r, hl, h => by
    obtain ⟨e1, h1, h2, h3⟩ := h d (by simp)
    obtain ⟨r1, h4⟩ := h2 acc r
    simp only [List.length_cons] at hl
    by_cases hp : p d = true
    · obtain ⟨r2, h5⟩ := h3 hp acc r1
      obtain ⟨r3, h6⟩ := lcL_gen p F hg ds (acc ++ [F d]) r2 (by simp; omega) (fun x hx => h x (by simp [hx]))
      refine ⟨r3, ?_⟩
      rw [lcL, if_pos (hg acc r), h1]
      simp only
      rw [h4, hp]
      simp only
      rw [h5]
      simp only [lstOf, app_get, app_set]
      rw [if_pos (by omega), h6]
      simp [List.filter_cons, hp]
    · obtain ⟨r3, h6⟩ := lcL_gen p F hg ds acc r1 (by omega) (fun x hx => h x (by simp [hx]))
      refine ⟨r3, ?_⟩
      have hp' : p d = false := by simpa using hp
      rw [lcL, if_pos (hg acc r), h1]
      simp only
      rw [h4, hp']
      simp only
      rw [h6]
      simp [List.filter_cons, hp']
theorem lc_gen {own : List Nat} {src : IX} {t : TX} {c : BX} {f : EX} {e : Env} {st st1 : Sto} {ds : List D} {g : Sto → Bool} (p : D → Bool) (F : D → D) (hs : src e st = .ok ⟨ds, g⟩ st1) (hg : ∀ acc r, g (st1 ++ Cell.lst acc :: r) = true) (hl : ds.length ≤ lim)
    (h : ∀ d ∈ ds, ∃ e1, t d (wipeE e own) = some e1 ∧ (∀ acc r, ∃ r', c e1 (st1 ++ Cell.lst acc :: r) = .ok (p d) (st1 ++ Cell.lst acc :: r')) ∧ (p d = true → ∀ acc r, ∃ r', f e1 (st1 ++ Cell.lst acc :: r) = .ok (F d) (st1 ++ Cell.lst acc :: r'))) :
    ∃ r, eLc own src t c f e st = .ok (.ref st1.length) (st1 ++ Cell.lst ((ds.filter p).map F) :: r) := by
  obtain ⟨r, h1⟩ := lcL_gen p F hg ds [] [] (by simpa using hl) h
  refine ⟨r, ?_⟩
  unfold eLc
  rw [hs]
  simp only
  rw [h1]
  simp
theorem filt_all {α : Type} {p : α → Bool} : ∀ {l : List α}, (∀ x ∈ l, p x = true) → l.filter p = l
  | [], _ => rfl
  | x :: r, h => by rw [List.filter_cons, if_pos (h x (by simp)), filt_all fun y hy => h y (by simp [hy])]
/-- without a test -/
theorem lc_map {own : List Nat} {src : IX} {t : TX} {f : EX} {e : Env} {st st1 : Sto} {ds : List D} {g : Sto → Bool} (F : D → D) (hs : src e st = .ok ⟨ds, g⟩ st1) (hg : ∀ acc r, g (st1 ++ Cell.lst acc :: r) = true) (hl : ds.length ≤ lim)
    (h : ∀ d ∈ ds, ∃ e1, t d (wipeE e own) = some e1 ∧ ∀ acc r, ∃ r', f e1 (st1 ++ Cell.lst acc :: r) = .ok (F d) (st1 ++ Cell.lst acc :: r')) :
    ∃ r, eLc own src t bYes f e st = .ok (.ref st1.length) (st1 ++ Cell.lst (ds.map F) :: r) := by
  obtain ⟨r, h1⟩ := lc_gen (c := bYes) (f := f) (t := t) (own := own) (fun _ => true) F hs hg hl (fun d hd => by
    obtain ⟨e1, h1, h2⟩ := h d hd
    exact ⟨e1, h1, fun acc r => ⟨r, rfl⟩, fun _ => h2⟩)
  rw [filt_all (fun _ _ => rfl)] at h1
  exact ⟨r, h1⟩
/-- a list just made is what is walked -/
theorem seq_new {a : EX} {e : Env} {st s1 : Sto} {xs : List D} {i : Nat} (h : a e st = .ok (.ref i) s1) (hi : s1[i]? = some (.lst xs)) : iSeq a e st = .ok ⟨xs, fun q => decide (q[i]? = s1[i]?)⟩ s1 := by
  unfold iSeq
  rw [h]
  simp only [R.bind, cellItems, hi]
theorem guard_app {s1 r : Sto} {i : Nat} (h : i < s1.length) : (fun q : Sto => decide (q[i]? = s1[i]?)) (s1 ++ r) = true := by
  simp only [app_low h, decide_true]
theorem pys_len : ∀ {xs : List D} {ps : List PyData}, pys xs = some ps → ps.isEmpty = xs.isEmpty
  | [], _, h => by cases h; rfl
  | x :: r, ps, h => by
    simp only [pys] at h
    cases hx : py x with
    | none => rw [hx] at h; cases h
    | some p =>
      rw [hx] at h
      cases hr : pys r with
      | none => rw [hr] at h; cases h
      | some q => rw [hr] at h; cases h; rfl
theorem eqv_nil : ∀ ps : List PyData, (PyData.list ps).eqv (.list []) = ps.isEmpty
  | [] => rfl
  | _ :: _ => rfl
theorem shaped_nil : SeqAt.shaped (.list []) = true := by decide +kernel
theorem eqF_nil {st : Sto} {i j : Nat} {xs : List D} {ps : List PyData} (hi : st[i]? = some (.lst xs)) (hj : st[j]? = some (.lst [])) (hp : pys xs = some ps) (hs : SeqAt.shaped (.list ps) = true) : eqF st (.ref i) (.ref j) = some xs.isEmpty := by
  have h1 : pyS st (.ref i) = some (.list ps) := by simp only [pyS, cellItems, hi, hp]; rfl
  have h2 : pyS st (.ref j) = some (.list []) := by simp only [pyS, cellItems, hj]; rfl
  have h3 := eqD_of h1 h2 hs shaped_nil
  rw [eqv_nil, pys_len hp] at h3
  exact h3
/-- a list == [] -/
theorem eq_nil {a : EX} {e : Env} {st s1 : Sto} {i : Nat} {xs : List D} {ps : List PyData} (h : a e st = .ok (.ref i) s1) (hi : s1[i]? = some (.lst xs)) (hp : pys xs = some ps) (hs : SeqAt.shaped (.list ps) = true) : e2 oEq a (eLst aN) e st = .ok (.bl xs.isEmpty) (s1 ++ [Cell.lst []]) := by
  have hl : i < s1.length := (List.getElem?_eq_some_iff.mp hi).1
  have h1 := eqF_nil (st := s1 ++ [Cell.lst []]) (i := i) (j := s1.length) (by rw [app_low hl]; exact hi) (by simp) hp hs
  simp only [e2, h, R.bind, eLst, aN, oEq, h1]
  rfl
theorem ne_nil {a : EX} {e : Env} {st s1 : Sto} {i : Nat} {xs : List D} {ps : List PyData} (h : a e st = .ok (.ref i) s1) (hi : s1[i]? = some (.lst xs)) (hp : pys xs = some ps) (hs : SeqAt.shaped (.list ps) = true) : e2 oNe a (eLst aN) e st = .ok (.bl (!xs.isEmpty)) (s1 ++ [Cell.lst []]) := by
  have hl : i < s1.length := (List.getElem?_eq_some_iff.mp hi).1
  have h1 := eqF_nil (st := s1 ++ [Cell.lst []]) (i := i) (j := s1.length) (by rw [app_low hl]; exact hi) (by simp) hp hs
  simp only [e2, h, R.bind, eLst, aN, oNe, h1]
  rfl
theorem pys_tups : ∀ ls : List (List Int), pys (ls.map fun l => .tup (l.map .int)) = some (ls.map fun l => .tuple (l.map .int))
  | [] => rfl
  | l :: r => by
    have h := pys_tups r
    simp only [List.map, pys, py, pys_ints, h, Option.bind, Option.map]
theorem lay_tups : ∀ ls : List (List Int), PyData.canLayAll0 (ls.map fun l => .tuple (l.map .int)) = true
  | [] => rfl
  | l :: r => by simp only [List.map, PyData.canLayAll0, PyData.canLay0, lay_ints, lay_tups r, Bool.and_self]
theorem dep_tups : ∀ ls : List (List Int), PyData.depthAll (ls.map fun l => .tuple (l.map .int)) ≤ 1
  | [] => by decide
  | l :: r => by
    have := dep_tups r
    simp only [List.map, PyData.depthAll, PyData.depth, dep_ints]
    omega
theorem shaped_tups (ls : List (List Int)) : SeqAt.shaped (.list (ls.map fun l => .tuple (l.map .int))) = true := by
  have h1 := dep_tups ls
  have h2 : PyData.depth (.list (ls.map fun l => .tuple (l.map .int))) ≤ 64 := by simp only [PyData.depth]; omega
  simp only [SeqAt.shaped, PyData.canLay0, lay_tups, h2, decide_true, Bool.and_self]
theorem shaped_ttups (ls : List (List Int)) : SeqAt.shaped (.tuple (ls.map fun l => .tuple (l.map .int))) = true := by
  have h1 := dep_tups ls
  have h2 : PyData.depth (.tuple (ls.map fun l => .tuple (l.map .int))) ≤ 64 := by simp only [PyData.depth]; omega
  simp only [SeqAt.shaped, PyData.canLay0, lay_tups, h2, decide_true, Bool.and_self]
theorem if_no {c : BX} {f : SX} {e : Env} {st st1 : Sto} (h : c e st = .ok false st1) : sIf c f sNx e st = .nx e st1 := by
  unfold sIf; rw [h]; rfl
/-- a comprehension that makes nothing else -/
theorem lcL_pure {g : Sto → Bool} {t : TX} {c : BX} {f : EX} {e0 : Env} {st : Sto} (p : D → Bool) (F : D → D) (hg : ∀ acc, g (st ++ [Cell.lst acc]) = true) : ∀ (ds acc : List D), acc.length + ds.length ≤ lim →
    (∀ d ∈ ds, ∃ e1, t d e0 = some e1 ∧ (∀ acc, c e1 (st ++ [Cell.lst acc]) = .ok (p d) (st ++ [Cell.lst acc])) ∧ (p d = true → ∀ acc, f e1 (st ++ [Cell.lst acc]) = .ok (F d) (st ++ [Cell.lst acc]))) →
    lcL g t c f st.length e0 ds (st ++ [Cell.lst acc]) = .ok (st ++ [Cell.lst (acc ++ (ds.filter p).map F)])
  | [], acc, _, _ => by rw [lcL, if_pos (hg acc)]; simp
  | d :: ds, acc, hl, h => by
    obtain ⟨e1, h1, h2, h3⟩ := h d (by simp)
    simp only [List.length_cons] at hl
    by_cases hp : p d = true
    · have h6 := lcL_pure p F hg ds (acc ++ [F d]) (by simp; omega) (fun x hx => h x (by simp [hx]))
      rw [lcL, if_pos (hg acc), h1]
      simp only
      rw [h2 acc, hp]
      simp only
      rw [h3 hp acc]
      simp only [lstOf, app_get, app_set]
      rw [if_pos (by omega), h6]
      simp [List.filter_cons, hp]
    · have h6 := lcL_pure p F hg ds acc (by omega) (fun x hx => h x (by simp [hx]))
      have hp' : p d = false := by simpa using hp
      rw [lcL, if_pos (hg acc), h1]
      simp only
      rw [h2 acc, hp']
      simp only
      rw [h6]
      simp [List.filter_cons, hp']
theorem lc_pure {own : List Nat} {src : IX} {t : TX} {c : BX} {f : EX} {e : Env} {st st1 : Sto} {ds : List D} {g : Sto → Bool} (p : D → Bool) (F : D → D) (hs : src e st = .ok ⟨ds, g⟩ st1) (hg : ∀ acc, g (st1 ++ [Cell.lst acc]) = true) (hl : ds.length ≤ lim)
    (h : ∀ d ∈ ds, ∃ e1, t d (wipeE e own) = some e1 ∧ (∀ acc, c e1 (st1 ++ [Cell.lst acc]) = .ok (p d) (st1 ++ [Cell.lst acc])) ∧ (p d = true → ∀ acc, f e1 (st1 ++ [Cell.lst acc]) = .ok (F d) (st1 ++ [Cell.lst acc]))) :
    eLc own src t c f e st = .ok (.ref st1.length) (st1 ++ [Cell.lst ((ds.filter p).map F)]) := by
  unfold eLc
  rw [hs]
  simp only
  rw [lcL_pure p F hg ds [] (by simpa using hl) h]
  simp
def flatC : Cell → Bool
  | .lst xs => flatDs xs
  | .ro xs => flatDs xs
def flatS (r : Sto) : Bool := r.all flatC
theorem flatS_app {a b : Sto} (h1 : flatS a = true) (h2 : flatS b = true) : flatS (a ++ b) = true := by
  simp only [flatS, List.all_append, Bool.and_eq_true] at *
  exact ⟨h1, h2⟩
theorem lowS_flat (n : Nat) {r : Sto} (h : flatS r = true) : lowS n r = true := by
  simp only [flatS, lowS, List.all_eq_true] at *
  intro c hc
  have := h c hc
  cases c with
  | lst xs => exact lows_flat n xs this
  | ro xs => exact lows_flat n xs this
end Mm

namespace Mm
open PySem L2 PySem.Spec PyProof.Rows
/-! ### isinstance(n, C), n a caught exception -/
theorem obj_xd {P : Program} {w : World} {H : Hp} {h : Heap} {a : Addr} {fs : List (Str × V)} (ok : HOk P w H h) (e : H a = some (.xd fs)) : ∃ o, h.get? a = some o := by
  have := ok a _ e
  obtain ⟨m, hm, _⟩ := this
  obtain ⟨o, _, _, h1, _⟩ := hm
  exact ⟨o, h1⟩
theorem call_isx {X : Cx} {a C : Addr} {oe : Obj} {d : Option Addr} {pn : List (Addr × Obj)} (hX : XisC X.K C) (hz : Zc (.ref C) d oe) (hf : ∃ vs, oe.data = Data.fields vs) :
    CallR (X.suite a ((a, oe) :: pn)) (.builtin "isinstance") (fun xs H Q => ∃ c u b dd fs, xs = [.ref a, c] ∧ ClsV c u ∧ PySem.W.kitOne X.K (.ref C) u = some b ∧ d = some dd ∧ H dd = some (.xd fs) ∧ Q (.bl b) H) := by
  intro pins s σ H xs us Q I hv ⟨c, u, b, dd, fs, e1, e2, e3, e4, e5, q⟩
  subst e1 e4
  cases hv with
  | cons r1 rr =>
    cases rr with
    | cons r2 rr =>
      cases rr
      cases r1
      rename_i u2
      have eu : u2 = u := by
        cases e2 with
        | ty n => exact r2
        | own C => exact r2
      subst eu
      obtain ⟨od, hod⟩ := obj_xd I.hok e5
      obtain ⟨p1, _⟩ := I.pin (a, oe) (by simp)
      obtain ⟨vs, hvs⟩ := hf
      have hI : PySem.W.InstAt s.heap a oe C (some od) := ⟨p1, hz.1, by simp [PySem.W.notCls, hvs], by rw [hz.2]; exact hod⟩
      exact PySem.W.kia_one (PySem.W.kitx_exc hX.ci hX.ga hX.gg hX.exC hX.cd hX.sp hX.tk hX.mr) I.kIn hI e3 (by intro h; cases h) (fun tk => ⟨.bl b, H, I.kept (t' := tk) (fun _ _ h => h), rfl, q⟩)
section
variable {X : Cx} {T : List (Addr × Str)} {names : List Str}
theorem pe_isx_own {a C Cr : Addr} {oe : Obj} {d : Option Addr} {pn : List (Addr × Obj)} {n R : Str} {i : Nat} {p p1 p2 pos : Pos} (hX : XisC X.K C) (hk : PySem.W.kitOne X.K (.ref C) (.ref Cr) = some true) (hz : Zc (.ref C) d oe) (hf : ∃ vs, oe.data = Data.fields vs)
    (hg : Gl X "isinstance") (hm : X.mg "isinstance" = none) (hN : X.N[i]? = some n) (hv : Vis X.env.scope n) (hgR : Gl X R) (hmR : X.mg R = some (.ref Cr))
    (hdR : (R == ("__debug__" : Str)) = false := by decide) (hd : (n == ("__debug__" : Str)) = false := by decide) (hcd : (n == ("__classdict__" : Str)) = false := by decide)
    (he : starEach ((.Name n p1) :: [.Name R p2]) X.env = (false, eval (.Name n p1) X.env) :: starEach [.Name R p2] X.env := by rfl) (he2 : starEach (.Name R p2 :: []) X.env = (false, eval (.Name R p2) X.env) :: starEach [] X.env := by rfl) (hpl : (backTo pos (starEach [.Name R p2] X.env)).any (·.1) = false := by rfl) :
    PE (X.suite a ((a, oe) :: pn)) (.Call (.Name "isinstance" p) [.Name n p1, .Name R p2] [] pos) (fun σ H Q => σ[i]? = some (some (.ref a)) ∧ (∃ dd fs, d = some dd ∧ H dd = some (.xd fs)) ∧ Q (.bl true) H) :=
  pe_weak (pe_callB (X := X.suite a ((a, oe) :: pn)) (call_isx hX hz hf) hg hm (by decide +kernel) (pa_cons (pe_var (X := X.suite a ((a, oe) :: pn)) (pos := p1) (i := i) hN hv hd hcd) (pa_cons (pe_glob (X := X.suite a ((a, oe) :: pn)) (v := .ref Cr) hgR hmR rfl hdR) pa_nil he2) he) (by decide) (by decide) he hpl) fun σ H Q ⟨h1, ⟨dd, fs, h2, h3⟩, h4⟩ =>
    ⟨.ref a, h1, .ref Cr, .ref Cr, true, dd, fs, rfl, .own Cr, hk, h2, h3, h4⟩
theorem pe_isx_ty {a C : Addr} {oe : Obj} {d : Option Addr} {pn : List (Addr × Obj)} {n R : Str} {t : String} {i : Nat} {p p1 p2 pos : Pos} (hX : XisC X.K C) (hk : PySem.W.kitOne X.K (.ref C) (.type t) = some true) (hz : Zc (.ref C) d oe) (hf : ∃ vs, oe.data = Data.fields vs)
    (hg : Gl X "isinstance") (hm : X.mg "isinstance" = none) (hN : X.N[i]? = some n) (hv : Vis X.env.scope n) (hgR : Gl X R) (hmR : X.mg R = none) (hbR : bootBuiltins R = some (.type t)) (hnR : R ≠ ("__name__" : Str) := by decide)
    (hdR : (R == ("__debug__" : Str)) = false := by decide) (hd : (n == ("__debug__" : Str)) = false := by decide) (hcd : (n == ("__classdict__" : Str)) = false := by decide)
    (he : starEach ((.Name n p1) :: [.Name R p2]) X.env = (false, eval (.Name n p1) X.env) :: starEach [.Name R p2] X.env := by rfl) (he2 : starEach (.Name R p2 :: []) X.env = (false, eval (.Name R p2) X.env) :: starEach [] X.env := by rfl) (hpl : (backTo pos (starEach [.Name R p2] X.env)).any (·.1) = false := by rfl) :
    PE (X.suite a ((a, oe) :: pn)) (.Call (.Name "isinstance" p) [.Name n p1, .Name R p2] [] pos) (fun σ H Q => σ[i]? = some (some (.ref a)) ∧ (∃ dd fs, d = some dd ∧ H dd = some (.xd fs)) ∧ Q (.bl true) H) :=
  pe_weak (pe_callB (X := X.suite a ((a, oe) :: pn)) (call_isx hX hz hf) hg hm (by decide +kernel) (pa_cons (pe_var (X := X.suite a ((a, oe) :: pn)) (pos := p1) (i := i) hN hv hd hcd) (pa_cons (pe_bltn (X := X.suite a ((a, oe) :: pn)) (v := .ty t) hgR hmR hbR rfl hnR hdR) pa_nil he2) he) (by decide) (by decide) he hpl) fun σ H Q ⟨h1, ⟨dd, fs, h2, h3⟩, h4⟩ =>
    ⟨.ref a, h1, .ty t, .type t, true, dd, fs, rfl, .ty t, hk, h2, h3, h4⟩
/-- f = ('s', n.what, isinstance(n, R) and isinstance(n, V)), n the exception -/
theorem su_found {i u : Nat} {n f s R V : Str} {t : String} {Cr : Addr} {j kt : Nat} {p1 p2 p3 p4 q1 q2 q3 q4 q5 q6 q7 q8 q9 pf pos : Pos} (hnd : X.N.Nodup) (hN : X.N[i]? = some n) (hv : Vis X.env.scope n) (hu : X.N[u]? = some f) (hl : Loc X.env.scope f)
    (hx : ∀ y ∈ names, ∀ Cy, X.mg y = some (.ref Cy) → XfC X.K Cy ∧ PySem.W.findIn X.K (.ref Cy) "what" = some none)
    (hi : ∀ y ∈ names, ∀ Cy, X.mg y = some (.ref Cy) → XisC X.K Cy ∧ PySem.W.kitOne X.K (.ref Cy) (.ref Cr) = some true ∧ PySem.W.kitOne X.K (.ref Cy) (.type t) = some true)
    (hg : Gl X "isinstance") (hm : X.mg "isinstance" = none) (hgR : Gl X R) (hmR : X.mg R = some (.ref Cr)) (hgV : Gl X V) (hmV : X.mg V = none) (hbV : bootBuiltins V = some (.type t))
    (hfn : X.fn f = true ∨ X.env.scope.names.lookup f = some .local := by first | exact .inl rfl | exact .inr rfl | assumption) (hnV : V ≠ ("__name__" : Str) := by decide)
    (hdR : (R == ("__debug__" : Str)) = false := by decide) (hdV : (V == ("__debug__" : Str)) = false := by decide) (hd : (n == ("__debug__" : Str)) = false := by decide) (hcd : (n == ("__classdict__" : Str)) = false := by decide)
    (hb : attributeBase (.Name n p2) "what" X.env (eval (.Name n p2) X.env) = eval (.Name n p2) X.env := by rfl) :
    Suite X [.Assign [.Name f pf] (.Tuple [.Constant (.str s) j p1, .Attribute (.Name n p2) "what" p3, .BoolOp .And [.Call (.Name "isinstance" q1) [.Name n q2, .Name R q3] [] q4, .Call (.Name "isinstance" q5) [.Name n q6, .Name V q7] [] q8] q9] kt p4) pos]
      (tsOf X T names (some i) fun x e st => .nx (e.set u (some (.tup [.str s, x.what, .bl true]))) st) := by
  intro a oe cls d pn hz hf
  by_cases hy : ∃ y, y ∈ names ∧ ∃ Cy, X.mg y = some (.ref Cy) ∧ cls = .ref Cy
  · obtain ⟨y, hy, Cy, g, rfl⟩ := hy
    obtain ⟨hX, hno⟩ := hx y hy Cy g
    obtain ⟨hI, hk1, hk2⟩ := hi y hy Cy g
    have ht := pe_xf (X := X) (pos := p3) hX hno hz hf (pe_var (X := X.suite a ((a, oe) :: pn)) (pos := p2) (i := i) hN hv hd hcd) hb
    have ha := pe_isx_own (X := X) (a := a) (p := q1) (p1 := q2) (p2 := q3) (pos := q4) (pn := pn) hI hk1 hz hf hg hm hN hv hgR hmR hdR hd hcd
    have hc := pe_isx_ty (X := X) (a := a) (p := q5) (p1 := q6) (p2 := q7) (pos := q8) (pn := pn) hI hk2 hz hf hg hm hN hv hgV hmV hbV hnV hdV hd hcd
    have hand := pe_and (pos := q9) (rest := []) ha (pe_one (pos := q9) hc)
    refine pss_weak (pss_one (ps_set (X := X.suite a ((a, oe) :: pn)) hnd hu hl (pe_tupN (pa_cons pe_str (pa_cons ht (pa_cons hand pa_nil)))) (by rfl) hfn)) fun D σ H ⟨x, e, st, m, he, hs, ok, xr, hx, hd⟩ => ?_
    obtain ⟨C2, d2, v, fs, e1, e2, rfl, e4, hw, rv⟩ := xr
    cases e1
    refine ⟨.ref a, hs i rfl, rfl, rfl, d2, _, v, rfl, e4, hw, hs i rfl, ⟨d2, _, rfl, e4⟩, true, rfl, hs i rfl, ⟨d2, _, rfl, e4⟩, ?_, fun p o hp ho => ?_⟩
    · show 3 ≤ sizeLine
      exact lim_le (by decide)
    · exact hd _ (upd H p (.frz o (.tup [.str s, v, .bl true]))) m (Le.new hp) (.refl m) (ok.new hp) ((he.mono (Le.new hp) (.refl m)).set u (d := .tup [.str s, x.what, .bl true]) ⟨p, [.str s, v, .bl true], rfl, .new ho, .str s, [v, .bl true], rfl, rfl, v, [.bl true], rfl, rv.mono (Le.new hp) (.refl m), .bl true, [], rfl, rfl, rfl⟩)
  · refine pss_weak pss_never fun D σ H ⟨x, e, st, m, he, hs, ok, xr, hx, hd⟩ => ?_
    obtain ⟨C2, d2, v, fs, e1, e2, _⟩ := xr
    exact hy ⟨x.cls, hx, C2, e2, e1⟩
end
end Mm

namespace Mm
open PySem L2 PySem.Spec PyProof.Rows LamX
/-! ### g(lambda: e), g a def that calls it in a try, keeps what it catches and hands it back behind -/
def eHeardN (s0 : Str) (n u : Nat) (mt : Str → Str → Option Bool) (names : List Str) (l : List SC) (fb : EX) : EX := fun e st => match fb e st with
  | .ok d st1 => .ok (.tup [.str s0, d]) st1
  | .ex x st1 => if names.contains x.cls = true then (match goC mt x (List.replicate n none) st1 l with | .nx e2 st2 => (match e2[u]? with | some (some d) => .ok d st2 | _ => .no) | _ => .no) else .no
  | .no => .no
section
variable {X : Cx} {T : List (Addr × Str)} {W : WX} {pins : List (Addr × Obj)} {σ : L2.St} {H : Hp} {s : Shared}
theorem j_heardN {x a f0 : Str} {un : Nat} {p7 p8 : Pos} {g c P : Addr} {k : Nat} {pg : Arguments} {bg : List Stmt} {sg : Scope} {dV kV doc pm cdv ct oc : Value} {an od : Option Addr} {osl : Array (Option Value)} {Ng : List Str}
    {params : Arguments} {body : Expr} {scope : Scope} {p lpos pos p1 p2 p3 p4 p5 p6 : Pos} {j kt : Nat} {s0 : Str} {mt : Str → Str → Option Bool} {names : List Str} {l : List SC} {h0 : ExceptHandler} {hds : List ExceptHandler} {fb : EX}
    (hgd : X.A.guards = some []) (hg : Gl X x) (hm : X.mg x = some (.ref g)) (hk : PySem.W.keepIn X.K (.ref g) = true)
    (lk : X.K.lookup g = some ⟨oc, od, .func (PySem.W.fnOf x x pg bg sg dV kV doc pm an cdv ct), osl⟩) (hcg : PySem.W.codeIn X.K cdv x = true) (hb : L2.Binds X.K (PySem.W.fnOf x x pg bg sg dV kV doc pm an cdv ct) [a] []) (Sg : FnScope Ng [a] sg) (hNg : Ng[0]? = some a) (hva : Vis sg a) (hNu : Ng[un]? = some f0) (hvu : Vis sg f0)
    (hbg : bg = [.Try [.Return (some (.Tuple [.Constant (.str s0) j p1, .Call (.Name a p2) [] [] p3] kt p4)) p5] (h0 :: hds) [] [] p6, .Return (some (.Name f0 p7)) p8])
    (hcl : ∀ (s : Shared) (H : Hp), JCls (cxOf C8.CX0 X.prog X.w X.K X.mg X.base Ng x sg g cdv X.A X.stack s H C8.E0).nox T mt names (h0 :: hds) l)
    (TB : TabB X.base X.mg c P) (hcode : X.env.code = .ref c) (hmT : (P, X.env.qual ++ "<lambda>") ∈ T) (hu : ∀ p ∈ T, p.1 = P → p.2 = X.env.qual ++ "<lambda>") (hr : Room (k + 2) X.A) (L : LamS X.env.scope scope) (hdef : defaultsOf params X.env = ([], []))
    (hbind : ∀ (q : Str) (cl : List (Str × Addr)) (pm cv ctv : Value), bindArgs (PySem.W.kla_fn "<lambda>" q params body scope cl pm cv ctv) ⟨[], []⟩ = pure [])
    (hbody : ∀ (A : Around) (outer : List PySem.Env) (s : Shared) (H : Hp) (E : XK) (f c' : Addr), A.guards = some [] → Room k (A.deeper (lamEnv X scope s.heap.objs.size f c')) → J (lamCx X A outer s H E scope f c') T (fun cls d _ H' => E cls d H') body fb)
    (hdb : (x == ("__debug__" : Str)) = false := by decide) (hd : (a == ("__debug__" : Str)) = false := by decide) (hcd : (a == ("__classdict__" : Str)) = false := by decide) (hdu : (f0 == ("__debug__" : Str)) = false := by decide) (hcu : (f0 == ("__classdict__" : Str)) = false := by decide) :
    J X T W (.Call (.Name x p) [.Lambda params body scope lpos] [] pos) (eHeardN s0 Ng.length un mt names l fb) := by
  subst hbg
  refine ⟨fun pins s σ H Q I h => ?_⟩
  obtain ⟨e, st, m, he, ok, h⟩ := h
  refine wpAny_Call_Name_kw (ld_glob I hg hm ?_ hdb)
  refine PySem.W.callWith_K (h₀ := X.base) I.ok.mod.kin hk ?_ (by rfl) (by rfl)
  show wpAny _ _ (spliced ((false, eval (.Lambda params body scope lpos) X.env) :: backTo pos (starEach [] X.env))) _ _ s
  refine Calls.spliced_cons (lam_make2 I TB hcode hmT hu ok.tabs hdef (L.has I.ok) fun f c' pm' ctv H1 s' I1 eN T1 hf hfn hfr hco => ?_)
  refine Calls.spliced_nil ⟨I1.kIn, ?_⟩
  have ok1 := ok.extN eN T1
  have he1 := he.mono (Le.ofN eN) (.refl m)
  have rc : codeAny (model X.prog X.w) X.A (.call (.ref g) ⟨[.ref f], []⟩) (CR C8.CX0 X.stack X.prog X.w H1 s' Q C8.E0) s' := by
    refine run_ofS (N := Ng) (ps := [a]) (us := [.ref f]) (vs := [.ref f]) lk hcg Sg hr I1.env0 (hb s' [.ref f] I1.kIn rfl) (.cons rfl .nil) rfl fun hr' => ?_
    obtain ⟨l', q1, q2⟩ := jcls_ok (W := noW) (hcl s' H1)
    have key := ps_try_cls (X := (cxOf C8.CX0 X.prog X.w X.K X.mg X.base Ng x sg g cdv X.A X.stack s' H1 C8.E0).nox) (pos := p6)
      (tb := fun W D σZ HZ => σZ[0]? = some (some (.ref f)) ∧ HZ c' = some (CodeO c' (X.env.qual ++ "<lambda>")) ∧ tE X.K T X.mg (fun cls d _ H' => W cls d σZ H') fb σ HZ (fun v H2 => 2 ≤ sizeLine ∧ ∀ q o, H2 q = none → o.dict = none → D.rt (.ref q) (upd H2 q (.frz o (.tup [.str s0, v])))))
      (body := [.Return (some (.Tuple [.Constant (.str s0) j p1, .Call (.Name a p2) [] [] p3] kt p4)) p5]) rfl rfl LamX.takes0 (fun W pn xe tk _ => ?_) q1
    · refine ⟨_, (pss_cons key (pss_one (ps_ret (pe_var (pos := p7) (i := un) hNu hvu hdu hcu)))).nox, ?_⟩
      refine ⟨?_, hco, e, st, m, he1, ok1, ?_⟩
      · have : (L2.start Ng [V.ref f]) = some (V.ref f) :: List.replicate (Ng.length - 1) none := rfl
        rw [this]; rfl
      · have h2 := h
        unfold eHeardN at h2
        revert h2
        generalize fb e st = r
        intro h2
        cases r with
        | no => exact h2
        | ok d st1 =>
          intro y H' m' le pr ok' rv
          refine ⟨lim_le (by decide), fun q o hq ho => ?_⟩
          exact h2 (.ref q) _ m' (((Le.ofN eN).trans le).trans (Le.new hq)) pr (ok'.new hq) ⟨q, [.str s0, y], rfl, .new ho, .str s0, [y], rfl, rfl, y, [], rfl, rv.mono (Le.new hq) (.refl m'), rfl⟩
        | ex x st1 =>
          simp only at h2
          by_cases hc : names.contains x.cls = true
          · rw [if_pos hc] at h2
            have hd : DenS X.K T X.mg noW H1 m (goC mt x (List.replicate Ng.length none) st1 l) { nx := fun σ' H' => tVar un σ' H' Q, rt := Q } := by
              revert h2
              generalize goC mt x (List.replicate Ng.length none) st1 l = r
              intro h2
              cases r with
              | nx e2 st2 =>
                intro s' H' m' le pr ok' he2
                simp only at h2
                cases hu2 : e2[un]? with
                | none => rw [hu2] at h2; exact False.elim h2
                | some od =>
                  rw [hu2] at h2
                  cases od with
                  | none => exact False.elim h2
                  | some d =>
                    obtain ⟨v, hv1, hv2⟩ := he2.2 un d hu2
                    exact ⟨v, hv1, h2 v H' m' ((Le.ofN eN).trans le) pr ok' hv2⟩
              | no => exact h2
              | ret d st => exact False.elim h2
              | brk e st => exact False.elim h2
              | ct e st => exact False.elim h2
              | exc x e st => exact False.elim h2
            refine fun cls dd H' m' le pr ok' xr => q2 _ x _ st1 H1 m (by simpa using hc) hd cls dd _ H' m' le pr ok' ⟨?_, fun i d hi => ?_⟩ xr
            · have hlen : 0 < Ng.length := by
                cases Ng with
                | nil => cases hNg
                | cons => simp
              have : (L2.start Ng [V.ref f]) = some (V.ref f) :: List.replicate (Ng.length - 1) none := rfl
              rw [this]
              simp
              omega
            · rw [List.getElem?_replicate] at hi
              split at hi <;> cases hi
          · rw [if_neg hc] at h2; exact False.elim h2
    · exact pss_one (ps_ret (pe_tupN (pa_cons pe_str (pa_cons (act_g (CXg := C8.CX0) (Eg := C8.E0) (Ng := Ng) (i := 0) I1 L hf hfn hfr (hbind _ _ _ _ _) tk hr' hgd (fun A outer s2 H2 E hA hR => hbody A outer s2 H2 E f c' hA hR) hNg hva hd hcd) pa_nil))))
  refine wpAny_call (codeAny_mono rc fun r s2 hq => ?_)
  cases r with
  | error e => exact (show False from hq).elim
  | ok fl =>
    cases fl with
    | ret u => exact I1.after hq
    | next => exact False.elim hq
    | brk => exact False.elim hq
    | cont => exact False.elim hq
theorem j_heardNF {x a f0 : Str} {p pos : Pos} {un : Nat} {p7 p8 : Pos} {st : Stmt} {gd : FuncData} {c P gA : Addr} {Ng : List Str} {params : Arguments} {body : Expr} {scope : Scope} {lpos p1 p2 p3 p4 p5 p6 : Pos} {j kt : Nat} {s0 : Str} {mt : Str → Str → Option Bool} {names : List Str} {l : List SC} {h0 : ExceptHandler} {hds : List ExceptHandler} {fb : EX} (k : Nat)
    (F : Fun X.K x x st gA gd) (Sg : FnScope Ng [a] (defScope st)) (hb : L2.Binds X.K gd [a] []) (hgd : X.A.guards = some []) (hg : Gl X x) (hm : X.mg x = some (.ref gA)) (hNg : Ng[0]? = some a) (hva : Vis (defScope st) a) (hNu : Ng[un]? = some f0) (hvu : Vis (defScope st) f0)
    (hbg : defBody st = [.Try [.Return (some (.Tuple [.Constant (.str s0) j p1, .Call (.Name a p2) [] [] p3] kt p4)) p5] (h0 :: hds) [] [] p6, .Return (some (.Name f0 p7)) p8])
    (hcl : ∀ (cdv : Value) (s : Shared) (H : Hp), JCls (cxOf C8.CX0 X.prog X.w X.K X.mg X.base Ng x (defScope st) gA cdv X.A X.stack s H C8.E0).nox T mt names (h0 :: hds) l)
    (TB : TabB X.base X.mg c P) (hcode : X.env.code = .ref c) (hmT : (P, X.env.qual ++ "<lambda>") ∈ T) (hu : ∀ p ∈ T, p.1 = P → p.2 = X.env.qual ++ "<lambda>") (hr : Room (k + 2) X.A) (L : lamSB X.env.scope scope = true) (hdef : defaultsOf params X.env = ([], []))
    (hbind : ∀ (q : Str) (cl : List (Str × Addr)) (pm cv ctv : Value), bindArgs (PySem.W.kla_fn "<lambda>" q params body scope cl pm cv ctv) ⟨[], []⟩ = pure [])
    (hbody : ∀ (A : Around) (outer : List PySem.Env) (s : Shared) (H : Hp) (E : XK) (f c' : Addr), A.guards = some [] → Room k (A.deeper (lamEnv X scope s.heap.objs.size f c')) → J (lamCx X A outer s H E scope f c') T (fun cls d _ H' => E cls d H') body fb)
    (hdb : (x == ("__debug__" : Str)) = false := by decide) (hd : (a == ("__debug__" : Str)) = false := by decide) (hcd : (a == ("__classdict__" : Str)) = false := by decide) (hdu : (f0 == ("__debug__" : Str)) = false := by decide) (hcu : (f0 == ("__classdict__" : Str)) = false := by decide) :
    J X T W (.Call (.Name x p) [.Lambda params body scope lpos] [] pos) (eHeardN s0 Ng.length un mt names l fb) := by
  obtain ⟨oc, od, kV, doc, pm, an, cdv, ct, osl, rfl, lk, hcdI⟩ := F.ex
  exact j_heardN hgd hg hm F.kp lk hcdI hb Sg hNg hva hNu hvu hbg (hcl cdv) TB hcode hmT hu hr (lamS_by L) hdef hbind hbody hdb hd hcd hdu hcu
def handlersOf2 (st : Stmt) : List ExceptHandler := match defBody st with
  | [.Try _ h _ _ _, _] => h
  | _ => []
end
end Mm

namespace Mm
open PySem L2 PySem.Spec PyProof.Rows
/-! ### min(list of tuples of numbers, default=d); sorted of a list of tuples of numbers -/
def TupsV (K : PySem.W.Frag) (H : Hp) : List V → List (List Int) → Prop
  | [], [] => True
  | v :: vs, l :: ls => (∃ a, v = .ref a ∧ SqN K H a (l.map V.int)) ∧ TupsV K H vs ls
  | _, _ => False
def encT (l : List Int) : PyData := .tuple (l.map .int)
theorem reads_ints {h : Heap} : ∀ (l : List Int) (us : List Value), Vals (l.map V.int) us → ReadsAll h us (l.map .int) []
  | [], _, r => by cases r; exact .nil
  | n :: l, _, r => by
    cases r with
    | cons r1 r2 =>
      obtain ⟨t, rfl⟩ := r1
      exact ReadsAll.cons (as := []) (bs := []) (.int n t) (reads_ints l _ r2)
section
variable {X : Cx} {pins : List (Addr × Obj)} {σ : L2.St} {H : Hp} {s : Shared}
theorem reads_tup (I : L2.Inv X pins σ H s) {a : Addr} {l : List Int} (hs : SqT X.K H a (l.map V.int)) : Reads s.heap (.ref a) (encT l) [] := by
  obtain ⟨its, r, ⟨o, ho, hc, n, hd⟩, hz⟩ := I.tuple hs
  exact Reads.tuple ho hc hd (by simpa using reads_ints l its r)
theorem reads_tups (I : L2.Inv X pins σ H s) : ∀ (vs : List V) (ls : List (List Int)) (us : List Value), TupsV X.K H vs ls → Vals vs us → ReadsAll s.heap us (ls.map encT) []
  | [], [], _, _, r => by cases r; exact .nil
  | v :: vs, l :: ls, _, h, r => by
    obtain ⟨⟨a, rfl, hs⟩, h2⟩ := h
    cases r with
    | cons r1 r2 =>
      obtain rfl : _ = Value.ref a := r1
      exact ReadsAll.cons (as := []) (bs := []) (reads_tup I hs.sq) (reads_tups I vs ls _ h2 r2)
  | [], _ :: _, _, h, _ => h.elim
  | _ :: _, [], _, h, _ => h.elim
theorem reads_ints_one {h : Heap} : ∀ (l : List Int) (us : List Value) (ps : List PyData) (as bs : List Addr), ReadsAll h us (l.map .int) as → ReadsAll h us ps bs → ps = l.map .int
  | [], _, _, _, _, h1, h2 => by cases h1; cases h2; rfl
  | n :: l, _, _, _, _, h1, h2 => by
    cases h1 with
    | cons a1 a2 =>
      cases h2 with
      | cons b1 b2 =>
        cases a1
        cases b1
        rw [reads_ints_one l _ _ _ _ a2 b2]
        rfl
theorem reads_one {h : Heap} {u : Value} {l : List Int} {p : PyData} {as bs : List Addr} (h1 : Reads h u (encT l) as) (h2 : Reads h u p bs) : p = encT l := by
  cases h1 with
  | tuple a1 a2 a3 a4 =>
    cases h2 with
    | tuple b1 b2 b3 b4 =>
      rw [a1] at b1
      cases b1
      rw [a3] at b3
      cases b3
      rw [reads_ints_one l _ _ _ _ a4 b4]
      rfl
    | list b1 b2 b3 b4 =>
      rw [a1] at b1
      cases b1
      rw [a2] at b2
      simp at b2
    | dict b1 b2 b3 b4 b5 =>
      rw [a1] at b1
      cases b1
      rw [a2] at b2
      simp at b2
def minT (a : List Int) (ls : List (List Int)) : List Int := ls.foldl (fun a y => if y < a then y else a) a
theorem lt_enc (a b : List Int) : W.dataLt (encT a) (encT b) = decide (a < b) := by
  rw [← W.dataLt_ints]
  unfold encT
  rw [W.dataLt_tuple]
  rfl
theorem min_enc : ∀ (ls : List (List Int)) (a : List Int), W.minD (encT a) (ls.map encT) = encT (minT a ls)
  | [], a => rfl
  | l :: ls, a => by
    have ih := min_enc ls (if l < a then l else a)
    unfold W.minD at ih ⊢
    simp only [List.map_cons, List.foldl_cons, lt_enc, decide_eq_true_eq]
    have e : (if l < a then encT l else encT a) = encT (if l < a then l else a) := by split <;> rfl
    rw [e, ih]
    rfl
theorem map_int_inj : ∀ {a b : List Int}, a.map PyData.int = b.map PyData.int → a = b
  | [], [], _ => rfl
  | x :: a, y :: b, h => by
    simp only [List.map_cons, List.cons.injEq, PyData.int.injEq] at h
    rw [h.1, map_int_inj h.2]
  | [], _ :: _, h => by cases h
  | _ :: _, [], h => by cases h
theorem enc_inj {a b : List Int} (h : encT a = encT b) : a = b := by
  unfold encT at h
  injection h with h
  exact map_int_inj h
theorem vals_get {vs : List V} {us : List Value} (r : Vals vs us) : ∀ (i : Nat) (u : Value), us[i]? = some u → ∃ v, vs[i]? = some v ∧ L2.RelV v u := by
  induction r with
  | nil => intro i u h; cases h
  | cons r rr ih =>
    intro i u h
    cases i with
    | zero =>
      simp only [List.getElem?_cons_zero, Option.some.injEq] at h
      subst h
      exact ⟨_, rfl, r⟩
    | succ i => exact ih i u (by simpa using h)
theorem enc_alike (ls : List (List Int)) : W.AlikeAll (ls.map encT) := by
  refine ⟨fun x hx y hy => ?_, fun x hx => ?_⟩
  · obtain ⟨a, _, rfl⟩ := List.mem_map.mp hx
    obtain ⟨b, _, rfl⟩ := List.mem_map.mp hy
    exact W.alike_ints a b
  · obtain ⟨a, _, rfl⟩ := List.mem_map.mp hx
    intro q; cases q
theorem enc_depth : ∀ ls : List (List Int), PyData.depthAll (ls.map encT) ≤ 1 := dep_tups
theorem tups_get {K : PySem.W.Frag} : ∀ (vs : List V) (ls : List (List Int)), TupsV K H vs ls → ∀ (i : Nat) (v : V), vs[i]? = some v → ∃ a l, v = .ref a ∧ ls[i]? = some l ∧ SqN K H a (l.map V.int)
  | [], [], _, i, v, h => by cases h
  | x :: vs, l :: ls, ⟨⟨a, e, hs⟩, h2⟩, i, v, h => by
    cases i with
    | zero =>
      simp only [List.getElem?_cons_zero, Option.some.injEq] at h
      subst h
      exact ⟨a, l, e, rfl, hs⟩
    | succ i => exact tups_get vs ls h2 i v (by simpa using h)
  | [], _ :: _, h, _, _, _ => h.elim
  | _ :: _, [], h, _, _, _ => h.elim
end
section
variable {X : Cx} {ea ed : Expr} {ta td : TE} {p kp pos : Pos}
theorem pe_minD (ha : PE X ea ta) (hd : PE X ed td) (hc : X.calm = true) (hu : X.A.units + 100 < cLine) (hg : Gl X "min") (hm : X.mg "min" = none)
    (he : starEach (ea :: []) X.env = (false, eval ea X.env) :: starEach [] X.env := by rfl) :
    PE X (.Call (.Name "min" p) [ea] [⟨some "default", ed, kp⟩] pos) (fun σ H Q => ta σ H fun x H1 => td σ H1 fun y H2 => ∃ a xs ls, x = .ref a ∧ SqL X.K H2 a xs ∧ TupsV X.K H2 xs ls ∧ (ls = [] → Q y H2) ∧ (∀ l0 lr b, ls = l0 :: lr → SqN X.K H2 b ((minT l0 lr).map V.int) → Q (.ref b) H2)) := by
  refine ⟨fun pins s σ H Q I h => ?_⟩
  refine wpAny_Call_Name_kw (ld_blt I hg hm (u := .builtin "min") (by decide +kernel) ?_)
  have e0 : backTo pos (starEach (ea :: []) X.env) = (false, eval ea X.env) :: backTo pos (starEach [] X.env) := by rw [he]; rfl
  refine callWith_kw (env := X.env) (e := ea) (rest := []) (kws := [⟨some "default", ed, kp⟩]) ?_ e0 (by rw [e0]; rfl) (by rfl) (by rfl)
  rw [e0]
  refine Calls.spliced_cons (thn (ha.run pins s σ H _ I h) fun u s1 ⟨x, H1, I1, r1, q1⟩ => ?_)
  refine Calls.spliced_nil ?_
  refine evalAll_cons ?_
  show wpAny _ _ (do let v ← eval ed X.env; standAt pos; pure v) _ _ _
  refine wpAny_bind (thn (hd.run pins s1 σ H1 _ I1 q1) fun d s2 ⟨y, H2, I2, r2, a, xs, ls, ex, hx, ht, hnil, hcons⟩ => ?_)
  subst ex
  obtain rfl : u = Value.ref a := r1
  obtain ⟨its, rv, hp, hz⟩ := I2.list hx
  have hr := reads_tups I2 xs ls its ht rv
  refine wpAny_bind (wpAny_standAt ?_)
  refine wpAny_pure (evalAll_nil ?_)
  have hdep := enc_depth ls
  refine W.min_list_default (as := []) (I.ok.hd hc) (PlainL.isList hp) (by simpa using hr) (enc_alike ls) (by omega) (fun hn h' tk hk => ?_) (fun y0 ys i v h' tk bs hn hv hm2 hk => ?_)
  · have : ls = [] := by cases ls with | nil => rfl | cons a b => cases hn
    exact ⟨y, H2, I2.kept (t' := tk) hk, r2, hnil this⟩
  · cases ls with
    | nil => cases hn
    | cons l0 lr =>
      simp only [List.map_cons, List.cons.injEq] at hn
      obtain ⟨e1, e2⟩ := hn
      rw [← e1, ← e2, min_enc] at hm2
      have hv' : its[i]? = some v := by simpa using hv
      obtain ⟨vv, g1, g2⟩ := vals_get rv i v hv'
      obtain ⟨b, l, ev, gl, hs⟩ := tups_get xs (l0 :: lr) ht i vv g1
      subst ev
      obtain rfl : v = Value.ref b := g2
      have q1 := reads_tup I2 hs.sq
      have q2 := PyProof.Rows.Reads.keeps hk q1
      have q3 := enc_inj (reads_one q2 hm2)
      rw [← q3] at hs
      exact ⟨.ref b, H2, I2.kept (t' := tk) hk, rfl, hcons l0 lr b rfl hs⟩
end
end Mm

namespace Mm
open PySem L2 PySem.Spec PyProof.Rows
def tupI : D → Option (List Int)
  | .tup ds => intsOf ds
  | _ => none
def tupsOf : List D → Option (List (List Int))
  | [] => some []
  | d :: r => match tupI d, tupsOf r with
    | some a, some b => some (a :: b)
    | _, _ => none
theorem tups_rep {K : PySem.W.Frag} {H : Hp} {m : List Addr} : ∀ {ds : List D} {vs : List V} {ls : List (List Int)}, Reps K H m ds vs → tupsOf ds = some ls → TupsV K H vs ls
  | [], vs, ls, r, h => by
    cases h
    cases vs with
    | nil => trivial
    | cons v vs => exact (show False from by simpa [Reps] using r).elim
  | d :: ds, vs, ls, r, h => by
    simp only [tupsOf] at h
    cases h1 : tupI d with
    | none => rw [h1] at h; cases h
    | some a =>
      rw [h1] at h
      cases h2 : tupsOf ds with
      | none => rw [h2] at h; cases h
      | some b =>
        rw [h2] at h
        cases h
        obtain ⟨v, r', rfl, rv, rr⟩ := r
        refine ⟨?_, tups_rep rr h2⟩
        cases d with
        | tup es =>
          obtain ⟨ad, ws, rfl, hs, hr⟩ := rv
          have := reps_ints hr h1
          subst this
          exact ⟨ad, rfl, hs⟩
        | non | bl _ | str _ | int _ | ref _ => cases h1
def eMinD (a d : EX) : EX := fun e st => (a e st).bind fun x st1 => (d e st1).bind fun y st2 => match x with
  | .ref i => match cellItems st2[i]? with
    | some xs => match tupsOf xs with
      | some [] => .ok y st2
      | some (l :: ls) => .ok (.tup ((minT l ls).map .int)) st2
      | none => .no
    | none => .no
  | _ => .no
section
variable {X : Cx} {T : List (Addr × Str)} {W : WX} {ea ed : Expr} {fa fd : EX} {p kp pos : Pos}
theorem j_minD (hc : X.calm = true) (hu : X.A.units + 100 < cLine) (hg : Gl X "min") (hm : X.mg "min" = none) (ha : J X T W ea fa) (hd : J X T W ed fd)
    (he : starEach (ea :: []) X.env = (false, eval ea X.env) :: starEach [] X.env := by rfl) : J X T W (.Call (.Name "min" p) [ea] [⟨some "default", ed, kp⟩] pos) (eMinD fa fd) :=
  pe_weak (pe_minD ha hd hc hu hg hm he) fun s H Q ⟨e, st, m, hen, ok, h⟩ => ⟨e, st, m, hen, ok, h.bind fun x v st1 H1 m1 _ l1 p1 ok1 rx h1 =>
    ⟨e, st1, m1, hen.mono l1 p1, ok1, h1.bind fun y w st2 H2 m2 _ l2 p2 ok2 ry h2 => by
      cases x with
      | ref i =>
        simp only at h2
        cases hci : cellItems st2[i]? with
        | none => simp only [hci] at h2; exact False.elim h2
        | some xs =>
          simp only [hci] at h2
          obtain ⟨a', hmm, rfl⟩ := rx.mono l2 p2
          obtain ⟨a2, vs, z1, z2, z3⟩ := cellItems_ok ok2 hci
          rw [hmm] at z1
          cases z1
          cases ht : tupsOf xs with
          | none => simp only [ht] at h2; exact False.elim h2
          | some ls =>
            simp only [ht] at h2
            refine ⟨a', vs, ls, rfl, z2, tups_rep z3 ht, fun hn => ?_, fun l0 lr b hn hs => ?_⟩
            · subst hn
              exact h2 w H2 m2 (.refl _) (.refl _) ok2 ry
            · subst hn
              exact h2 (.ref b) H2 m2 (.refl _) (.refl _) ok2 ⟨b, (minT l0 lr).map V.int, rfl, hs, Reps.of_ints _⟩
      | tup _ => exact False.elim h2
      | non => exact False.elim h2
      | bl _ => exact False.elim h2
      | str _ => exact False.elim h2
      | int _ => exact False.elim h2⟩⟩
end
/-! sorted -/
def sortT (ls : List (List Int)) : List (List Int) := ls.mergeSort (fun a b => !decide (b < a))
def oSortedT : ON := fun ds st => match ds with
  | [.ref i] => match cellItems st[i]? with
    | some xs => match tupsOf xs with
      | some ls => if ls.all (fun l => !l.isEmpty) = true then some (.ref st.length, st ++ [.lst ((sortT ls).map fun l => .tup (l.map .int))]) else none
      | none => none
    | none => none
  | _ => none
theorem tups_split {K : PySem.W.Frag} {H : Hp} : ∀ (vs : List V) (ls : List (List Int)), TupsV K H vs ls → ∃ bs : List (Addr × List Int), vs = bs.map (fun b => V.ref b.1) ∧ ls = bs.map (·.2) ∧ ∀ b ∈ bs, SqN K H b.1 (b.2.map V.int)
  | [], [], _ => ⟨[], rfl, rfl, fun b h => by cases h⟩
  | v :: vs, l :: ls, ⟨⟨a, e, hs⟩, h2⟩ => by
    obtain ⟨bs, h3, h4, h5⟩ := tups_split vs ls h2
    refine ⟨(a, l) :: bs, by rw [e, h3]; rfl, by rw [h4]; rfl, fun b hb => ?_⟩
    rcases List.mem_cons.mp hb with rfl | hb
    · exact hs
    · exact h5 b hb
  | [], _ :: _, h => h.elim
  | _ :: _, [], h => h.elim
theorem tups_join {K : PySem.W.Frag} {H : Hp} : ∀ (bs : List (Addr × List Int)), (∀ b ∈ bs, SqN K H b.1 (b.2.map V.int)) → TupsV K H (bs.map (fun b => V.ref b.1)) (bs.map (·.2))
  | [], _ => trivial
  | b :: bs, h => ⟨⟨b.1, rfl, h b (by simp)⟩, tups_join bs fun x hx => h x (by simp [hx])⟩
theorem each_ref : ∀ (bs : List (Addr × List Int)) (us : List Value), Vals (bs.map (fun b => V.ref b.1)) us → PySem.W.EachIs (fun v b => v = Value.ref b.1) us bs
  | [], _, r => by cases r; exact .nil
  | b :: bs, _, r => by
    cases r with
    | cons r1 r2 => exact .cons r1 (each_ref bs _ r2)
theorem vals_ref : ∀ (us : List Value) (bs : List (Addr × List Int)), PySem.W.EachIs (fun v b => v = Value.ref b.1) us bs → Vals (bs.map (fun b => V.ref b.1)) us
  | _, [], r => by cases r; exact .nil
  | _, b :: bs, r => by
    cases r with
    | cons r1 r2 => exact .cons r1 (vals_ref _ bs r2)
section
variable {X : Cx} {T : List (Addr × Str)} {W : WX}
theorem each_reads {pins : List (Addr × Obj)} {σ : L2.St} {H : Hp} {s : Shared} (I : L2.Inv X pins σ H s) : ∀ (bs : List (Addr × List Int)) (us : List Value), (∀ b ∈ bs, SqN X.K H b.1 (b.2.map V.int)) → Vals (bs.map (fun b => V.ref b.1)) us → PySem.W.EachIs (fun v b => ∃ as, Reads s.heap v (encT b.2) as) us bs
  | [], _, _, r => by cases r; exact .nil
  | b :: bs, _, h, r => by
    cases r with
    | cons r1 r2 =>
      refine .cons ?_ (each_reads I bs _ (fun x hx => h x (by simp [hx])) r2)
      obtain rfl : _ = Value.ref b.1 := r1
      exact ⟨[], reads_tup I (h b (by simp)).sq⟩
theorem cr_sortedTup (hu : X.A.units + 100 < cLine) : CallR X (.builtin "sorted") (fun vs H Q => ∃ (a : Addr) (xs : List V) (ls : List (List Int)), vs = [V.ref a] ∧ SqL X.K H a xs ∧ TupsV X.K H xs ls ∧ (∀ l ∈ ls, l ≠ []) ∧ ∀ p ys, H p = none → TupsV X.K H ys (sortT ls) → Q (.ref p) (upd H p (.lst ys))) := by
  intro pins s σ H vs us Q I rr h
  obtain ⟨a, xs, ls, rfl, hs, ht, hne, q⟩ := h
  obtain ⟨its, rv, hp, hz⟩ := I.list hs
  obtain ⟨bs, rfl, rfl, hb⟩ := tups_split xs ls ht
  rw [Vals.ref1 rr]
  refine PySem.W.sorted_data (β := Addr × List Int) (enc := fun b => encT b.2) (R := fun v b => v = Value.ref b.1) (PlainL.isList hp) (each_ref bs its rv) (each_reads I bs its hb rv) ?_ ?_ (by simpa using hz) (fun b _ => ?_) (fun out ho he => ?_)
  · exact PySem.W.AllAlike.of fun b b' => PySem.W.alike_ints b.2 b'.2
  · refine .inl fun d hd => ?_
    obtain ⟨b, hbm, rfl⟩ := List.mem_map.mp hd
    have := hne b.2 (List.mem_map.mpr ⟨b, hbm, rfl⟩)
    cases hq : b.2 with
    | nil => exact absurd hq this
    | cons x r => exact ⟨.int x, r.map .int, by unfold encT; rfl⟩
  · have : (encT b.2).depth ≤ 1 := by
      unfold encT
      simp only [PyData.depth, dep_ints]
      decide
    omega
  · obtain ⟨ep, he'⟩ := PyProof.Rows.sortedAll_at s.heap its out.toArray
    have hv := vals_ref out _ he
    have hl := hv.length
    have hlen : (bs.mergeSort (PySem.W.dataLe false fun b => encT b.2)).length = bs.length := (List.mergeSort_perm bs _).length_eq
    refine ⟨.ref _, upd H (s.heap.objs.size + 1) (.lst ((bs.mergeSort (PySem.W.dataLe false fun b => encT b.2)).map (fun b => V.ref b.1))), I.laid (t' := s.toks) (fun _ _ => PyProof.Rows.sortedAll_old) (Nat.le_succ _) ⟨by rw [List.length_map, hlen]; simpa using hz, out, ep, hv, he'⟩, rfl, ?_⟩
    refine q _ _ (I.hok.fresh (Nat.le_succ _)) ?_
    have e : (bs.mergeSort (PySem.W.dataLe false fun b => encT b.2)).map (·.2) = sortT (bs.map (·.2)) := by
      unfold sortT
      refine List.map_mergeSort fun x _ y _ => ?_
      rw [W.dataLe_eq]
      simp only [lt_enc, cond_false]
    rw [← e]
    exact tups_join _ fun b hbm => hb b (List.mem_mergeSort.mp hbm)
theorem reps_tups {K : PySem.W.Frag} {H : Hp} {m : List Addr} : ∀ (ls : List (List Int)) (vs : List V), TupsV K H vs ls → Reps K H m (ls.map fun l => .tup (l.map .int)) vs
  | [], [], _ => rfl
  | l :: ls, v :: vs, ⟨⟨a, e, hs⟩, h⟩ => ⟨v, vs, rfl, ⟨a, l.map V.int, e, hs, Reps.of_ints l⟩, reps_tups ls vs h⟩
  | _ :: _, [], h => h.elim
  | [], _ :: _, h => h.elim
theorem cre_sortedT (hu : X.A.units + 100 < cLine) : CallR X (.builtin "sorted") (rN X.K T oSortedT) := cr_of fun ds st m H xs r Q rx ok ho q => by
  match ds, ho, rx with
  | [.ref i], ho, rx =>
    simp only [oSortedT] at ho
    cases hci : cellItems st[i]? with
    | none => rw [hci] at ho; cases ho
    | some es =>
      rw [hci] at ho
      simp only at ho
      cases ht : tupsOf es with
      | none => rw [ht] at ho; cases ho
      | some ls =>
        rw [ht] at ho
        simp only at ho
        by_cases hne : ls.all (fun l => !l.isEmpty) = true
        · rw [if_pos hne] at ho
          cases ho
          obtain ⟨v, r', rfl, ⟨a, hm, rfl⟩, hr⟩ := rx
          obtain ⟨a2, vs, z1, z2, z3⟩ := cellItems_ok ok hci
          rw [hm] at z1
          cases z1
          have : r' = [] := by
            cases r' with
            | nil => rfl
            | cons => exact (show False from by simpa [Reps] using hr).elim
          subst this
          refine ⟨_, cr_sortedTup hu, a, vs, ls, rfl, z2, tups_rep z3 ht, fun l hl => ?_, fun p ys hp hy => deno_lst q ok (reps_tups _ _ hy) p hp⟩
          have := List.all_eq_true.mp hne l hl
          intro e; rw [e] at this; simp at this
        · rw [if_neg hne] at ho; cases ho
  | [.non], ho, _ => cases ho
  | [.bl _], ho, _ => cases ho
  | [.int _], ho, _ => cases ho
  | [.str _], ho, _ => cases ho
  | [.tup _], ho, _ => cases ho
  | [], ho, _ => cases ho
  | _ :: _ :: _, ho, _ => simp [oSortedT] at ho
end
end Mm
namespace Mm
open PySem L2
theorem blkOk_nest {N : List Str} {sc scope : Scope} {own : List (Str × Nat)} (b : decide ((∀ y ∈ scope.names, List.lookup y.1 scope.names = some y.2) ∧ (∀ p ∈ own, N[p.2]? = some p.1) ∧ (∀ y ∈ scope.names, (y.2 = NameKind.local ∨ y.2 = NameKind.cell) → (y.1 ∈ own.map (·.1) ∨ ¬ y.1 ∈ N))) = true) (hk : scope.kind = ScopeKind.function)
    (h : ∀ y ∈ scope.names, y.2 = NameKind.free → List.lookup y.1 sc.names = some NameKind.cell ∨ List.lookup y.1 sc.names = some NameKind.free) : BlkOk N sc scope own := by
  have b := of_decide_eq_true b
  exact ⟨hk, b.1, b.2.1, h, b.2.2⟩
end Mm
namespace Mm
theorem ball_nil {α : Type} {P : α → Prop} : ∀ y ∈ ([] : List α), P y := fun _ h => by cases h
theorem ball_cons {α : Type} {P : α → Prop} {x : α} {xs : List α} (h : P x) (r : ∀ y ∈ xs, P y) : ∀ y ∈ x :: xs, P y := fun y hy => by
  rcases List.mem_cons.mp hy with rfl | hy
  · exact h
  · exact r y hy
end Mm

namespace Mm
open PySem L2 PySem.Spec PyProof.Rows
/-! ### math.lcm of two numbers below 2^4000 -/
def rLcm : List V → Hp → VK → Prop := fun vs H Q => ∃ a b : Int, vs = [.int a, .int b] ∧ a.natAbs < 2 ^ 4000 ∧ b.natAbs < 2 ^ 4000 ∧ Q (.int ((a.natAbs.lcm b.natAbs : Nat) : Int)) H
theorem log_le {n k : Nat} (h : n < 2 ^ k) (hk : 0 < k) : n.log2 < k := by
  by_cases h0 : n = 0
  · rw [h0]; simpa using hk
  · exact (Nat.log2_lt h0).mpr h
section
variable {X : Cx}
theorem cr_lcm : CallR X (.builtin "math.lcm") rLcm := by
  intro pins s σ H vs us Q I rr h
  obtain ⟨a, b, rfl, ha, hb, q⟩ := h
  cases rr with
  | cons r1 rr =>
    cases rr with
    | cons r2 rr =>
      cases rr
      obtain ⟨t, rfl⟩ := r1
      obtain ⟨u, rfl⟩ := r2
      have h1 : ¬ (max 1 a.natAbs).log2 / 30 + 1 > 450 := by
        have : max 1 a.natAbs < 2 ^ 4000 := by
          have : 1 < 2 ^ 4000 := Nat.one_lt_two_pow (by decide)
          omega
        have := log_le this (by decide)
        omega
      have h2 : ¬ (max a.natAbs b.natAbs).log2 / 30 + 1 > 450 := by
        have : max a.natAbs b.natAbs < 2 ^ 4000 := by omega
        have := log_le this (by decide)
        omega
      have e : (Nat.lcm 1 a.natAbs).lcm b.natAbs = a.natAbs.lcm b.natAbs := by rw [show Nat.lcm 1 a.natAbs = a.natAbs by simp [Nat.lcm]]
      have hsz : (((Nat.lcm 1 a.natAbs).lcm b.natAbs : Nat) : Int).natAbs.log2 < bitsLine := by
        rw [e, Int.natAbs_natCast]
        have h3 : a.natAbs.lcm b.natAbs ≤ a.natAbs * b.natAbs := by
          by_cases h0 : a.natAbs * b.natAbs = 0
          · rcases Nat.mul_eq_zero.mp h0 with z | z <;> simp [z]
          · exact Nat.le_of_dvd (by omega) (Nat.lcm_dvd_mul _ _)
        have h4 : a.natAbs * b.natAbs < 2 ^ 8000 := by
          have : (2 : Nat) ^ 8000 = 2 ^ 4000 * 2 ^ 4000 := by rw [← Nat.pow_add]
          rw [this]
          exact Nat.mul_lt_mul'' ha hb
        have := log_le (Nat.lt_of_le_of_lt h3 h4) (by decide)
        have hbl : 8000 < bitsLine := by decide +kernel
        omega
      refine call_function_meets W.MGF.kind_lcm W.MGF.plain_lcm W.MGF.entry_lcm (W.MGF.args_lcm (Value.int a t) (Value.int b u)) (Gives.meets (W.mg_run_lcm a t b u h1 h2 hsz)) ?_
      rw [e]
      exact ⟨.int ((a.natAbs.lcm b.natAbs : Nat) : Int), H, I.kept (t' := s.toks + 1) (fun _ _ h => h), ⟨_, rfl⟩, q⟩
variable {T : List (Addr × Str)}
def lcmTop : Nat := 2 ^ 4000
def oLcm : ON := fun ds st => match ds with
  | [.int i, .int j] => if decide (i.natAbs < lcmTop) && decide (j.natAbs < lcmTop) then some (.int ((i.natAbs.lcm j.natAbs : Nat) : Int), st) else none
  | _ => none
theorem cre_lcm : CallR X (.builtin "math.lcm") (rN X.K T oLcm) := cr_of fun ds st m H xs r Q rx ok ho q => by
  match ds, ho, rx with
  | [x, y], ho, rx =>
    cases x with
    | int i =>
      cases y with
      | int j =>
        simp only [oLcm] at ho
        split at ho
        · rename_i hb
          simp only [Bool.and_eq_true, decide_eq_true_eq] at hb
          cases ho
          obtain ⟨v, r', rfl, h1, v2, r2, rfl, h2, rfl⟩ := rx
          cases h1; cases h2
          exact ⟨_, cr_lcm, i, j, rfl, hb.1, hb.2, deno_val q ok rfl⟩
        · cases ho
      | non | bl _ | str _ | tup _ | ref _ => cases ho
    | non | bl _ | str _ | tup _ | ref _ => cases ho
  | [], ho, _ => cases ho
  | [x], ho, _ => cases x <;> cases ho
  | _ :: _ :: _ :: _, ho, _ => simp [oLcm] at ho
end
end Mm

/-! t.index(n) of a tuple of numbers; the object has no dict of its own -/
namespace Mm
open PySem L2 PySem.Spec PyProof.Rows
/-- the first place of z -/
def ixOf (z : Int) : List Int → Option Nat
  | [] => none
  | y :: ys => if y = z then some 0 else (ixOf z ys).map (· + 1)
theorem ixOf_spec {z : Int} : ∀ {ys : List Int} {j : Nat}, ixOf z ys = some j → ys[j]? = some z ∧ ∀ m, m < j → ys[m]? ≠ some z
  | [], j, h => by cases h
  | y :: ys, j, h => by
    unfold ixOf at h
    by_cases e : y = z
    · rw [if_pos e] at h
      cases h
      exact ⟨by simp [e], fun m hm => absurd hm (Nat.not_lt_zero m)⟩
    · rw [if_neg e] at h
      cases hj : ixOf z ys with
      | none => rw [hj] at h; cases h
      | some k =>
        rw [hj] at h
        cases h
        obtain ⟨h1, h2⟩ := ixOf_spec hj
        have h1 : (y :: ys)[k + 1]? = some z := by simpa using h1
        refine ⟨h1, fun m hm => ?_⟩
        cases m with
        | zero => simpa using e
        | succ m =>
        have hm : m + 1 < k + 1 := hm
        simpa using h2 m (by omega)
def oIndex : O2 := fun x y st => match x, y with
  | .tup xs, .int z => match intsOf xs with
    | some ys => (ixOf z ys).map fun j => (.int (j : Nat), st)
    | none => none
  | _, _ => none
def isTup : D → Bool
  | .tup _ => true
  | _ => false
def eMT (o : O2) (a b : EX) : EX := fun e st => (a e st).bind fun x st1 => if isTup x = true then (b e st1).bind fun y st2 => .of (o x y st2) else .no
section
variable {X : Cx} {T : List (Addr × Str)} {W : WX}
theorem mt_indexI : MtR X "tuple.index" (fun x xs H Q => ∃ (p : Addr) (ys : List Int) (z : Int) (j : Nat), x = .ref p ∧ xs = [.int z] ∧ SqT X.K H p (ys.map V.int) ∧ ixOf z ys = some j ∧ Q (.int (j : Nat)) H) := by
  intro pins s σ H x xs v us Q I rx rs ⟨p, ys, z, j, e1, e2, hq, hj, q⟩
  subst e1 e2
  obtain ⟨h1, h2⟩ := ixOf_spec hj
  cases rx
  obtain ⟨u, rfl, t, rfl⟩ := vals1 rs
  obtain ⟨its, r, ⟨⟨cls, dd, dt, sl⟩, ho, hc, n, hd⟩, hz⟩ := I.tuple hq
  simp only at hc hd
  subst hc hd
  have hl : its.length = ys.length := by rw [← r.length, List.length_map]
  have jl : j < its.length := by rw [hl]; exact (List.getElem?_eq_some_iff.mp h1).1
  have item : ∀ (m : Nat) (hm : m < its.toArray.size), ∃ y t', ys[m]? = some y ∧ its.toArray[m] = Value.int y t' := fun m hm => by
    have hm' : m < ys.length := by rw [← hl]; simpa using hm
    obtain ⟨w, hw, t', ew⟩ := r.get (i := m) (x := .int ys[m]) (by simp [hm'])
    exact ⟨ys[m], t', List.getElem?_eq_getElem hm', by rw [← ew, ← (List.getElem?_eq_some_iff.mp hw).2]; simp⟩
  have flat : (ys.map V.int).all flatV = true := List.all_eq_true.mpr fun w hw => by
    obtain ⟨_, _, rfl⟩ := List.mem_map.mp hw
    rfl
  refine call_meets PySem.F.slot_tuple_index ⟨_, ho, rfl⟩ PySem.F.entry_tuple_index (PySem.F.args_tuple_index_2 _ _)
    (TI.tuple_indexAt p its.toArray n dd sl (.int z t) (eqU (.int z)) j (by simpa using jl) ?_ ?_) ⟨ho, fun w hw => mem_eqAt (x := .int z) ⟨t, rfl⟩ rfl r flat w (by simpa using hw), .int (j : Nat), H, I.tok _, ⟨_, rfl⟩, q⟩
  · obtain ⟨y, t', g1, g2⟩ := item j (by simpa using jl)
    rw [h1] at g1
    cases g1
    rw [g2]
    show decide (z = z) = true
    simp
  · intro m hm hmj
    obtain ⟨y, t', g1, g2⟩ := item m hm
    rw [g2]
    show decide (y = z) = false
    exact decide_eq_false fun e => h2 m hmj (e ▸ g1)
variable {a b : Expr} {fa fb : EX} {name : Str} {apos cpos : Pos} {id : String}
/-- the call of a method of a tuple without a dict of its own -/
theorem pe_tm {to : TE} {t : TA} {r : V → List V → Hp → VK → Prop} (slot : Slot "tuple" name id) (hty : typeOf (.builtin id) = pure (.type "method_descriptor")) (hm : MtR X id r) (ho : PE X a to) (hb : PA X [b] t)
    (hbase : attributeBase a name X.env (eval a X.env) = eval a X.env) (hfew : ((backTo cpos (starEach [b] X.env)).all (fun x => !x.1) && (backToKw cpos (keywordEach [] X.env)).all (fun x => x.1.isSome)
      && decide ([b].length + ([] : List Keyword).length + (if ([] : List Keyword).isEmpty then 0 else 1) < 30)) = true)
    (hline : (apos.endLine == cpos.line) = true) (hs : starEach [b] X.env = (false, eval b X.env) :: starEach [] X.env) (hplain : (backTo cpos (starEach [] X.env)).any (·.1) = false) :
    PE X (.Call (.Attribute a name apos) [b] [] cpos) (fun σ H Q => to σ H fun x H1 => (∃ (p : Addr) (xs : List V), x = .ref p ∧ SqN X.K H1 p xs) ∧ t σ H1 fun ys H2 => r x ys H2 Q) :=
  ⟨fun pins s σ H Q I h => wpAny_Call_method_late hbase hfew hline rfl (thn (ho.run pins s σ H _ I h) fun v s1 ⟨x, H1, I1, r1, ⟨p, xs, ex, hN⟩, q1⟩ => by
    subst ex
    obtain rfl : v = Value.ref p := r1
    have hT := hN.sq
    obtain ⟨its, _, ⟨o, eo, ec, ed⟩, _⟩ := I1.tuple hT
    have hd : ∀ c, Value.ref p = .ref c → ∃ ob, s1.heap.get? c = some ob ∧ ob.dict = none := fun c ec => by
      cases ec
      rcases hN.nd with ⟨o', u, g, d⟩ | ⟨o', g, d⟩
      · exact ⟨o', (I1.hok p _ g).1, d⟩
      · exact ⟨o', I1.kIn p o' g, d⟩
    have hA := hb.run cpos pins s1 σ H1 _ I1 q1
    rw [hs] at hA
    refine ⟨"tuple", id, PySem.F.plainAttrs_tuple, slot, hty, ⟨o, eo, ec⟩, hd, ?_⟩
    rw [hs]
    exact Calls.callWith_builtin (by show (false || (backTo cpos (starEach [] X.env)).any (·.1)) = false; rw [hplain] <;> rfl) (Calls.evalArgs_plain (thn hA fun us s2 ⟨vs, H2, I2, r2, q2⟩ => hm pins s2 σ H2 (.ref p) vs _ us Q I2 rfl r2 q2)))⟩
theorem j_index (ha : J X T W a fa) (hb : J X T W b fb)
    (hbase : attributeBase a "index" X.env (eval a X.env) = eval a X.env := by rfl) (hfew : ((backTo cpos (starEach [b] X.env)).all (fun x => !x.1) && (backToKw cpos (keywordEach [] X.env)).all (fun x => x.1.isSome)
      && decide ([b].length + ([] : List Keyword).length + (if ([] : List Keyword).isEmpty then 0 else 1) < 30)) = true := by rfl)
    (hline : (apos.endLine == cpos.line) = true := by rfl) (hs : starEach [b] X.env = (false, eval b X.env) :: starEach [] X.env := by rfl) (hplain : (backTo cpos (starEach [] X.env)).any (·.1) = false := by rfl) :
    J X T W (.Call (.Attribute a "index" apos) [b] [] cpos) (eMT oIndex fa fb) :=
  pe_weak (pe_tm PySem.F.slot_tuple_index PySem.F.type_tuple_index mt_indexI ha (pa_cons hb pa_nil hs) hbase hfew hline hs hplain) fun s H Q ⟨e, st, m, he, ok, h⟩ =>
    ⟨e, st, m, he, ok, h.bind fun x v st1 H1 m1 _ l1 p1 ok1 rx h1 => by
      cases x with
      | tup xs =>
        have h1 : Den X.K T X.mg W (RD X.K) s H1 m1 ((fb e st1).bind fun y st2 => R.of (oIndex (.tup xs) y st2)) Q := h1
        obtain ⟨p, vs, rfl, hN, hr⟩ := rx
        refine ⟨⟨p, vs, rfl, hN⟩, e, st1, m1, he.mono l1 p1, ok1, h1.bind fun y w st2 H2 m2 _ l2 p2 ok2 ry h2 => ?_⟩
        cases y with
        | int z =>
          cases hi : intsOf xs with
          | none => simp only [oIndex, hi] at h2; exact False.elim h2
          | some ys =>
            cases hj : ixOf z ys with
            | none => simp only [oIndex, hi, hj] at h2; exact False.elim h2
            | some j =>
              simp only [oIndex, hi, hj] at h2
              obtain rfl : w = V.int z := ry
              refine ⟨p, ys, z, j, rfl, rfl, ?_, hj, h2 _ H2 m2 (.refl _) (.refl _) ok2 rfl⟩
              have := reps_ints hr hi
              subst this
              exact l2.sqT hN.sq
        | non | bl _ | str _ | tup _ | ref _ => exact False.elim h2
      | non | bl _ | str _ | int _ | ref _ => exact False.elim h1⟩
end
/-! x += e of numbers -/
def sAug (g : Int → Int → Int) (i : Nat) (f : EX) : SX := fun e st => match e[i]? with
  | some (some (.int a)) => (f e st).st e fun y st1 => match y with
    | .int b => .nx (e.set i (some (.int (g a b)))) st1
    | _ => .no
  | _ => .no
def sAugAdd (i : Nat) (f : EX) : SX := sAug (fun a b => a + b) i f
def sAugSub (i : Nat) (f : EX) : SX := sAug (fun a b => a - b) i f
section
variable {X : Cx} {T : List (Addr × Str)} {W : WX} {a : Expr} {fa : EX} {pos p' : Pos} {i : Nat} {x : Str}
theorem js_augOf {op : Operator} {g : Int → Int → Int} (hN : X.N.Nodup) (hi : X.N[i]? = some x) (hx : Loc X.env.scope x) (ho : PIp X op (ipI g)) (ha : J X T W a fa)
    (hf : X.fn x = true ∨ X.env.scope.names.lookup x = some .local) : JS X T W (.AugAssign (.Name x p') op a pos) (sAug g i fa) :=
  ps_weak (ps_aug hN hi hx ha ho hf) fun F s H ⟨e, st, m, he, ok, h⟩ => by
    unfold sAug at h
    split at h
    · rename_i n hn
      obtain ⟨v, h1, h2⟩ := he.2 i _ hn
      obtain rfl : v = V.int n := h2
      refine ⟨_, h1, e, st, m, he, ok, st_of he h fun y yv st1 H1 m1 _ l p ok1 ry h1 => ?_⟩
      cases y with
      | int b =>
        obtain rfl : yv = V.int b := ry
        exact ⟨n, b, rfl, rfl, h1 _ H1 m1 (.refl H1) (.refl m1) ok1 ((he.mono l p).set i (d := .int (g n b)) rfl)⟩
      | non | bl _ | str _ | tup _ | ref _ => exact False.elim h1
    · exact False.elim h
theorem js_augAdd (hN : X.N.Nodup) (hi : X.N[i]? = some x) (hx : Loc X.env.scope x) (ha : J X T W a fa) (hf : X.fn x = true ∨ X.env.scope.names.lookup x = some .local := by first | exact .inl rfl | exact .inr rfl | assumption) :
    JS X T W (.AugAssign (.Name x p') .Add a pos) (sAugAdd i fa) := js_augOf hN hi hx ip_add ha hf
theorem js_augSub (hN : X.N.Nodup) (hi : X.N[i]? = some x) (hx : Loc X.env.scope x) (ha : J X T W a fa) (hf : X.fn x = true ∨ X.env.scope.names.lookup x = some .local := by first | exact .inl rfl | exact .inr rfl | assumption) :
    JS X T W (.AugAssign (.Name x p') .Sub a pos) (sAugSub i fa) := js_augOf hN hi hx ip_sub ha hf
end
/-! a, b = xs, xs a list -/
def sAsgU (f : EX) (g : List D → Env → Option Env) : SX := fun e st => (f e st).st e fun d st1 => match d with
  | .ref i => match cellItems st1[i]? with
    | some ds => match g ds e with
      | some e1 => .nx e1 st1
      | none => .no
    | none => .no
  | _ => .no
section
variable {X : Cx} {T : List (Addr × Str)} {W : WX} {a : Expr} {fa : EX} {pos tpos : Pos} {us : List Nat} {ts : List Expr} {k n : Nat} {g : List D → Env → Option Env}
theorem js_asgU (hc : X.calm = true) (ha : J X T W a fa) (hg : JGs X T us ts g) (hn : (assignEach ts X.env).length = n := by rfl) (hst : (assignEach ts X.env).findIdx? (·.1) = none := by rfl) (hl : ts.length = n := by rfl)
    (hs : swapsWithSole [.Tuple ts k tpos] a pos.line X.env = pure false := by rfl) (hw : swappedStores [.Tuple ts k tpos] a X.env = pure none := by rfl)
    (h1 : (assignEach [.Tuple ts k tpos] X.env).map (·.2) = [assign (.Tuple ts k tpos) X.env] := by rfl) : JS X T W (.Assign [.Tuple ts k tpos] a pos) (sAsgU fa g) :=
  ps_weak (ps_asg ha (pg_unl (n := n) hc hg.pg hn hst) hs hw h1) fun F s H ⟨e, st, m, he, ok, h⟩ =>
  ⟨e, st, m, he, ok, st_of he h fun x y st1 H1 m1 _ l p ok1 rx h1 => by
    cases x with
    | ref i =>
      cases hci : cellItems st1[i]? with
      | none => simp only [hci] at h1; exact False.elim h1
      | some ds =>
        simp only [hci] at h1
        cases hf : g ds e with
        | none => rw [hf] at h1; exact False.elim h1
        | some e1 =>
          rw [hf] at h1
          obtain ⟨a', hm, rfl⟩ := rx
          obtain ⟨a2, vs, z1, z2, z3⟩ := cellItems_ok ok1 hci
          rw [hm] at z1
          cases z1
          exact ⟨a', vs, rfl, z2, by rw [← Reps.length z3, hg.len ds e e1 hf, hl], ds, e, st1, m1, z3, he.mono l p, ok1, e1, hf, fun s' he' _ => h1 s' H1 m1 (.refl H1) (.refl m1) ok1 he'⟩
    | tup _ => exact False.elim h1
    | non => exact False.elim h1
    | bl _ => exact False.elim h1
    | str _ => exact False.elim h1
    | int _ => exact False.elim h1⟩
end
end Mm

/-! [elt for t in i if c for u in j if d] -/
namespace Mm
open PySem L2
/-- one for inside of another: the inner one is lcL -/
def lcL2 (g : Sto → Bool) (t : TX) (c : BX) (src : IX) (vs : List Nat) (t2 : TX) (c2 : BX) (f : EX) (n : Nat) (e0 : Env) : List D → Sto → RC
  | [], st => if g st = true then .ok st else .no
  | d :: ds, st => if g st = true then match t d e0 with
    | none => .no
    | some e1 => match c e1 st with
      | .ok true st1 => match src e1 st1 with
        | .ok s2 st2 => match lcL s2.ok t2 c2 f n (wipeE e1 vs) s2.items st2 with
          | .ok st3 => lcL2 g t c src vs t2 c2 f n e0 ds st3
          | .no => .no
        | _ => .no
      | .ok false st1 => lcL2 g t c src vs t2 c2 f n e0 ds st1
      | _ => .no
    else .no
def eLc2 (own : List Nat) (src : IX) (t : TX) (c : BX) (src2 : IX) (vs : List Nat) (t2 : TX) (c2 : BX) (f : EX) : EX := fun e st => match src e st with
  | .ok s st1 => match lcL2 s.ok t c src2 vs t2 c2 f st1.length (wipeE e own) s.items (st1 ++ [Cell.lst []]) with
    | .ok st2 => .ok (.ref st1.length) st2
    | .no => .no
  | .ex x st1 => .ex x st1
  | .no => .no
section
variable {K : PySem.W.Frag} {T : List (Addr × Str)} {mg : Str → Option Value}
/-- the inner loop, whose end is known -/
theorem lcl_walk {bb : Bool} {us vs : List Nat} {J1 : It} {s2 : Src} {t : TX} {c : BX} {f : EX} {tt : TT} {n : Nat} {e0 : Env} {σ2 : L2.St} {H4 : Hp} {m4 : List Addr} {st4 stE : Sto} {Dn : Addr} {Nx : Hp → Prop}
    (hu : ∀ i ∈ us, i ∈ vs) (htt : ∀ s H Q, tT K T mg (fun _ _ _ _ => False) c s H Q → tt s H Q) (good : Good bb K T J1 s2 H4 m4) (ok4 : Ok K T H4 m4 st4) (hD : m4[n]? = some Dn) (he0 : EnvOk K H4 m4 (L2.wipe σ2 vs) e0)
    (hl : lcL s2.ok t c f n e0 s2.items st4 = .ok stE) (fin : ∀ H m, Le H4 H → Pre m4 m → Ok K T H m stE → Nx H) :
    ∃ W1 : Nat → Nat → Hp → Prop, (∃ k, W1 0 k H4) ∧ ∀ j k H, W1 j k H → (J1.stop j H ∧ Nx H) ∨ (J1.go j H ∧ ∃ Nx1 : Hp → Prop, (∀ H', Nx1 H' → ∃ k', k' < k ∧ W1 (j + 1) k' H') ∧
      ∀ x H', J1.yld j H x H' → gT bb K T us t x (L2.wipe σ2 vs) H' fun σ3 H5 => L2.wipe σ3 vs = L2.wipe σ2 vs ∧ tt σ3 H5 fun b H6 =>
        if b = true then tE K T mg (fun _ _ _ _ => False) f σ3 H6 (fun y H7 => ∃ acc, H7 Dn = some (.lst acc) ∧ acc.length < sizeLine ∧ Nx1 (upd H7 Dn (.lst (acc ++ [y])))) else Nx1 H6) := by
  refine ⟨fun j k H => ∃ st' m', k = s2.items.length - j ∧ j ≤ s2.items.length ∧ Le H4 H ∧ Pre m4 m' ∧ Ok K T H m' st' ∧ lcL s2.ok t c f n e0 (s2.items.drop j) st' = .ok stE,
    ⟨s2.items.length, st4, m4, by simp, Nat.zero_le _, .refl _, .refl _, ok4, by simpa using hl⟩, ?_⟩
  rintro j k H ⟨st', m', rfl, hle, l1, p1, ok', hd⟩
  by_cases hlt : j < s2.items.length
  · rw [List.drop_eq_getElem_cons hlt, lcL] at hd
    by_cases hg : s2.ok st' = true
    · rw [if_pos hg] at hd
      obtain ⟨gg, gs, gy⟩ := good H m' st' l1 p1 ok' hg
      refine .inr ⟨gg j hlt, fun H2 => ∃ st2 m2, Le H4 H2 ∧ Pre m4 m2 ∧ Ok K T H2 m2 st2 ∧ lcL s2.ok t c f n e0 (s2.items.drop (j + 1)) st2 = .ok stE,
        fun H2 ⟨st2, m2, a1, a2, a3, a4⟩ => ⟨s2.items.length - (j + 1), by omega, st2, m2, rfl, hlt, a1, a2, a3, a4⟩, fun x H2 hy => ?_⟩
      obtain ⟨l2, ok2, d, hdd, rx⟩ := gy j x H2 hlt hy
      rw [List.getElem?_eq_getElem hlt] at hdd
      cases hdd
      cases ht : t s2.items[j] e0 with
      | none => rw [ht] at hd; cases hd
      | some e1 =>
        rw [ht] at hd
        dsimp only at hd
        have l12 := l1.trans l2
        refine ⟨_, e0, st', m', rx, he0.mono l12 p1, ok2, e1, ht, fun s' he' bt => ⟨?_, ?_⟩⟩
        · rw [bt.wipe hu]
          exact But.wipe (ts := vs) ⟨by rw [L2.wipe_length], fun j hj => L2.wipe_out hj⟩ fun i hi => hi
        · refine htt _ _ _ ⟨e1, st', m', he', ok2, ?_⟩
          cases hc : c e1 st' with
          | no => rw [hc] at hd; cases hd
          | ex _ _ => rw [hc] at hd; cases hd
          | ok b st2 =>
            rw [hc] at hd
            refine den_noex fun y H3 m3 l5 p5 ok5 r5 => ?_
            cases r5
            cases b with
            | false =>
              rw [if_neg Bool.false_ne_true]
              exact ⟨st2, m3, l12.trans l5, p1.trans p5, ok5, hd⟩
            | true =>
              rw [if_pos rfl]
              dsimp only at hd
              refine ⟨e1, st2, m3, he'.mono l5 p5, ok5, ?_⟩
              cases hf : f e1 st2 with
              | no => rw [hf] at hd; cases hd
              | ex _ _ => rw [hf] at hd; cases hd
              | ok y st3 =>
                rw [hf] at hd
                dsimp only at hd
                refine den_noex fun yv H4' m4' l6 p6 ok6 r6 => ?_
                cases hls : lstOf st3 (.ref n) with
                | none => rw [hls] at hd; cases hd
                | some acc =>
                  rw [hls] at hd
                  dsimp only at hd
                  have pD := (p1.trans p5).trans p6
                  have hst := lst_get hls
                  obtain ⟨a', ws, q1, q2, q3⟩ := ok6.lst hst
                  rw [pD.get hD] at q1
                  cases q1
                  by_cases hz : acc.length < lim
                  · rw [if_pos hz] at hd
                    exact ⟨ws, q2, by rw [← Reps.length q3]; exact lim_lt (Nat.le_of_lt hz), st3.set n (Cell.lst (acc ++ [y])), m4', ((l12.trans l5).trans l6).trans (Le.set q2), pD, ok6.setCell hst (pD.get hD) q2 (q3.append (Reps.one r6)), hd⟩
                  · rw [if_neg hz] at hd
                    cases hd
    · rw [if_neg hg] at hd
      cases hd
  · have e0 : j = s2.items.length := by omega
    subst e0
    rw [List.drop_length, lcL] at hd
    by_cases hg : s2.ok st' = true
    · rw [if_pos hg] at hd
      obtain ⟨gg, gs, gy⟩ := good H m' st' l1 p1 ok' hg
      cases hd
      exact .inl ⟨gs, fin H m' l1 p1 ok'⟩
    · rw [if_neg hg] at hd
      cases hd
end
section
variable {X : Cx} {T : List (Addr × Str)} {W : WX}
theorem lc2_read {bb b2 : Bool} {us us2 own vs : List Nat} {wi wi2 : TI} {src src2 : IX} {t t2 : TX} {c c2 : BX} {f : EX} {tt tt2 : TT} (hu : ∀ i ∈ us, i ∈ own) (hu2 : ∀ i ∈ us2, i ∈ vs) (hwi : ∀ s H Q, tI bb X.K T X.mg W src s H Q → wi s H Q)
    (hwi2 : ∀ s H Q, tI b2 X.K T X.mg (fun _ _ _ _ => False) src2 s H Q → wi2 s H Q)
    (htt : ∀ s H Q, tT X.K T X.mg (fun _ _ _ _ => False) c s H Q → tt s H Q) (htt2 : ∀ s H Q, tT X.K T X.mg (fun _ _ _ _ => False) c2 s H Q → tt2 s H Q) {s : L2.St} {H : Hp} {Q : VK} (h : tE X.K T X.mg W (eLc2 own src t c src2 vs t2 c2 f) s H Q) :
    tLc2 wi (gT bb X.K T us t) tt wi2 (gT b2 X.K T us2 t2) tt2 (tE X.K T X.mg (fun _ _ _ _ => False) f) own vs s H Q := by
  obtain ⟨e, st, m, he, ok, h⟩ := h
  refine hwi _ _ _ ⟨e, st, m, he, ok, ?_⟩
  unfold eLc2 at h
  revert h
  generalize src e st = r
  intro h
  cases r with
  | no => exact h
  | ex x st1 => exact h
  | ok sr st1 =>
    intro Jw H1 m1 l p ok1 good Dn hD
    cases hL : lcL2 sr.ok t c src2 vs t2 c2 f st1.length (wipeE e own) sr.items (st1 ++ [Cell.lst []]) with
    | no => simp only [hL] at h; exact False.elim h
    | ok stE =>
      simp only [hL] at h
      have ok2 : Ok X.K T (upd H1 Dn (.lst [])) (m1 ++ [Dn]) (st1 ++ [Cell.lst []]) := ok1.newCell hD rfl
      have l2 : Le H1 (upd H1 Dn (.lst [])) := Le.new hD
      have he0 := wipe_env (he.mono l p) own
      have hmD : ∀ m', Pre (m1 ++ [Dn]) m' → m'[st1.length]? = some Dn := fun m' q => q.get (by rw [← ok1.len]; simp)
      refine ⟨fun i n H' => ∃ st' m', n = sr.items.length - i ∧ i ≤ sr.items.length ∧ Le (upd H1 Dn (.lst [])) H' ∧ Pre (m1 ++ [Dn]) m' ∧ Ok X.K T H' m' st' ∧ lcL2 sr.ok t c src2 vs t2 c2 f st1.length (wipeE e own) (sr.items.drop i) st' = .ok stE,
        ⟨sr.items.length, st1 ++ [Cell.lst []], m1 ++ [Dn], by simp, Nat.zero_le _, .refl _, .refl _, ok2, by simpa using hL⟩, ?_⟩
      rintro i n H' ⟨st', m', rfl, hle, l3, p3, ok3, hd⟩
      have p1m : Pre m1 m' := (Pre.add m1 Dn).trans p3
      by_cases hlt : i < sr.items.length
      · rw [List.drop_eq_getElem_cons hlt, lcL2] at hd
        by_cases hg : sr.ok st' = true
        · rw [if_pos hg] at hd
          obtain ⟨gg, gs, gy⟩ := good H' m' st' (l2.trans l3) p1m ok3 hg
          refine .inr ⟨gg i hlt, fun H2 => ∃ st2 m2, Le (upd H1 Dn (.lst [])) H2 ∧ Pre (m1 ++ [Dn]) m2 ∧ Ok X.K T H2 m2 st2 ∧ lcL2 sr.ok t c src2 vs t2 c2 f st1.length (wipeE e own) (sr.items.drop (i + 1)) st2 = .ok stE,
            fun H2 ⟨st2, m2, a1, a2, a3, a4⟩ => ⟨sr.items.length - (i + 1), by omega, st2, m2, rfl, hlt, a1, a2, a3, a4⟩, fun x H2 hy => ?_⟩
          obtain ⟨l4, ok4, d, hdd, rx⟩ := gy i x H2 hlt hy
          rw [List.getElem?_eq_getElem hlt] at hdd
          cases hdd
          cases ht : t sr.items[i] (wipeE e own) with
          | none => rw [ht] at hd; cases hd
          | some e1 =>
            rw [ht] at hd
            dsimp only at hd
            have l34 := l3.trans l4
            refine ⟨_, wipeE e own, st', m', rx, (he0.mono (l2.trans l34) p1m), ok4, e1, ht, fun s' he' bt => ⟨?_, ?_⟩⟩
            · rw [bt.wipe hu]
              exact But.wipe (ts := own) ⟨by rw [L2.wipe_length], fun j hj => L2.wipe_out hj⟩ fun i hi => hi
            · refine htt _ _ _ ⟨e1, st', m', he', ok4, ?_⟩
              cases hc : c e1 st' with
              | no => rw [hc] at hd; cases hd
              | ex _ _ => rw [hc] at hd; cases hd
              | ok b st2 =>
                rw [hc] at hd
                refine den_noex fun y H3 m3 l5 p5 ok5 r5 => ?_
                cases r5
                cases b with
                | false =>
                  rw [if_neg Bool.false_ne_true]
                  exact ⟨st2, m3, l34.trans l5, p3.trans p5, ok5, hd⟩
                | true =>
                  rw [if_pos rfl]
                  dsimp only at hd
                  refine hwi2 _ _ _ ⟨e1, st2, m3, he'.mono l5 p5, ok5, ?_⟩
                  cases hs2 : src2 e1 st2 with
                  | no => rw [hs2] at hd; cases hd
                  | ex _ _ => rw [hs2] at hd; cases hd
                  | ok s2 st3 =>
                    rw [hs2] at hd
                    dsimp only at hd
                    intro J1 H4 m4 l6 p6 ok6 good2
                    cases hin : lcL s2.ok t2 c2 f st1.length (wipeE e1 vs) s2.items st3 with
                    | no => rw [hin] at hd; cases hd
                    | ok st4 =>
                      rw [hin] at hd
                      dsimp only at hd
                      have pD := (p3.trans p5).trans p6
                      exact lcl_walk hu2 htt2 good2 ok6 (hmD _ pD) (wipe_env ((he'.mono l5 p5).mono l6 p6) vs) hin fun H5 m5 l7 p7 ok7 => ⟨st4, m5, ((l34.trans l5).trans l6).trans l7, pD.trans p7, ok7, hd⟩
        · rw [if_neg hg] at hd
          cases hd
      · have e0 : i = sr.items.length := by omega
        subst e0
        rw [List.drop_length, lcL2] at hd
        by_cases hg : sr.ok st' = true
        · rw [if_pos hg] at hd
          obtain ⟨gg, gs, gy⟩ := good H' m' st' (l2.trans l3) p1m ok3 hg
          cases hd
          exact .inl ⟨gs, h _ H' m' (l.trans (l2.trans l3)) (p.trans p1m) ok3 ⟨Dn, hmD _ p3, rfl⟩⟩
        · rw [if_neg hg] at hd
          cases hd
theorem tYes_of {c : L2.St} {H : Hp} {Q : Bool → Hp → Prop} (h : tT X.K T X.mg (fun _ _ _ _ => False) bYes c H Q) : tYes c H Q := by
  obtain ⟨e, st, m, he, ok, h⟩ := h
  exact h true H m (.refl H) (.refl m) ok rfl
variable {elt tg iter tg2 iter2 : Expr} {scope : Scope} {own : List (Str × Nat)} {vs : List Nat} {pos : Pos} {us us2 : List Nat} {src src2 : IX} {t t2 : TX} {f : EX}
/-- [elt for tg in iter for tg2 in iter2] -/
theorem j_lc20 {bb b2 : Bool} (hc : X.calm = true) (hN : X.N.Nodup) (hi : JI bb X T W tg iter src) (ok : BlkOk X.N X.env.scope scope own) (hu : ∀ i ∈ us, i ∈ own.map (·.2)) (hu2 : ∀ i ∈ us2, i ∈ vs) (hv : ∀ i ∈ vs, i ∈ own.map (·.2))
    (hg : ∀ (s : Shared) (H : Hp) (C : Addr) (cl : List (Str × Addr)) (fp : List Addr), JG bb (X.blk s H scope (compEnvC scope cl C X.env) fp) T us tg t)
    (hi2 : ∀ (s : Shared) (H : Hp) (C : Addr) (cl : List (Str × Addr)) (fp : List Addr), JI b2 (X.blk s H scope (compEnvC scope cl C X.env) fp) T (fun _ _ _ _ => False) tg2 iter2 src2)
    (hg2 : ∀ (s : Shared) (H : Hp) (C : Addr) (cl : List (Str × Addr)) (fp : List Addr), JG b2 (X.blk s H scope (compEnvC scope cl C X.env) fp) T us2 tg2 t2)
    (he : ∀ (s : Shared) (H : Hp) (C : Addr) (cl : List (Str × Addr)) (fp : List Addr), J (X.blk s H scope (compEnvC scope cl C X.env) fp) T (fun _ _ _ _ => False) elt f)
    (hs : ∀ x, foldedSetIterable iter X.env x = pure x := by intro _; rfl) (hs2 : ∀ env x, foldedSetIterable iter2 env x = pure x := by intro _ _; rfl) :
    J X T W (.ListComp elt [⟨tg, iter, [], 0⟩, ⟨tg2, iter2, [], 0⟩] scope pos) (eLc2 (own.map (·.2)) src t bYes src2 vs t2 bYes f) :=
  pe_weak (pe_lc2 hc hN hi ok hv hg (fun s H C cl fp => pts_nil) hi2 hg2 (fun s H C cl fp => pts_nil) he hs hs2) fun s H Q => lc2_read hu hu2 (fun _ _ _ h => h) (fun _ _ _ h => h) (fun s H Q h => tYes_of h) (fun s H Q h => tYes_of h)
theorem js_setLc20 {bb b2 : Bool} {i : Nat} {y : Str} {py spos : Pos} (hc : X.calm = true) (hN : X.N.Nodup) (hy : X.N[i]? = some y) (hyl : X.env.scope.names.lookup y = some .local)
    (hsw : swapsWith (.ListComp elt [⟨tg, iter, [], 0⟩, ⟨tg2, iter2, [], 0⟩] scope pos) (some (.Name y py)) spos.line X.env = pure true) (hi : JI bb X T W tg iter src) (ok : BlkOk X.N X.env.scope scope own) (hu : ∀ i ∈ us, i ∈ own.map (·.2)) (hu2 : ∀ i ∈ us2, i ∈ vs) (hv : ∀ i ∈ vs, i ∈ own.map (·.2))
    (hg : ∀ (s : Shared) (H : Hp) (C : Addr) (cl : List (Str × Addr)) (fp : List Addr), JG bb (X.blk s H scope (compEnvC scope cl C X.env) fp) T us tg t)
    (hi2 : ∀ (s : Shared) (H : Hp) (C : Addr) (cl : List (Str × Addr)) (fp : List Addr), JI b2 (X.blk s H scope (compEnvC scope cl C X.env) fp) T (fun _ _ _ _ => False) tg2 iter2 src2)
    (hg2 : ∀ (s : Shared) (H : Hp) (C : Addr) (cl : List (Str × Addr)) (fp : List Addr), JG b2 (X.blk s H scope (compEnvC scope cl C X.env) fp) T us2 tg2 t2)
    (he : ∀ (s : Shared) (H : Hp) (C : Addr) (cl : List (Str × Addr)) (fp : List Addr), J (X.blk s H scope (compEnvC scope cl C X.env) fp) T (fun _ _ _ _ => False) elt f)
    (hs : ∀ x, foldedSetIterable iter X.env x = pure x := by intro _; rfl) (hs2 : ∀ env x, foldedSetIterable iter2 env x = pure x := by intro _ _; rfl) :
    JS X T W (.Assign [.Name y py] (.ListComp elt [⟨tg, iter, [], 0⟩, ⟨tg2, iter2, [], 0⟩] scope pos) spos) (sSet i (eLc2 (own.map (·.2)) src t bYes src2 vs t2 bYes f)) :=
  ps_weak (ps_setLc2 hc hN hy hyl hsw hi ok hv hg (fun s H C cl fp => pts_nil) hi2 hg2 (fun s H C cl fp => pts_nil) he hs hs2) fun F s H ⟨e, st, m, he, ok, h⟩ =>
    lc2_read hu hu2 (fun _ _ _ h => h) (fun _ _ _ h => h) (fun s H Q h => tYes_of h) (fun s H Q h => tYes_of h) ⟨e, st, m, he, ok, st_of he h fun x y st1 H1 m1 _ l p ok1 rx h1 => h1 _ H1 m1 (.refl H1) (.refl m1) ok1 ((he.mono l p).set i rx)⟩
end
end Mm

namespace Mm
open PySem L2 PySem.Spec PyProof.Rows
/-! ### a // b of a great b -/
def CDivG (i j : Int) : Prop := j ≠ 0 ∧ j.natAbs < 2 ^ 4000
section
variable {X : Cx} {T : List (Addr × Str)}
theorem op_fdivG : OpR X (binaryOp .FloorDiv) (rI CDivG fun i j => .int (i.fdiv j)) := opI fun _ _ _ _ _ _ _ hc q => floordiv_int hc.1 q (.inl (PyProof.noPylong_of_log2 (by have := log_le hc.2 (by decide); omega)))
def oDivG : O2 := fun x y st => match x, y with
  | .int i, .int j => if decide (j ≠ 0) && decide (j.natAbs < lcmTop) then some (.int (Int.fdiv i j), st) else none
  | _, _ => none
theorem ope_divG : OpR X (binaryOp .FloorDiv) (r2 X.K T oDivG) := op_of fun dx dy st m H x y r Q rx ry ok ho q => by
  cases dx with
  | int i =>
    cases dy with
    | int j =>
      simp only [oDivG] at ho
      split at ho
      · rename_i hb
        cases ho; cases rx; cases ry
        simp only [Bool.and_eq_true, decide_eq_true_eq] at hb
        exact ⟨_, op_fdivG, i, j, rfl, rfl, hb, deno_val q ok rfl⟩
      · cases ho
    | non | bl _ | str _ | tup _ | ref _ => cases ho
  | non | bl _ | str _ | tup _ | ref _ => cases ho
end
/-! ### running [f for x in xs for y in G x], where nothing else is made -/
theorem lcL_acc {g : Sto → Bool} {t : TX} {f : EX} {e0 : Env} {st : Sto} (F : D → D) (hg : ∀ acc, g (st ++ [Cell.lst acc]) = true) (ds acc : List D) (hl : acc.length + ds.length ≤ lim)
    (h : ∀ d ∈ ds, ∃ e1, t d e0 = some e1 ∧ ∀ acc, f e1 (st ++ [Cell.lst acc]) = .ok (F d) (st ++ [Cell.lst acc])) :
    lcL g t bYes f st.length e0 ds (st ++ [Cell.lst acc]) = .ok (st ++ [Cell.lst (acc ++ ds.map F)]) := by
  have := lcL_pure (c := bYes) (f := f) (t := t) (e0 := e0) (fun _ => true) F hg ds acc hl fun d hd => by
    obtain ⟨e1, h1, h2⟩ := h d hd
    exact ⟨e1, h1, fun _ => rfl, fun _ => h2⟩
  rw [filt_all (fun _ _ => rfl)] at this
  exact this
theorem lcL2_pure {g : Sto → Bool} {t t2 : TX} {f : EX} {src : IX} {vs : List Nat} {e0 : Env} {st : Sto} (I : D → List D) (F : D → D → D) (hg : ∀ acc, g (st ++ [Cell.lst acc]) = true) : ∀ (ds acc : List D), acc.length + (ds.flatMap fun d => I d).length ≤ lim →
    (∀ d ∈ ds, ∃ e1 g2, t d e0 = some e1 ∧ (∀ acc, src e1 (st ++ [Cell.lst acc]) = .ok ⟨I d, g2⟩ (st ++ [Cell.lst acc])) ∧ (∀ acc, g2 (st ++ [Cell.lst acc]) = true) ∧ ∀ u ∈ I d, ∃ e2, t2 u (wipeE e1 vs) = some e2 ∧ ∀ acc, f e2 (st ++ [Cell.lst acc]) = .ok (F d u) (st ++ [Cell.lst acc])) →
    lcL2 g t bYes src vs t2 bYes f st.length e0 ds (st ++ [Cell.lst acc]) = .ok (st ++ [Cell.lst (acc ++ ds.flatMap fun d => (I d).map (F d))])
  | [], acc, _, _ => by rw [lcL2, if_pos (hg acc)]; simp
  | d :: ds, acc, hl, h => by
    obtain ⟨e1, g2, h1, h2, h3, h4⟩ := h d (by simp)
    simp only [List.flatMap_cons, List.length_append] at hl
    have h5 := lcL_acc (F d) h3 (I d) acc (by omega) h4
    have h6 := lcL2_pure I F hg ds (acc ++ (I d).map (F d)) (by rw [List.length_append, List.length_map]; omega) (fun x hx => h x (by simp [hx]))
    rw [lcL2, if_pos (hg acc), h1]
    simp only [show bYes e1 (st ++ [Cell.lst acc]) = .ok true (st ++ [Cell.lst acc]) from rfl, h2 acc]
    rw [h5]
    simp only
    rw [h6]
    simp [List.flatMap_cons]
theorem lc2_pure {own : List Nat} {src0 : IX} {t t2 : TX} {f : EX} {src : IX} {vs : List Nat} {e : Env} {st : Sto} {ds : List D} {g : Sto → Bool} (I : D → List D) (F : D → D → D) (hs : src0 e st = .ok ⟨ds, g⟩ st) (hg : ∀ acc, g (st ++ [Cell.lst acc]) = true) (hl : (ds.flatMap fun d => I d).length ≤ lim)
    (h : ∀ d ∈ ds, ∃ e1 g2, t d (wipeE e own) = some e1 ∧ (∀ acc, src e1 (st ++ [Cell.lst acc]) = .ok ⟨I d, g2⟩ (st ++ [Cell.lst acc])) ∧ (∀ acc, g2 (st ++ [Cell.lst acc]) = true) ∧ ∀ u ∈ I d, ∃ e2, t2 u (wipeE e1 vs) = some e2 ∧ ∀ acc, f e2 (st ++ [Cell.lst acc]) = .ok (F d u) (st ++ [Cell.lst acc])) :
    eLc2 own src0 t bYes src vs t2 bYes f e st = .ok (.ref st.length) (st ++ [Cell.lst (ds.flatMap fun d => (I d).map (F d))]) := by
  unfold eLc2
  rw [hs]
  simp only
  rw [lcL2_pure I F hg ds [] (by simpa using hl) h]
  simp
end Mm

/-! the defs of the law undertwo_k12_cheapest_by_shares over data, and that each does so -/
namespace Gk12
open PySem L2 Mm
def topS (i : Nat) : Stmt := PySem.Challenge.pw_undertwo_k12_cheapest_by_shares.main.body.getD i (.Pass ⟨0, 0, 0, 0⟩)
def mnames : List Str := ["BadK", "BadWeights", "NoRoom"]
def mtab : Str → Str → Option Bool := mtOf (([(("BadK" : Str), ("BadK" : Str), true), (("BadK" : Str), ("BadMany" : Str), false), (("BadK" : Str), ("BadRow" : Str), false), (("BadK" : Str), ("BadRows" : Str), false), (("BadK" : Str), ("BadTs" : Str), false), (("BadK" : Str), ("BadView" : Str), false), (("BadK" : Str), ("BadWeights" : Str), false), (("BadK" : Str), ("Blank" : Str), false), (("BadK" : Str), ("NoDots" : Str), false), (("BadK" : Str), ("NoFit" : Str), false), (("BadK" : Str), ("NoRoom" : Str), false), (("BadK" : Str), ("Shared" : Str), false), (("BadK" : Str), ("Thin" : Str), false)] : List (Str × Str × Bool)) ++ ([(("BadWeights" : Str), ("BadK" : Str), false), (("BadWeights" : Str), ("BadMany" : Str), false), (("BadWeights" : Str), ("BadRow" : Str), false), (("BadWeights" : Str), ("BadRows" : Str), false), (("BadWeights" : Str), ("BadTs" : Str), false), (("BadWeights" : Str), ("BadView" : Str), false), (("BadWeights" : Str), ("BadWeights" : Str), true), (("BadWeights" : Str), ("Blank" : Str), false), (("BadWeights" : Str), ("NoDots" : Str), false), (("BadWeights" : Str), ("NoFit" : Str), false), (("BadWeights" : Str), ("NoRoom" : Str), false), (("BadWeights" : Str), ("Shared" : Str), false), (("BadWeights" : Str), ("Thin" : Str), false)] : List (Str × Str × Bool)) ++ ([(("NoRoom" : Str), ("BadK" : Str), false), (("NoRoom" : Str), ("BadMany" : Str), false), (("NoRoom" : Str), ("BadRow" : Str), false), (("NoRoom" : Str), ("BadRows" : Str), false), (("NoRoom" : Str), ("BadTs" : Str), false), (("NoRoom" : Str), ("BadView" : Str), false), (("NoRoom" : Str), ("BadWeights" : Str), false), (("NoRoom" : Str), ("Blank" : Str), false), (("NoRoom" : Str), ("NoDots" : Str), false), (("NoRoom" : Str), ("NoFit" : Str), false), (("NoRoom" : Str), ("NoRoom" : Str), true), (("NoRoom" : Str), ("Shared" : Str), false), (("NoRoom" : Str), ("Thin" : Str), false)] : List (Str × Str × Bool)))
def hl__law_kind_heard : List SC := [⟨"BadK", some 1, fun x _ st => .ret (.tup [.str "k", x.what]) st⟩, ⟨"BadRow", some 1, fun x _ st => .ret (.tup [.str "row", x.what]) st⟩, ⟨"BadRows", some 1, fun x _ st => .ret (.tup [.str "rows", x.what]) st⟩, ⟨"BadView", some 1, fun x _ st => .ret (.tup [.str "view", x.what]) st⟩, ⟨"BadTs", some 1, fun x _ st => .ret (.tup [.str "ts", x.what]) st⟩, ⟨"BadMany", some 1, fun x _ st => .ret (.tup [.str "many", x.what]) st⟩, ⟨"BadWeights", some 1, fun x _ st => .ret (.tup [.str "weights", x.what]) st⟩, ⟨"NoDots", some 1, fun x _ st => .ret (.tup [.str "no dots", x.what]) st⟩, ⟨"NoFit", some 1, fun x _ st => .ret (.tup [.str "no fit", x.what]) st⟩, ⟨"NoRoom", some 1, fun x _ st => .ret (.tup [.str "no room", x.what]) st⟩, ⟨"Blank", some 1, fun x _ st => .ret (.tup [.str "blank", x.what]) st⟩, ⟨"Shared", some 1, fun x _ st => .ret (.tup [.str "shared", x.what]) st⟩, ⟨"Thin", some 1, fun x _ st => .ret (.tup [.str "thin", x.what]) st⟩]
def s_lowest : List D → Sto → R D := fnS 3
  (sSeq (sSet 2 (eN oGcd (aC (eV 0) (aC (eV 1) aN))))
    (sRet (eTup (aC (e2 oDivG (eV 0) (eV 2)) (aC (e2 oDivG (eV 1) (eV 2)) aN)))))
def s_is_number : List D → Sto → R D := fnS 1
  (sRet (eAndT (e1 (oIsi "int") (eV 0)) (eNotT (e1 (oIsi "bool") (eV 0)))))
def s_is_within : List D → Sto → R D := fnS 3
  (sRet (eAndT (eCall s_is_number (aC (eV 0) aN)) (eCh oLe oLe (eV 1) (eV 0) (eV 2))))
def s_made_k : List D → Sto → R D := fnS 1
  (sSeq (sIf (bNot (bTru (eCall s_is_within (aC (eV 0) (aC (eC (.int 1)) (aC (eC (.int 60)) aN)))))) (sRaise "BadK" (aC (eC (.int 0)) aN)) sNx)
    (sRet (eV 0)))
def L1_wrong_at : SX := (sIf (bNot (bTru (eCall s_is_within (aC (eV 6) (aC (eV 3) (aC (eV 4) aN)))))) (sRet (eV 5)) sNx)
theorem L1_wrong_at_ap (e : Mm.Env) (st : Sto) : L1_wrong_at e st = ((sIf (bNot (bTru (eCall s_is_within (aC (eV 6) (aC (eV 3) (aC (eV 4) aN)))))) (sRet (eV 5)) sNx) : SX) e st := rfl
def s_wrong_at : List D → Sto → R D := fnS 7
  (sSeq (sIf (bOr (bNot (bTru (e1 (oIsi "tuple") (eV 0)))) (bNot (bB (eCh oLe oLe (eV 1) (eN oLen (aC (eV 0) aN)) (eV 2))))) (sRet (e1 oNeg (eC (.int 1)))) sNx)
    (sSeq (sFor (iEn (eV 0)) (tgTup (tgCons (tgN 5) (tgCons (tgN 6) tgNil))) L1_wrong_at)
    (sRet (eC .non))))
def s_check_weights : List D → Sto → R D := fnS 2
  (sSeq (sSet 1 (eCall s_wrong_at (aC (eV 0) (aC (eC (.int 1)) (aC (eC (.int 5)) (aC (eC (.int 0)) (aC (eC (.int 1000)) aN)))))))
    (sIf (bB (e2 oIsN (eV 1) (eC .non))) (sRaise "BadWeights" (aC (eV 1) aN)) sNx))
def s_left_over : List D → Sto → R D := fnS 2
  (sRet (e2 oSub (e2 oAdd (eV 0) (eN oMax (aC (eV 1) aN))) (e2 oMul (eC (.int 2)) (eN oSum (aC (eV 1) aN)))))
def J1_all_that_fit : IX := (iR2 (aC (eC (.int 1)) (aC (e2 oAdd (eV 0) (eC (.int 1))) aN)))
theorem J1_all_that_fit_ap (e : Mm.Env) (st : Sto) : J1_all_that_fit e st = ((iR2 (aC (eC (.int 1)) (aC (e2 oAdd (eV 0) (eC (.int 1))) aN))) : IX) e st := rfl
def E1_all_that_fit : EX := (eTupS (aSt (eV 5) (aC (eV 6) aN)))
theorem E1_all_that_fit_ap (e : Mm.Env) (st : Sto) : E1_all_that_fit e st = ((eTupS (aSt (eV 5) (aC (eV 6) aN))) : EX) e st := rfl
def I1_all_that_fit : BX := (bB (e2 oGe (eCall s_left_over (aC (eV 0) (aC (eV 5) aN))) (eC (.int 0))))
theorem I1_all_that_fit_ap (e : Mm.Env) (st : Sto) : I1_all_that_fit e st = ((bB (e2 oGe (eCall s_left_over (aC (eV 0) (aC (eV 5) aN))) (eC (.int 0)))) : BX) e st := rfl
def E2_all_that_fit : EX := (eV 5)
theorem E2_all_that_fit_ap (e : Mm.Env) (st : Sto) : E2_all_that_fit e st = ((eV 5) : EX) e st := rfl
def L1_all_that_fit : SX := (sSeq (sSet 4 (eLc2 [5, 6] (iSeq (eV 2)) (tgN 5) bYes J1_all_that_fit [6] (tgN 6) bYes E1_all_that_fit))
    (sSet 2 (eLc [5] (iSeq (eV 4)) (tgN 5) I1_all_that_fit E2_all_that_fit)))
theorem L1_all_that_fit_ap (e : Mm.Env) (st : Sto) : L1_all_that_fit e st = ((sSeq (sSet 4 (eLc2 [5, 6] (iSeq (eV 2)) (tgN 5) bYes J1_all_that_fit [6] (tgN 6) bYes E1_all_that_fit))
    (sSet 2 (eLc [5] (iSeq (eV 4)) (tgN 5) I1_all_that_fit E2_all_that_fit))) : SX) e st := rfl
def s_all_that_fit : List D → Sto → R D := fnS 7
  (sSeq (sSet 2 (eLst (aC (eTup aN) aN)))
    (sSeq (sFor (iR1 (aC (eV 1) aN)) (tgN 3) L1_all_that_fit)
    (sRet (eV 2))))
def L1_common_multiple : SX := (sSet 1 (eN oLcm (aC (eV 1) (aC (eV 2) aN))))
theorem L1_common_multiple_ap (e : Mm.Env) (st : Sto) : L1_common_multiple e st = ((sSet 1 (eN oLcm (aC (eV 1) (aC (eV 2) aN)))) : SX) e st := rfl
def s_common_multiple : List D → Sto → R D := fnS 3
  (sSeq (sSet 1 (eC (.int 1)))
    (sSeq (sFor (iR2 (aC (e2 oAdd (eV 0) (eC (.int 1))) (aC (e2 oAdd (e2 oMul (eC (.int 2)) (eV 0)) (eC (.int 1))) aN))) (tgN 2) L1_common_multiple)
    (sRet (eV 1))))
def E1_cheapest : EX := (e2 oDiv (e2 oMul (e2 oMul (eV 9) (eC (.int 2))) (eV 3)) (e2 oAdd (eV 0) (eV 10)))
theorem E1_cheapest_ap (e : Mm.Env) (st : Sto) : E1_cheapest e st = ((e2 oDiv (e2 oMul (e2 oMul (eV 9) (eC (.int 2))) (eV 3)) (e2 oAdd (eV 0) (eV 10))) : EX) e st := rfl
def L1_cheapest : SX := (sSeq (sSet 8 (eN oSum (aC (eLc [9, 10] (iZp (eV 6) (eV 7)) (tgTup (tgCons (tgN 9) (tgCons (tgN 10) tgNil))) bYes E1_cheapest) aN)))
    (sIf (bOr (bB (e2 oIs (eV 4) (eC .non))) (bB (e2 oLt (eV 8) (e2 oIx (eV 4) (eC (.int 0)))))) (sSet 4 (eTup (aC (eV 8) (aC (eV 5) (aC (e2 oAdd (e2 oAdd (eSl (eV 7) none (some (eV 5))) (eTup (aC (eC (.int 0)) aN))) (eSl (eV 7) (some (eV 5)) none)) aN))))) sNx))
theorem L1_cheapest_ap (e : Mm.Env) (st : Sto) : L1_cheapest e st = ((sSeq (sSet 8 (eN oSum (aC (eLc [9, 10] (iZp (eV 6) (eV 7)) (tgTup (tgCons (tgN 9) (tgCons (tgN 10) tgNil))) bYes E1_cheapest) aN)))
    (sIf (bOr (bB (e2 oIs (eV 4) (eC .non))) (bB (e2 oLt (eV 8) (e2 oIx (eV 4) (eC (.int 0)))))) (sSet 4 (eTup (aC (eV 8) (aC (eV 5) (aC (e2 oAdd (e2 oAdd (eSl (eV 7) none (some (eV 5))) (eTup (aC (eC (.int 0)) aN))) (eSl (eV 7) (some (eV 5)) none)) aN))))) sNx)) : SX) e st := rfl
def L2_cheapest : SX := (sSeq (sSet 6 (e2 oAdd (eSl (eV 1) none (some (eV 5))) (eSl (eV 1) (some (e2 oAdd (eV 5) (eC (.int 1)))) none)))
    (sFor (iSeq (eV 2)) (tgN 7) L1_cheapest))
theorem L2_cheapest_ap (e : Mm.Env) (st : Sto) : L2_cheapest e st = ((sSeq (sSet 6 (e2 oAdd (eSl (eV 1) none (some (eV 5))) (eSl (eV 1) (some (e2 oAdd (eV 5) (eC (.int 1)))) none)))
    (sFor (iSeq (eV 2)) (tgN 7) L1_cheapest)) : SX) e st := rfl
def s_cheapest : List D → Sto → R D := fnS 11
  (sSeq (sEx (eCall s_made_k (aC (eV 0) aN)))
    (sSeq (sIf (bB (e2 oGt (eV 0) (eC (.int 24)))) (sRaise "BadK" (aC (eC (.int 0)) aN)) sNx)
    (sSeq (sEx (eCall s_check_weights (aC (eV 1) aN)))
    (sSeq (sIf (bB (e2 oGt (e2 oSub (eN oLen (aC (eV 1) aN)) (eC (.int 1))) (e2 oDiv (e2 oAdd (eV 0) (eC (.int 1))) (eC (.int 2))))) (sRaise "NoRoom" (aC (eC (.int 0)) aN)) sNx)
    (sSeq (sSet 2 (eCall s_all_that_fit (aC (eV 0) (aC (e2 oSub (eN oLen (aC (eV 1) aN)) (eC (.int 1))) aN))))
    (sSeq (sSet 3 (eCall s_common_multiple (aC (eV 0) aN)))
    (sSeq (sSet 4 (eC .non))
    (sSeq (sFor (iR1 (aC (eN oLen (aC (eV 1) aN)) aN)) (tgN 5) L2_cheapest)
    (sSeq (sAsg (eV 4) (tgTup (tgCons (tgN 8) (tgCons (tgN 5) (tgCons (tgN 7) tgNil)))))
    (sRet (eTup (aC (eCall s_lowest (aC (eV 8) (aC (eV 3) aN))) (aC (eV 5) (aC (eV 7) aN))))))))))))))
def s__law_pool : List D → Sto → R D := fnS 3
  (sSeq (sSet 1 (eIf (bB (e2 oGt (eN oLen (aC (eV 0) aN)) (eC (.int 0)))) (eN oInt (aC (e2 oIx (eV 0) (eC (.int 0))) aN)) (eC (.int 0))))
    (sSeq (sSet 2 (eIf (bB (e2 oGe (eV 1) (eC (.int 0)))) (e2 oMul (eC (.int 2)) (eV 1)) (e2 oSub (e1 oNeg (eC (.int 1))) (e2 oMul (eC (.int 2)) (eV 1)))))
    (sRet (eLst (aC (eIf (bB (e2 oGe (eV 2) (e2 oPow (eC (.int 10)) (eC (.int 18))))) (eV 2) (eC (.int 0))) (aC (e2 oAdd (e2 oMod (eN oInt (aC (e2 oAdd (e2 oMul (eV 2) (eC (.int 48271))) (eC (.int 1009))) aN)) (eC (.int 2147483629))) (eC (.int 3))) (aC (eN oListOf (aC (eSl (eV 0) (some (eC (.int 1))) none) aN)) aN)))))))
def s__law_draw : List D → Sto → R D := fnS 5
  (sSeq (sIf (bAnd (bB (e2 oEq (e2 oIx (eV 0) (eC (.int 0))) (eC (.int 0)))) (bB (e2 oNe (e2 oIx (eV 0) (eC (.int 2))) (eLst aN)))) (sSeq (sSet 2 (eN oInt (aC (eM1 oPopAt (e2 oIx (eV 0) (eC (.int 2))) (eC (.int 0))) aN)))
    (sSeq (sSet 3 (eIf (bB (e2 oGe (eV 2) (eC (.int 0)))) (e2 oMul (eC (.int 2)) (eV 2)) (e2 oSub (e1 oNeg (eC (.int 1))) (e2 oMul (eC (.int 2)) (eV 2)))))
    (sSeq (sStore (eV 0) (eC (.int 0)) (eIf (bB (e2 oGe (eV 3) (e2 oPow (eC (.int 10)) (eC (.int 18))))) (eV 3) (eC (.int 0))))
    (sStore (eV 0) (eC (.int 1)) (e2 oAdd (e2 oMod (eN oInt (aC (e2 oAdd (e2 oIx (eV 0) (eC (.int 1))) (e2 oMul (eV 3) (eC (.int 69621)))) aN)) (eC (.int 2147483629))) (eC (.int 3))))))) sNx)
    (sSeq (sIf (bB (e2 oGt (e2 oIx (eV 0) (eC (.int 0))) (eC (.int 0)))) (sSeq (sSet 4 (e2 oMod (eN oInt (aC (e2 oIx (eV 0) (eC (.int 0))) aN)) (eV 1)))
    (sSeq (sStore (eV 0) (eC (.int 0)) (e2 oDiv (e2 oIx (eV 0) (eC (.int 0))) (eV 1)))
    (sRet (eV 4)))) sNx)
    (sSeq (sStore (eV 0) (eC (.int 1)) (e2 oMod (eN oInt (aC (e2 oAdd (e2 oMul (e2 oIx (eV 0) (eC (.int 1))) (eC (.int 48271))) (eC (.int 11))) aN)) (eC (.int 2147483647))))
    (sRet (e2 oMod (e2 oDiv (e2 oMod (eN oInt (aC (e2 oMul (e2 oIx (eV 0) (eC (.int 1))) (e2 oIx (eV 0) (eC (.int 1)))) aN)) (eC (.int 2147483629))) (eC (.int 32))) (eV 1))))))
def C1__law_row_gcd : BX := (bB (e2 oNe (eV 1) (eC (.int 0))))
theorem C1__law_row_gcd_ap (e : Mm.Env) (st : Sto) : C1__law_row_gcd e st = ((bB (e2 oNe (eV 1) (eC (.int 0)))) : BX) e st := rfl
def W1__law_row_gcd : SX := (sPar 0 1 (eV 1) (e2 oMod (eN oInt (aC (eV 0) aN)) (eV 1)))
theorem W1__law_row_gcd_ap (e : Mm.Env) (st : Sto) : W1__law_row_gcd e st = ((sPar 0 1 (eV 1) (e2 oMod (eN oInt (aC (eV 0) aN)) (eV 1))) : SX) e st := rfl
def s__law_row_gcd : List D → Sto → R D := fnS 2
  (sSeq (sWh C1__law_row_gcd W1__law_row_gcd)
    (sRet (eV 0)))
def s__law_row_low : List D → Sto → R D := fnS 3
  (sSeq (sSet 2 (eCall s__law_row_gcd (aC (eV 0) (aC (eV 1) aN))))
    (sRet (eTup (aC (e2 oDiv (eV 0) (eV 2)) (aC (e2 oDiv (eV 1) (eV 2)) aN)))))
def s__law_kind_spare : List D → Sto → R D := fnS 2
  (sRet (e2 oAdd (e2 oSub (eV 0) (e2 oMul (eC (.int 2)) (eN oSum (aC (eV 1) aN)))) (eN oMax (aC (e2 oAdd (eN oListOf (aC (eV 1) aN)) (eLst (aC (eC (.int 0)) aN))) aN))))
def L1__law_kind_lots : SX := (sSeq (sIf (bB (e2 oLt (eCall s__law_kind_spare (aC (eV 0) (aC (e2 oAdd (eV 5) (eTup (aC (eV 6) aN))) aN))) (eC (.int 0)))) sBrk sNx)
    (sEx (eM1 oApp (eV 4) (e2 oAdd (eV 5) (eTup (aC (eV 6) aN))))))
theorem L1__law_kind_lots_ap (e : Mm.Env) (st : Sto) : L1__law_kind_lots e st = ((sSeq (sIf (bB (e2 oLt (eCall s__law_kind_spare (aC (eV 0) (aC (e2 oAdd (eV 5) (eTup (aC (eV 6) aN))) aN))) (eC (.int 0)))) sBrk sNx)
    (sEx (eM1 oApp (eV 4) (e2 oAdd (eV 5) (eTup (aC (eV 6) aN)))))) : SX) e st := rfl
def L2__law_kind_lots : SX := (sFor (iR2 (aC (eC (.int 1)) (aC (e2 oAdd (eV 0) (eC (.int 1))) aN))) (tgN 6) L1__law_kind_lots)
theorem L2__law_kind_lots_ap (e : Mm.Env) (st : Sto) : L2__law_kind_lots e st = ((sFor (iR2 (aC (eC (.int 1)) (aC (e2 oAdd (eV 0) (eC (.int 1))) aN))) (tgN 6) L1__law_kind_lots) : SX) e st := rfl
def L3__law_kind_lots : SX := (sSeq (sSet 4 (eLst aN))
    (sSeq (sFor (iSeq (eV 2)) (tgN 5) L2__law_kind_lots)
    (sSet 2 (eV 4))))
theorem L3__law_kind_lots_ap (e : Mm.Env) (st : Sto) : L3__law_kind_lots e st = ((sSeq (sSet 4 (eLst aN))
    (sSeq (sFor (iSeq (eV 2)) (tgN 5) L2__law_kind_lots)
    (sSet 2 (eV 4)))) : SX) e st := rfl
def s__law_kind_lots : List D → Sto → R D := fnS 7
  (sSeq (sSet 2 (eLst (aC (eTup aN) aN)))
    (sSeq (sFor (iR1 (aC (eV 1) aN)) (tgN 3) L3__law_kind_lots)
    (sRet (eV 2))))
def L1__law_share_cost : SX := (sIf (bB (e2 oGt (eV 6) (eC (.int 0)))) (sPar 3 4 (e2 oAdd (e2 oMul (eV 3) (e2 oAdd (eV 0) (eV 6))) (e2 oMul (e2 oMul (eC (.int 2)) (eV 5)) (eV 4))) (e2 oMul (eV 4) (e2 oAdd (eV 0) (eV 6)))) sNx)
theorem L1__law_share_cost_ap (e : Mm.Env) (st : Sto) : L1__law_share_cost e st = ((sIf (bB (e2 oGt (eV 6) (eC (.int 0)))) (sPar 3 4 (e2 oAdd (e2 oMul (eV 3) (e2 oAdd (eV 0) (eV 6))) (e2 oMul (e2 oMul (eC (.int 2)) (eV 5)) (eV 4))) (e2 oMul (eV 4) (e2 oAdd (eV 0) (eV 6)))) sNx) : SX) e st := rfl
def s__law_share_cost : List D → Sto → R D := fnS 7
  (sSeq (sAsg (eTup (aC (eC (.int 0)) (aC (eC (.int 1)) aN))) (tgTup (tgCons (tgN 3) (tgCons (tgN 4) tgNil))))
    (sSeq (sFor (iZp (eV 1) (eV 2)) (tgTup (tgCons (tgN 5) (tgCons (tgN 6) tgNil))) L1__law_share_cost)
    (sRet (eTup (aC (eV 3) (aC (eV 4) aN))))))
def L1__law_share_due : SX := (sSeq (sSet 6 (e2 oAdd (e2 oAdd (eSl (eV 5) none (some (eV 4))) (eTup (aC (eC (.int 0)) aN))) (eSl (eV 5) (some (eV 4)) none)))
    (sSeq (sSet 7 (eCall s__law_share_cost (aC (eV 0) (aC (eV 1) (aC (eV 6) aN)))))
    (sIf (bOr (bB (e2 oIs (eV 2) (eC .non))) (bB (e2 oLt (e2 oMul (e2 oIx (eV 7) (eC (.int 0))) (e2 oIx (e2 oIx (eV 2) (eC (.int 0))) (eC (.int 1)))) (e2 oMul (e2 oIx (e2 oIx (eV 2) (eC (.int 0))) (eC (.int 0))) (e2 oIx (eV 7) (eC (.int 1))))))) (sSet 2 (eTup (aC (eV 7) (aC (eV 4) (aC (eV 6) aN))))) sNx)))
theorem L1__law_share_due_ap (e : Mm.Env) (st : Sto) : L1__law_share_due e st = ((sSeq (sSet 6 (e2 oAdd (e2 oAdd (eSl (eV 5) none (some (eV 4))) (eTup (aC (eC (.int 0)) aN))) (eSl (eV 5) (some (eV 4)) none)))
    (sSeq (sSet 7 (eCall s__law_share_cost (aC (eV 0) (aC (eV 1) (aC (eV 6) aN)))))
    (sIf (bOr (bB (e2 oIs (eV 2) (eC .non))) (bB (e2 oLt (e2 oMul (e2 oIx (eV 7) (eC (.int 0))) (e2 oIx (e2 oIx (eV 2) (eC (.int 0))) (eC (.int 1)))) (e2 oMul (e2 oIx (e2 oIx (eV 2) (eC (.int 0))) (eC (.int 0))) (e2 oIx (eV 7) (eC (.int 1))))))) (sSet 2 (eTup (aC (eV 7) (aC (eV 4) (aC (eV 6) aN))))) sNx))) : SX) e st := rfl
def L2__law_share_due : SX := (sFor (iSeq (eV 3)) (tgN 5) L1__law_share_due)
theorem L2__law_share_due_ap (e : Mm.Env) (st : Sto) : L2__law_share_due e st = ((sFor (iSeq (eV 3)) (tgN 5) L1__law_share_due) : SX) e st := rfl
def s__law_share_due : List D → Sto → R D := fnS 8
  (sSeq (sPar 2 3 (eC .non) (eCall s__law_kind_lots (aC (eV 0) (aC (e2 oSub (eN oLen (aC (eV 1) aN)) (eC (.int 1))) aN))))
    (sSeq (sFor (iR1 (aC (eN oLen (aC (eV 1) aN)) aN)) (tgN 4) L2__law_share_due)
    (sRet (eIf (bB (e2 oIs (eV 2) (eC .non))) (eC .non) (eTup (aC (eCall s__law_row_low (aC (e2 oIx (e2 oIx (eV 2) (eC (.int 0))) (eC (.int 0))) (aC (e2 oIx (e2 oIx (eV 2) (eC (.int 0))) (eC (.int 1))) aN))) (aC (e2 oIx (eV 2) (eC (.int 1))) (aC (e2 oIx (eV 2) (eC (.int 2))) aN))))))))
def s__law_share_right : List D → Sto → R D := fnS 4
  (sSeq (sSet 2 (eCall s__law_share_due (aC (eV 0) (aC (eV 1) aN))))
    (sSeq (sSet 3 (eHeard "is" 2 mtab mnames hl__law_kind_heard (eCall s_cheapest (aC (eV 0) (aC (eV 1) aN)))))
    (sRet (e2 oEq (eN oRepr (aC (eV 3) aN)) (eN oRepr (aC (eIf (bB (e2 oIs (eV 2) (eC .non))) (eTup (aC (eC (.str "no room")) (aC (eC (.int 0)) aN))) (eTup (aC (eC (.str "is")) (aC (eV 2) aN)))) aN))))))
def s__law_kind_no_k : List D → Sto → R D := fnS 0
  (sRet (eLst (aC (eC (.int 0)) (aC (e1 oNeg (eC (.int 1))) (aC (eC (.int 61)) (aC (eC (.bl true)) (aC (eC (.bl false)) (aC (eC .non) (aC (eC (.str "3")) (aC (eTup (aC (eC (.int 3)) aN)) (aC (e2 oPow (eC (.int 10)) (eC (.int 20))) aN)))))))))))
def L1__law_share_refused : SX := (sIf (bB (e2 oNe (eHeard "is" 2 mtab mnames hl__law_kind_heard (eCall s_cheapest (aC (eV 2) (aC (eC .non) aN)))) (eTup (aC (eC (.str "k")) (aC (eC (.int 0)) aN))))) (sRet (eC (.bl false))) sNx)
theorem L1__law_share_refused_ap (e : Mm.Env) (st : Sto) : L1__law_share_refused e st = ((sIf (bB (e2 oNe (eHeard "is" 2 mtab mnames hl__law_kind_heard (eCall s_cheapest (aC (eV 2) (aC (eC .non) aN)))) (eTup (aC (eC (.str "k")) (aC (eC (.int 0)) aN))))) (sRet (eC (.bl false))) sNx) : SX) e st := rfl
def L2__law_share_refused : SX := (sEx (eM1 oApp (eV 3) (eTup (aC (e2 oAdd (e2 oAdd (eSl (eV 1) none (some (eV 4))) (eTup (aC (eV 5) aN))) (e2 oMul (eTup (aC (eC .non) aN)) (e2 oSub (e2 oSub (eN oLen (aC (eV 1) aN)) (eC (.int 1))) (eV 4)))) (aC (eV 4) aN)))))
theorem L2__law_share_refused_ap (e : Mm.Env) (st : Sto) : L2__law_share_refused e st = ((sEx (eM1 oApp (eV 3) (eTup (aC (e2 oAdd (e2 oAdd (eSl (eV 1) none (some (eV 4))) (eTup (aC (eV 5) aN))) (e2 oMul (eTup (aC (eC .non) aN)) (e2 oSub (e2 oSub (eN oLen (aC (eV 1) aN)) (eC (.int 1))) (eV 4)))) (aC (eV 4) aN))))) : SX) e st := rfl
def L3__law_share_refused : SX := (sFor (iSeq (eLst (aC (e1 oNeg (eC (.int 1))) (aC (eC (.int 1001)) (aC (eC (.bl true)) (aC (eC .non) (aC (eC (.str "1")) (aC (eTup (aC (eC (.int 1)) aN)) aN)))))))) (tgN 5) L2__law_share_refused)
theorem L3__law_share_refused_ap (e : Mm.Env) (st : Sto) : L3__law_share_refused e st = ((sFor (iSeq (eLst (aC (e1 oNeg (eC (.int 1))) (aC (eC (.int 1001)) (aC (eC (.bl true)) (aC (eC .non) (aC (eC (.str "1")) (aC (eTup (aC (eC (.int 1)) aN)) aN)))))))) (tgN 5) L2__law_share_refused) : SX) e st := rfl
def I1__law_share_refused : BX := (bB (e2 oNe (eN oRepr (aC (eHeard "is" 2 mtab mnames hl__law_kind_heard (eCall s_cheapest (aC (eV 0) (aC (eV 6) aN)))) aN)) (eN oRepr (aC (eTup (aC (eC (.str "weights")) (aC (eV 7) aN))) aN))))
theorem I1__law_share_refused_ap (e : Mm.Env) (st : Sto) : I1__law_share_refused e st = ((bB (e2 oNe (eN oRepr (aC (eHeard "is" 2 mtab mnames hl__law_kind_heard (eCall s_cheapest (aC (eV 0) (aC (eV 6) aN)))) aN)) (eN oRepr (aC (eTup (aC (eC (.str "weights")) (aC (eV 7) aN))) aN)))) : BX) e st := rfl
def E1__law_share_refused : EX := (eV 6)
theorem E1__law_share_refused_ap (e : Mm.Env) (st : Sto) : E1__law_share_refused e st = ((eV 6) : EX) e st := rfl
def s__law_share_refused : List D → Sto → R D := fnS 8
  (sSeq (sFor (iSeq (e2 oAdd (eCall s__law_kind_no_k aN) (eLst (aC (eC (.int 25)) (aC (eC (.int 60)) aN))))) (tgN 2) L1__law_share_refused)
    (sSeq (sSet 3 (eLst (aC (eTup (aC (eC .non) (aC (e1 oNeg (eC (.int 1))) aN))) (aC (eTup (aC (eTup aN) (aC (e1 oNeg (eC (.int 1))) aN))) (aC (eTup (aC (e2 oMul (eTup (aC (eC (.int 1)) aN)) (eC (.int 6))) (aC (e1 oNeg (eC (.int 1))) aN))) (aC (eTup (aC (eC (.int 3)) (aC (e1 oNeg (eC (.int 1))) aN))) (aC (eTup (aC (eC (.str "1")) (aC (e1 oNeg (eC (.int 1))) aN))) aN)))))))
    (sSeq (sFor (iR1 (aC (eN oLen (aC (eV 1) aN)) aN)) (tgN 4) L3__law_share_refused)
    (sRet (e2 oEq (eLc [6, 7] (iSeq (eV 3)) (tgTup (tgCons (tgN 6) (tgCons (tgN 7) tgNil))) I1__law_share_refused E1__law_share_refused) (eLst aN))))))
def E1_law : EX := (eCall s__law_draw (aC (eV 1) (aC (eV 4) aN)))
theorem E1_law_ap (e : Mm.Env) (st : Sto) : E1_law e st = ((eCall s__law_draw (aC (eV 1) (aC (eV 4) aN))) : EX) e st := rfl
def E2_law : EX := (eCall s__law_draw (aC (eV 1) (aC (eV 4) aN)))
theorem E2_law_ap (e : Mm.Env) (st : Sto) : E2_law e st = ((eCall s__law_draw (aC (eV 1) (aC (eV 4) aN))) : EX) e st := rfl
def E3_law : EX := (eCall s__law_draw (aC (eV 1) (aC (eC (.int 3)) aN)))
theorem E3_law_ap (e : Mm.Env) (st : Sto) : E3_law e st = ((eCall s__law_draw (aC (eV 1) (aC (eC (.int 3)) aN))) : EX) e st := rfl
def s_law : List D → Sto → R D := fnS 9
  (sSeq (sIf (bOr (bB (e2 oNe (eCall s_cheapest (aC (eC (.int 6)) (aC (eTup (aC (eC (.int 1)) (aC (eC (.int 1)) (aC (eC (.int 4)) aN)))) aN))) (eTup (aC (eTup (aC (eC (.int 17)) (aC (eC (.int 35)) aN))) (aC (eC (.int 2)) (aC (eTup (aC (eC (.int 1)) (aC (eC (.int 4)) (aC (eC (.int 0)) aN)))) aN)))))) (bB (e2 oNe (eCall s_cheapest (aC (eC (.int 24)) (aC (eTup (aC (eC (.int 7)) aN)) aN))) (eTup (aC (eTup (aC (eC (.int 0)) (aC (eC (.int 1)) aN))) (aC (eC (.int 0)) (aC (eTup (aC (eC (.int 0)) aN)) aN))))))) (sRet (eC (.bl false))) sNx)
    (sSeq (sSet 1 (eCall s__law_pool (aC (eV 0) aN)))
    (sSeq (sSet 2 (e2 oAdd (eC (.int 1)) (eCall s__law_draw (aC (eV 1) (aC (eC (.int 4)) aN)))))
    (sSeq (sSet 3 (e2 oAdd (eC (.int 1)) (eCall s__law_draw (aC (eV 1) (aC (eIf (bAnd (bB (e2 oLt (eV 2) (eC (.int 4)))) (bB (e2 oEq (eCall s__law_draw (aC (eV 1) (aC (eC (.int 4)) aN))) (eC (.int 0))))) (eC (.int 24)) (eC (.int 9))) aN)))))
    (sSeq (sSet 4 (e2 oIx (eLst (aC (eC (.int 2)) (aC (eC (.int 5)) (aC (eC (.int 1001)) aN)))) (eCall s__law_draw (aC (eV 1) (aC (eC (.int 3)) aN)))))
    (sSeq (sSet 5 (eN oTupOf (aC (eLc [8] (iR1 (aC (eV 2) aN)) (tgN 8) bYes E1_law) aN)))
    (sSeq (sIf (bOr (bNot (bTru (eCall s__law_share_right (aC (eV 3) (aC (eV 5) aN))))) (bNot (bTru (eCall s__law_share_refused (aC (eV 3) (aC (eV 5) aN)))))) (sRet (eC (.bl false))) sNx)
    (sSeq (sIf (bB (e2 oEq (eCall s__law_draw (aC (eV 1) (aC (eC (.int 16)) aN))) (eC (.int 7)))) (sSeq (sSet 6 (eN oTupOf (aC (eLc [8] (iR1 (aC (e2 oAdd (eC (.int 4)) (eCall s__law_draw (aC (eV 1) (aC (eC (.int 2)) aN)))) aN)) (tgN 8) bYes E2_law) aN)))
    (sRet (eCall s__law_share_right (aC (e2 oAdd (eC (.int 15)) (eCall s__law_draw (aC (eV 1) (aC (eC (.int 10)) aN)))) (aC (eV 6) aN))))) sNx)
    (sSeq (sSet 7 (eN oTupOf (aC (eLc [8] (iR1 (aC (eC (.int 5)) aN)) (tgN 8) bYes E3_law) aN)))
    (sRet (eCall s__law_share_right (aC (e2 oAdd (eC (.int 1)) (eCall s__law_draw (aC (eV 1) (aC (eIf (bB (e2 oEq (eCall s__law_draw (aC (eV 1) (aC (eC (.int 12)) aN))) (eC (.int 0)))) (eC (.int 14)) (eC (.int 10))) aN)))) (aC (eV 7) aN)))))))))))))
abbrev N_lowest : List Str := ["above", "below", "common"]
theorem sc_lowest : FnScope N_lowest ["above", "below"] (defScope (topS 20)) := ⟨rfl, rfl, rfl, by decide +kernel, rfl, by decide +kernel, by decide +kernel⟩
abbrev N_is_number : List Str := ["thing"]
theorem sc_is_number : FnScope N_is_number ["thing"] (defScope (topS 17)) := ⟨rfl, rfl, rfl, by decide +kernel, rfl, by decide +kernel, by decide +kernel⟩
abbrev N_is_within : List Str := ["thing", "low", "high"]
theorem sc_is_within : FnScope N_is_within ["thing", "low", "high"] (defScope (topS 18)) := ⟨rfl, rfl, rfl, by decide +kernel, rfl, by decide +kernel, by decide +kernel⟩
abbrev N_made_k : List Str := ["thing"]
theorem sc_made_k : FnScope N_made_k ["thing"] (defScope (topS 23)) := ⟨rfl, rfl, rfl, by decide +kernel, rfl, by decide +kernel, by decide +kernel⟩
abbrev N_wrong_at : List Str := ["thing", "fewest", "greatest", "low", "high", "at", "item"]
theorem sc_wrong_at : FnScope N_wrong_at ["thing", "fewest", "greatest", "low", "high"] (defScope (topS 19)) := ⟨rfl, rfl, rfl, by decide +kernel, rfl, by decide +kernel, by decide +kernel⟩
abbrev N_check_weights : List Str := ["weights", "wrong"]
theorem sc_check_weights : FnScope N_check_weights ["weights"] (defScope (topS 30)) := ⟨rfl, rfl, rfl, by decide +kernel, rfl, by decide +kernel, by decide +kernel⟩
abbrev N_left_over : List Str := ["k", "ts"]
theorem sc_left_over : FnScope N_left_over ["k", "ts"] (defScope (topS 25)) := ⟨rfl, rfl, rfl, by decide +kernel, rfl, by decide +kernel, by decide +kernel⟩
abbrev N_all_that_fit : List Str := ["k", "many", "found", "_", "longer", "ts", "thick"]
theorem sc_all_that_fit : FnScope N_all_that_fit ["k", "many"] (defScope (topS 31)) := ⟨rfl, rfl, rfl, by decide +kernel, rfl, by decide +kernel, by decide +kernel⟩
abbrev N_common_multiple : List Str := ["k", "common", "total"]
theorem sc_common_multiple : FnScope N_common_multiple ["k"] (defScope (topS 32)) := ⟨rfl, rfl, rfl, by decide +kernel, rfl, by decide +kernel, by decide +kernel⟩
abbrev N_cheapest : List Str := ["k", "weights", "choices", "common", "least", "dark", "others", "ts", "cost", "weight", "thick"]
theorem sc_cheapest : FnScope N_cheapest ["k", "weights"] (defScope (topS 33)) := ⟨rfl, rfl, rfl, by decide +kernel, rfl, by decide +kernel, by decide +kernel⟩
abbrev N__law_pool : List Str := ["script", "first", "size"]
theorem sc__law_pool : FnScope N__law_pool ["script"] (defScope (topS 35)) := ⟨rfl, rfl, rfl, by decide +kernel, rfl, by decide +kernel, by decide +kernel⟩
abbrev N__law_draw : List Str := ["pool", "many", "cell", "size", "found"]
theorem sc__law_draw : FnScope N__law_draw ["pool", "many"] (defScope (topS 36)) := ⟨rfl, rfl, rfl, by decide +kernel, rfl, by decide +kernel, by decide +kernel⟩
abbrev N__law_row_gcd : List Str := ["one", "two"]
theorem sc__law_row_gcd : FnScope N__law_row_gcd ["one", "two"] (defScope (topS 37)) := ⟨rfl, rfl, rfl, by decide +kernel, rfl, by decide +kernel, by decide +kernel⟩
abbrev N__law_row_low : List Str := ["p", "q", "by"]
theorem sc__law_row_low : FnScope N__law_row_low ["p", "q"] (defScope (topS 38)) := ⟨rfl, rfl, rfl, by decide +kernel, rfl, by decide +kernel, by decide +kernel⟩
abbrev N__law_kind_spare : List Str := ["k", "ts"]
theorem sc__law_kind_spare : FnScope N__law_kind_spare ["k", "ts"] (defScope (topS 39)) := ⟨rfl, rfl, rfl, by decide +kernel, rfl, by decide +kernel, by decide +kernel⟩
abbrev N__law_kind_lots : List Str := ["k", "many", "found", "turn", "longer", "lot", "t"]
theorem sc__law_kind_lots : FnScope N__law_kind_lots ["k", "many"] (defScope (topS 40)) := ⟨rfl, rfl, rfl, by decide +kernel, rfl, by decide +kernel, by decide +kernel⟩
abbrev N__law_share_cost : List Str := ["k", "weights", "ts", "p", "q", "weight", "t"]
theorem sc__law_share_cost : FnScope N__law_share_cost ["k", "weights", "ts"] (defScope (topS 43)) := ⟨rfl, rfl, rfl, by decide +kernel, rfl, by decide +kernel, by decide +kernel⟩
abbrev N__law_share_due : List Str := ["k", "weights", "best", "lots", "dark", "lot", "ts", "cost"]
theorem sc__law_share_due : FnScope N__law_share_due ["k", "weights"] (defScope (topS 44)) := ⟨rfl, rfl, rfl, by decide +kernel, rfl, by decide +kernel, by decide +kernel⟩
abbrev N__law_share_right : List Str := ["k", "weights", "due", "told"]
theorem sc__law_share_right : FnScope N__law_share_right ["k", "weights"] (defScope (topS 45)) := ⟨rfl, rfl, rfl, by decide +kernel, rfl, by decide +kernel, by decide +kernel⟩
abbrev N__law_kind_no_k : List Str := []
theorem sc__law_kind_no_k : FnScope N__law_kind_no_k [] (defScope (topS 42)) := ⟨rfl, rfl, rfl, by decide +kernel, rfl, by decide +kernel, by decide +kernel⟩
abbrev N__law_share_refused : List Str := ["k", "weights", "bad", "cases", "at", "odd", "thing", "what"]
theorem sc__law_share_refused : FnScope N__law_share_refused ["k", "weights"] (defScope (topS 46)) := ⟨rfl, rfl, rfl, by decide +kernel, rfl, by decide +kernel, by decide +kernel⟩
abbrev N_law : List Str := ["script", "pool", "many", "k", "top", "weights", "more", "few", "turn"]
theorem sc_law : FnScope N_law ["script"] (defScope (topS 47)) := ⟨rfl, rfl, rfl, by decide +kernel, rfl, by decide +kernel, by decide +kernel⟩
abbrev N__law_kind_heard : List Str := ["call", "error"]
theorem sc__law_kind_heard : FnScope N__law_kind_heard ["call"] (defScope (topS 41)) := ⟨rfl, rfl, rfl, by decide +kernel, rfl, by decide +kernel, by decide +kernel⟩
structure Top (K : PySem.W.Frag) (mg : Str → Option Value) where
  a_lowest : Addr
  d_lowest : FuncData
  g_lowest : mg "lowest" = some (.ref a_lowest)
  F_lowest : Fun K "lowest" "lowest" (topS 20) a_lowest d_lowest
  b_lowest : Binds K d_lowest ["above", "below"] []
  a_is_number : Addr
  d_is_number : FuncData
  g_is_number : mg "is_number" = some (.ref a_is_number)
  F_is_number : Fun K "is_number" "is_number" (topS 17) a_is_number d_is_number
  b_is_number : Binds K d_is_number ["thing"] []
  a_is_within : Addr
  d_is_within : FuncData
  g_is_within : mg "is_within" = some (.ref a_is_within)
  F_is_within : Fun K "is_within" "is_within" (topS 18) a_is_within d_is_within
  b_is_within : Binds K d_is_within ["thing", "low", "high"] []
  a_made_k : Addr
  d_made_k : FuncData
  g_made_k : mg "made_k" = some (.ref a_made_k)
  F_made_k : Fun K "made_k" "made_k" (topS 23) a_made_k d_made_k
  b_made_k : Binds K d_made_k ["thing"] []
  a_wrong_at : Addr
  d_wrong_at : FuncData
  g_wrong_at : mg "wrong_at" = some (.ref a_wrong_at)
  F_wrong_at : Fun K "wrong_at" "wrong_at" (topS 19) a_wrong_at d_wrong_at
  b_wrong_at : Binds K d_wrong_at ["thing", "fewest", "greatest", "low", "high"] []
  a_check_weights : Addr
  d_check_weights : FuncData
  g_check_weights : mg "check_weights" = some (.ref a_check_weights)
  F_check_weights : Fun K "check_weights" "check_weights" (topS 30) a_check_weights d_check_weights
  b_check_weights : Binds K d_check_weights ["weights"] []
  a_left_over : Addr
  d_left_over : FuncData
  g_left_over : mg "left_over" = some (.ref a_left_over)
  F_left_over : Fun K "left_over" "left_over" (topS 25) a_left_over d_left_over
  b_left_over : Binds K d_left_over ["k", "ts"] []
  a_all_that_fit : Addr
  d_all_that_fit : FuncData
  g_all_that_fit : mg "all_that_fit" = some (.ref a_all_that_fit)
  F_all_that_fit : Fun K "all_that_fit" "all_that_fit" (topS 31) a_all_that_fit d_all_that_fit
  b_all_that_fit : Binds K d_all_that_fit ["k", "many"] []
  a_common_multiple : Addr
  d_common_multiple : FuncData
  g_common_multiple : mg "common_multiple" = some (.ref a_common_multiple)
  F_common_multiple : Fun K "common_multiple" "common_multiple" (topS 32) a_common_multiple d_common_multiple
  b_common_multiple : Binds K d_common_multiple ["k"] []
  a_cheapest : Addr
  d_cheapest : FuncData
  g_cheapest : mg "cheapest" = some (.ref a_cheapest)
  F_cheapest : Fun K "cheapest" "cheapest" (topS 33) a_cheapest d_cheapest
  b_cheapest : Binds K d_cheapest ["k", "weights"] []
  a__law_pool : Addr
  d__law_pool : FuncData
  g__law_pool : mg "_law_pool" = some (.ref a__law_pool)
  F__law_pool : Fun K "_law_pool" "_law_pool" (topS 35) a__law_pool d__law_pool
  b__law_pool : Binds K d__law_pool ["script"] []
  a__law_draw : Addr
  d__law_draw : FuncData
  g__law_draw : mg "_law_draw" = some (.ref a__law_draw)
  F__law_draw : Fun K "_law_draw" "_law_draw" (topS 36) a__law_draw d__law_draw
  b__law_draw : Binds K d__law_draw ["pool", "many"] []
  a__law_row_gcd : Addr
  d__law_row_gcd : FuncData
  g__law_row_gcd : mg "_law_row_gcd" = some (.ref a__law_row_gcd)
  F__law_row_gcd : Fun K "_law_row_gcd" "_law_row_gcd" (topS 37) a__law_row_gcd d__law_row_gcd
  b__law_row_gcd : Binds K d__law_row_gcd ["one", "two"] []
  a__law_row_low : Addr
  d__law_row_low : FuncData
  g__law_row_low : mg "_law_row_low" = some (.ref a__law_row_low)
  F__law_row_low : Fun K "_law_row_low" "_law_row_low" (topS 38) a__law_row_low d__law_row_low
  b__law_row_low : Binds K d__law_row_low ["p", "q"] []
  a__law_kind_spare : Addr
  d__law_kind_spare : FuncData
  g__law_kind_spare : mg "_law_kind_spare" = some (.ref a__law_kind_spare)
  F__law_kind_spare : Fun K "_law_kind_spare" "_law_kind_spare" (topS 39) a__law_kind_spare d__law_kind_spare
  b__law_kind_spare : Binds K d__law_kind_spare ["k", "ts"] []
  a__law_kind_lots : Addr
  d__law_kind_lots : FuncData
  g__law_kind_lots : mg "_law_kind_lots" = some (.ref a__law_kind_lots)
  F__law_kind_lots : Fun K "_law_kind_lots" "_law_kind_lots" (topS 40) a__law_kind_lots d__law_kind_lots
  b__law_kind_lots : Binds K d__law_kind_lots ["k", "many"] []
  a__law_share_cost : Addr
  d__law_share_cost : FuncData
  g__law_share_cost : mg "_law_share_cost" = some (.ref a__law_share_cost)
  F__law_share_cost : Fun K "_law_share_cost" "_law_share_cost" (topS 43) a__law_share_cost d__law_share_cost
  b__law_share_cost : Binds K d__law_share_cost ["k", "weights", "ts"] []
  a__law_share_due : Addr
  d__law_share_due : FuncData
  g__law_share_due : mg "_law_share_due" = some (.ref a__law_share_due)
  F__law_share_due : Fun K "_law_share_due" "_law_share_due" (topS 44) a__law_share_due d__law_share_due
  b__law_share_due : Binds K d__law_share_due ["k", "weights"] []
  a__law_share_right : Addr
  d__law_share_right : FuncData
  g__law_share_right : mg "_law_share_right" = some (.ref a__law_share_right)
  F__law_share_right : Fun K "_law_share_right" "_law_share_right" (topS 45) a__law_share_right d__law_share_right
  b__law_share_right : Binds K d__law_share_right ["k", "weights"] []
  a__law_kind_no_k : Addr
  d__law_kind_no_k : FuncData
  g__law_kind_no_k : mg "_law_kind_no_k" = some (.ref a__law_kind_no_k)
  F__law_kind_no_k : Fun K "_law_kind_no_k" "_law_kind_no_k" (topS 42) a__law_kind_no_k d__law_kind_no_k
  b__law_kind_no_k : Binds K d__law_kind_no_k [] []
  a__law_share_refused : Addr
  d__law_share_refused : FuncData
  g__law_share_refused : mg "_law_share_refused" = some (.ref a__law_share_refused)
  F__law_share_refused : Fun K "_law_share_refused" "_law_share_refused" (topS 46) a__law_share_refused d__law_share_refused
  b__law_share_refused : Binds K d__law_share_refused ["k", "weights"] []
  a_law : Addr
  d_law : FuncData
  g_law : mg "law" = some (.ref a_law)
  F_law : Fun K "law" "law" (topS 47) a_law d_law
  b_law : Binds K d_law ["script"] []
  a__law_kind_heard : Addr
  d__law_kind_heard : FuncData
  g__law_kind_heard : mg "_law_kind_heard" = some (.ref a__law_kind_heard)
  F__law_kind_heard : Fun K "_law_kind_heard" "_law_kind_heard" (topS 41) a__law_kind_heard d__law_kind_heard
  b__law_kind_heard : Binds K d__law_kind_heard ["call"] []
  lc__law_share_right : Addr
  lP__law_share_right : Addr
  lh__law_share_right : d__law_share_right.code = .ref lc__law_share_right
  lc__law_share_refused : Addr
  lP__law_share_refused : Addr
  lh__law_share_refused : d__law_share_refused.code = .ref lc__law_share_refused
  ln__law_share_right__law_share_refused : lP__law_share_right ≠ lP__law_share_refused
  ln__law_share_refused__law_share_right : lP__law_share_refused ≠ lP__law_share_right
  m_ValueError : mg "ValueError" = none
  m_bool : mg "bool" = none
  m_enumerate : mg "enumerate" = none
  m_int : mg "int" = none
  m_isinstance : mg "isinstance" = none
  m_len : mg "len" = none
  m_list : mg "list" = none
  m_max : mg "max" = none
  m_range : mg "range" = none
  m_repr : mg "repr" = none
  m_sum : mg "sum" = none
  m_tuple : mg "tuple" = none
  m_zip : mg "zip" = none
  k_GREATEST_K : Tok
  c_GREATEST_K : mg "GREATEST_K" = some (.int (60) k_GREATEST_K)
  k_GREATEST_K_OF_SHARES : Tok
  c_GREATEST_K_OF_SHARES : mg "GREATEST_K_OF_SHARES" = some (.int (24) k_GREATEST_K_OF_SHARES)
  k_GREATEST_WEIGHT : Tok
  c_GREATEST_WEIGHT : mg "GREATEST_WEIGHT" = some (.int (1000) k_GREATEST_WEIGHT)
  k_MOST_WEIGHTS : Tok
  c_MOST_WEIGHTS : mg "MOST_WEIGHTS" = some (.int (5) k_MOST_WEIGHTS)
  x_gcd : mg "gcd" = some (.builtin "math.gcd")
  x_lcm : mg "lcm" = some (.builtin "math.lcm")
  fI : Addr
  d_init : FuncData
  F_init : Fun K "__init__" "Refused.__init__" (inClass (topS 2) 0) fI d_init
  b_init : Binds K d_init ["self", "what"] []
  tI : PySem.W.typeIn K (.ref fI) = some (.type "function")
  vV : PySem.W.findCls K (.type "ValueError") (.type "type") "__init__" = some (.val (.builtin "ValueError.__init__"))
  C_BadK : Addr
  q_BadK : mg "BadK" = some (.ref C_BadK)
  C_BadMany : Addr
  q_BadMany : mg "BadMany" = some (.ref C_BadMany)
  C_BadRow : Addr
  q_BadRow : mg "BadRow" = some (.ref C_BadRow)
  C_BadRows : Addr
  q_BadRows : mg "BadRows" = some (.ref C_BadRows)
  C_BadTs : Addr
  q_BadTs : mg "BadTs" = some (.ref C_BadTs)
  C_BadView : Addr
  q_BadView : mg "BadView" = some (.ref C_BadView)
  C_BadWeights : Addr
  q_BadWeights : mg "BadWeights" = some (.ref C_BadWeights)
  C_Blank : Addr
  q_Blank : mg "Blank" = some (.ref C_Blank)
  C_NoDots : Addr
  q_NoDots : mg "NoDots" = some (.ref C_NoDots)
  C_NoFit : Addr
  q_NoFit : mg "NoFit" = some (.ref C_NoFit)
  C_NoRoom : Addr
  q_NoRoom : mg "NoRoom" = some (.ref C_NoRoom)
  C_Shared : Addr
  q_Shared : mg "Shared" = some (.ref C_Shared)
  C_Thin : Addr
  q_Thin : mg "Thin" = some (.ref C_Thin)
  E_BadK : ExcC K mg "BadK" C_BadK fI
  E_BadWeights : ExcC K mg "BadWeights" C_BadWeights fI
  E_NoRoom : ExcC K mg "NoRoom" C_NoRoom fI
  xm_BadK_BadK : PySem.W.exmOne K (.ref C_BadK) (.ref C_BadK) = some true
  xm_BadK_BadMany : PySem.W.exmOne K (.ref C_BadK) (.ref C_BadMany) = some false
  xm_BadK_BadRow : PySem.W.exmOne K (.ref C_BadK) (.ref C_BadRow) = some false
  xm_BadK_BadRows : PySem.W.exmOne K (.ref C_BadK) (.ref C_BadRows) = some false
  xm_BadK_BadTs : PySem.W.exmOne K (.ref C_BadK) (.ref C_BadTs) = some false
  xm_BadK_BadView : PySem.W.exmOne K (.ref C_BadK) (.ref C_BadView) = some false
  xm_BadK_BadWeights : PySem.W.exmOne K (.ref C_BadK) (.ref C_BadWeights) = some false
  xm_BadK_Blank : PySem.W.exmOne K (.ref C_BadK) (.ref C_Blank) = some false
  xm_BadK_NoDots : PySem.W.exmOne K (.ref C_BadK) (.ref C_NoDots) = some false
  xm_BadK_NoFit : PySem.W.exmOne K (.ref C_BadK) (.ref C_NoFit) = some false
  xm_BadK_NoRoom : PySem.W.exmOne K (.ref C_BadK) (.ref C_NoRoom) = some false
  xm_BadK_Shared : PySem.W.exmOne K (.ref C_BadK) (.ref C_Shared) = some false
  xm_BadK_Thin : PySem.W.exmOne K (.ref C_BadK) (.ref C_Thin) = some false
  xm_BadWeights_BadK : PySem.W.exmOne K (.ref C_BadWeights) (.ref C_BadK) = some false
  xm_BadWeights_BadMany : PySem.W.exmOne K (.ref C_BadWeights) (.ref C_BadMany) = some false
  xm_BadWeights_BadRow : PySem.W.exmOne K (.ref C_BadWeights) (.ref C_BadRow) = some false
  xm_BadWeights_BadRows : PySem.W.exmOne K (.ref C_BadWeights) (.ref C_BadRows) = some false
  xm_BadWeights_BadTs : PySem.W.exmOne K (.ref C_BadWeights) (.ref C_BadTs) = some false
  xm_BadWeights_BadView : PySem.W.exmOne K (.ref C_BadWeights) (.ref C_BadView) = some false
  xm_BadWeights_BadWeights : PySem.W.exmOne K (.ref C_BadWeights) (.ref C_BadWeights) = some true
  xm_BadWeights_Blank : PySem.W.exmOne K (.ref C_BadWeights) (.ref C_Blank) = some false
  xm_BadWeights_NoDots : PySem.W.exmOne K (.ref C_BadWeights) (.ref C_NoDots) = some false
  xm_BadWeights_NoFit : PySem.W.exmOne K (.ref C_BadWeights) (.ref C_NoFit) = some false
  xm_BadWeights_NoRoom : PySem.W.exmOne K (.ref C_BadWeights) (.ref C_NoRoom) = some false
  xm_BadWeights_Shared : PySem.W.exmOne K (.ref C_BadWeights) (.ref C_Shared) = some false
  xm_BadWeights_Thin : PySem.W.exmOne K (.ref C_BadWeights) (.ref C_Thin) = some false
  xm_NoRoom_BadK : PySem.W.exmOne K (.ref C_NoRoom) (.ref C_BadK) = some false
  xm_NoRoom_BadMany : PySem.W.exmOne K (.ref C_NoRoom) (.ref C_BadMany) = some false
  xm_NoRoom_BadRow : PySem.W.exmOne K (.ref C_NoRoom) (.ref C_BadRow) = some false
  xm_NoRoom_BadRows : PySem.W.exmOne K (.ref C_NoRoom) (.ref C_BadRows) = some false
  xm_NoRoom_BadTs : PySem.W.exmOne K (.ref C_NoRoom) (.ref C_BadTs) = some false
  xm_NoRoom_BadView : PySem.W.exmOne K (.ref C_NoRoom) (.ref C_BadView) = some false
  xm_NoRoom_BadWeights : PySem.W.exmOne K (.ref C_NoRoom) (.ref C_BadWeights) = some false
  xm_NoRoom_Blank : PySem.W.exmOne K (.ref C_NoRoom) (.ref C_Blank) = some false
  xm_NoRoom_NoDots : PySem.W.exmOne K (.ref C_NoRoom) (.ref C_NoDots) = some false
  xm_NoRoom_NoFit : PySem.W.exmOne K (.ref C_NoRoom) (.ref C_NoFit) = some false
  xm_NoRoom_NoRoom : PySem.W.exmOne K (.ref C_NoRoom) (.ref C_NoRoom) = some true
  xm_NoRoom_Shared : PySem.W.exmOne K (.ref C_NoRoom) (.ref C_Shared) = some false
  xm_NoRoom_Thin : PySem.W.exmOne K (.ref C_NoRoom) (.ref C_Thin) = some false
section
variable {P : Program} {w : World} {K : PySem.W.Frag} {mg : Str → Option Value} {base : Heap}
def css (t : Top K mg) : List (Addr × Addr) := [(t.lc__law_share_right, t.lP__law_share_right), (t.lc__law_share_refused, t.lP__law_share_refused)]
def tabs (t : Top K mg) : List (Addr × Str) := [(t.lP__law_share_right, ("_law_share_right.<locals>." : Str) ++ ("<lambda>" : Str)), (t.lP__law_share_refused, ("_law_share_refused.<locals>." : Str) ++ ("<lambda>" : Str))]
theorem cmem__law_share_right (t : Top K mg) : (t.lc__law_share_right, t.lP__law_share_right) ∈ css t := List.Mem.head _
theorem tmem__law_share_right (t : Top K mg) : (t.lP__law_share_right, ("_law_share_right.<locals>." : Str) ++ ("<lambda>" : Str)) ∈ tabs t := List.Mem.head _
theorem tu__law_share_right (t : Top K mg) : ∀ p ∈ tabs t, p.1 = t.lP__law_share_right → p.2 = ("_law_share_right.<locals>." : Str) ++ ("<lambda>" : Str) := (tall_cons (fun e => rfl) (tall_cons (fun e => absurd e t.ln__law_share_refused__law_share_right) tall_nil))
theorem cmem__law_share_refused (t : Top K mg) : (t.lc__law_share_refused, t.lP__law_share_refused) ∈ css t := List.Mem.tail _ (List.Mem.head _)
theorem tmem__law_share_refused (t : Top K mg) : (t.lP__law_share_refused, ("_law_share_refused.<locals>." : Str) ++ ("<lambda>" : Str)) ∈ tabs t := List.Mem.tail _ (List.Mem.head _)
theorem tu__law_share_refused (t : Top K mg) : ∀ p ∈ tabs t, p.1 = t.lP__law_share_refused → p.2 = ("_law_share_refused.<locals>." : Str) ++ ("<lambda>" : Str) := (tall_cons (fun e => absurd e t.ln__law_share_right__law_share_refused) (tall_cons (fun e => rfl) tall_nil))
theorem sc_init : FnScope ["self", "what"] ["self", "what"] (defScope (inClass (topS 2) 0)) := ⟨rfl, rfl, rfl, by decide +kernel, rfl, by decide +kernel, by decide +kernel⟩
theorem ok_init (t : Top K mg) : FnOk P w K mg base (L2.CX P w) 1 t.fI t.d_init ["self", "what"] (spInit K) :=
  Fun.okX t.F_init sc_init (fun vs H Q E h => by obtain ⟨a, C, x, rfl, _⟩ := h; rfl) fun cdv A outer s H vs Q E hr h => by
    obtain ⟨a, C, x, rfl, hT, hX, hn, ha, hno, hnk, h⟩ := h
    refine ⟨tInit K, ?_, init_reads hT hX hn ha hno hnk h⟩
    exact pss_cons (ps_expr (pe_veinit (by rfl) t.m_ValueError t.vV (pa_cons (pv 0) pa_nil))) (pss_cons (ps_ost (pv 0) (pv 1)) (pss_one (ps_ost (pv 0) (pe_ename (pv 0)))))
theorem what_names (t : Top K mg) : ∀ y ∈ mnames, ∀ Cy, mg y = some (.ref Cy) → XfC K Cy ∧ PySem.W.findIn K (.ref Cy) "what" = some none := (all_cons (fun Cy h => by cases h.symm.trans t.q_BadK; exact ⟨t.E_BadK.xf, t.E_BadK.noW⟩) (all_cons (fun Cy h => by cases h.symm.trans t.q_BadWeights; exact ⟨t.E_BadWeights.xf, t.E_BadWeights.noW⟩) (all_cons (fun Cy h => by cases h.symm.trans t.q_NoRoom; exact ⟨t.E_NoRoom.xf, t.E_NoRoom.noW⟩) all_nil)))
theorem mt_BadK (t : Top K mg) : ∀ y ∈ mnames, ∀ b, mtab y "BadK" = some b → ∀ Cy, mg y = some (.ref Cy) → PySem.W.exmOne K (.ref Cy) (.ref t.C_BadK) = some b := (all_cons (fun b hb Cy h => mt_one hb (by decide +kernel) h t.q_BadK t.xm_BadK_BadK) (all_cons (fun b hb Cy h => mt_one hb (by decide +kernel) h t.q_BadWeights t.xm_BadWeights_BadK) (all_cons (fun b hb Cy h => mt_one hb (by decide +kernel) h t.q_NoRoom t.xm_NoRoom_BadK) all_nil)))
theorem mt_BadMany (t : Top K mg) : ∀ y ∈ mnames, ∀ b, mtab y "BadMany" = some b → ∀ Cy, mg y = some (.ref Cy) → PySem.W.exmOne K (.ref Cy) (.ref t.C_BadMany) = some b := (all_cons (fun b hb Cy h => mt_one hb (by decide +kernel) h t.q_BadK t.xm_BadK_BadMany) (all_cons (fun b hb Cy h => mt_one hb (by decide +kernel) h t.q_BadWeights t.xm_BadWeights_BadMany) (all_cons (fun b hb Cy h => mt_one hb (by decide +kernel) h t.q_NoRoom t.xm_NoRoom_BadMany) all_nil)))
theorem mt_BadRow (t : Top K mg) : ∀ y ∈ mnames, ∀ b, mtab y "BadRow" = some b → ∀ Cy, mg y = some (.ref Cy) → PySem.W.exmOne K (.ref Cy) (.ref t.C_BadRow) = some b := (all_cons (fun b hb Cy h => mt_one hb (by decide +kernel) h t.q_BadK t.xm_BadK_BadRow) (all_cons (fun b hb Cy h => mt_one hb (by decide +kernel) h t.q_BadWeights t.xm_BadWeights_BadRow) (all_cons (fun b hb Cy h => mt_one hb (by decide +kernel) h t.q_NoRoom t.xm_NoRoom_BadRow) all_nil)))
theorem mt_BadRows (t : Top K mg) : ∀ y ∈ mnames, ∀ b, mtab y "BadRows" = some b → ∀ Cy, mg y = some (.ref Cy) → PySem.W.exmOne K (.ref Cy) (.ref t.C_BadRows) = some b := (all_cons (fun b hb Cy h => mt_one hb (by decide +kernel) h t.q_BadK t.xm_BadK_BadRows) (all_cons (fun b hb Cy h => mt_one hb (by decide +kernel) h t.q_BadWeights t.xm_BadWeights_BadRows) (all_cons (fun b hb Cy h => mt_one hb (by decide +kernel) h t.q_NoRoom t.xm_NoRoom_BadRows) all_nil)))
theorem mt_BadTs (t : Top K mg) : ∀ y ∈ mnames, ∀ b, mtab y "BadTs" = some b → ∀ Cy, mg y = some (.ref Cy) → PySem.W.exmOne K (.ref Cy) (.ref t.C_BadTs) = some b := (all_cons (fun b hb Cy h => mt_one hb (by decide +kernel) h t.q_BadK t.xm_BadK_BadTs) (all_cons (fun b hb Cy h => mt_one hb (by decide +kernel) h t.q_BadWeights t.xm_BadWeights_BadTs) (all_cons (fun b hb Cy h => mt_one hb (by decide +kernel) h t.q_NoRoom t.xm_NoRoom_BadTs) all_nil)))
theorem mt_BadView (t : Top K mg) : ∀ y ∈ mnames, ∀ b, mtab y "BadView" = some b → ∀ Cy, mg y = some (.ref Cy) → PySem.W.exmOne K (.ref Cy) (.ref t.C_BadView) = some b := (all_cons (fun b hb Cy h => mt_one hb (by decide +kernel) h t.q_BadK t.xm_BadK_BadView) (all_cons (fun b hb Cy h => mt_one hb (by decide +kernel) h t.q_BadWeights t.xm_BadWeights_BadView) (all_cons (fun b hb Cy h => mt_one hb (by decide +kernel) h t.q_NoRoom t.xm_NoRoom_BadView) all_nil)))
theorem mt_BadWeights (t : Top K mg) : ∀ y ∈ mnames, ∀ b, mtab y "BadWeights" = some b → ∀ Cy, mg y = some (.ref Cy) → PySem.W.exmOne K (.ref Cy) (.ref t.C_BadWeights) = some b := (all_cons (fun b hb Cy h => mt_one hb (by decide +kernel) h t.q_BadK t.xm_BadK_BadWeights) (all_cons (fun b hb Cy h => mt_one hb (by decide +kernel) h t.q_BadWeights t.xm_BadWeights_BadWeights) (all_cons (fun b hb Cy h => mt_one hb (by decide +kernel) h t.q_NoRoom t.xm_NoRoom_BadWeights) all_nil)))
theorem mt_Blank (t : Top K mg) : ∀ y ∈ mnames, ∀ b, mtab y "Blank" = some b → ∀ Cy, mg y = some (.ref Cy) → PySem.W.exmOne K (.ref Cy) (.ref t.C_Blank) = some b := (all_cons (fun b hb Cy h => mt_one hb (by decide +kernel) h t.q_BadK t.xm_BadK_Blank) (all_cons (fun b hb Cy h => mt_one hb (by decide +kernel) h t.q_BadWeights t.xm_BadWeights_Blank) (all_cons (fun b hb Cy h => mt_one hb (by decide +kernel) h t.q_NoRoom t.xm_NoRoom_Blank) all_nil)))
theorem mt_NoDots (t : Top K mg) : ∀ y ∈ mnames, ∀ b, mtab y "NoDots" = some b → ∀ Cy, mg y = some (.ref Cy) → PySem.W.exmOne K (.ref Cy) (.ref t.C_NoDots) = some b := (all_cons (fun b hb Cy h => mt_one hb (by decide +kernel) h t.q_BadK t.xm_BadK_NoDots) (all_cons (fun b hb Cy h => mt_one hb (by decide +kernel) h t.q_BadWeights t.xm_BadWeights_NoDots) (all_cons (fun b hb Cy h => mt_one hb (by decide +kernel) h t.q_NoRoom t.xm_NoRoom_NoDots) all_nil)))
theorem mt_NoFit (t : Top K mg) : ∀ y ∈ mnames, ∀ b, mtab y "NoFit" = some b → ∀ Cy, mg y = some (.ref Cy) → PySem.W.exmOne K (.ref Cy) (.ref t.C_NoFit) = some b := (all_cons (fun b hb Cy h => mt_one hb (by decide +kernel) h t.q_BadK t.xm_BadK_NoFit) (all_cons (fun b hb Cy h => mt_one hb (by decide +kernel) h t.q_BadWeights t.xm_BadWeights_NoFit) (all_cons (fun b hb Cy h => mt_one hb (by decide +kernel) h t.q_NoRoom t.xm_NoRoom_NoFit) all_nil)))
theorem mt_NoRoom (t : Top K mg) : ∀ y ∈ mnames, ∀ b, mtab y "NoRoom" = some b → ∀ Cy, mg y = some (.ref Cy) → PySem.W.exmOne K (.ref Cy) (.ref t.C_NoRoom) = some b := (all_cons (fun b hb Cy h => mt_one hb (by decide +kernel) h t.q_BadK t.xm_BadK_NoRoom) (all_cons (fun b hb Cy h => mt_one hb (by decide +kernel) h t.q_BadWeights t.xm_BadWeights_NoRoom) (all_cons (fun b hb Cy h => mt_one hb (by decide +kernel) h t.q_NoRoom t.xm_NoRoom_NoRoom) all_nil)))
theorem mt_Shared (t : Top K mg) : ∀ y ∈ mnames, ∀ b, mtab y "Shared" = some b → ∀ Cy, mg y = some (.ref Cy) → PySem.W.exmOne K (.ref Cy) (.ref t.C_Shared) = some b := (all_cons (fun b hb Cy h => mt_one hb (by decide +kernel) h t.q_BadK t.xm_BadK_Shared) (all_cons (fun b hb Cy h => mt_one hb (by decide +kernel) h t.q_BadWeights t.xm_BadWeights_Shared) (all_cons (fun b hb Cy h => mt_one hb (by decide +kernel) h t.q_NoRoom t.xm_NoRoom_Shared) all_nil)))
theorem mt_Thin (t : Top K mg) : ∀ y ∈ mnames, ∀ b, mtab y "Thin" = some b → ∀ Cy, mg y = some (.ref Cy) → PySem.W.exmOne K (.ref Cy) (.ref t.C_Thin) = some b := (all_cons (fun b hb Cy h => mt_one hb (by decide +kernel) h t.q_BadK t.xm_BadK_Thin) (all_cons (fun b hb Cy h => mt_one hb (by decide +kernel) h t.q_BadWeights t.xm_BadWeights_Thin) (all_cons (fun b hb Cy h => mt_one hb (by decide +kernel) h t.q_NoRoom t.xm_NoRoom_Thin) all_nil)))
theorem hc__law_kind_heard (t : Top K mg) (P : Program) (w : World) (base : Heap) (A : Around) (stk : List PySem.Env) (T : List (Addr × Str)) : ∀ (cdv : Value) (s : Shared) (H : Hp), JCls (cxOf C8.CX0 P w K mg base N__law_kind_heard "_law_kind_heard" (defScope (topS 41)) t.a__law_kind_heard cdv A stk s H C8.E0).nox T mtab mnames (handlersOf (topS 41)) hl__law_kind_heard := fun cdv s H => (JCls.cons ⟨by rfl, by decide, .inl t.q_BadK⟩ ⟨sc__law_kind_heard.nd, rfl, rfl⟩ (mt_BadK t) (su_told rfl (Or.inl rfl) (what_names t)) (JCls.cons ⟨by rfl, by decide, .inl t.q_BadRow⟩ ⟨sc__law_kind_heard.nd, rfl, rfl⟩ (mt_BadRow t) (su_told rfl (Or.inl rfl) (what_names t)) (JCls.cons ⟨by rfl, by decide, .inl t.q_BadRows⟩ ⟨sc__law_kind_heard.nd, rfl, rfl⟩ (mt_BadRows t) (su_told rfl (Or.inl rfl) (what_names t)) (JCls.cons ⟨by rfl, by decide, .inl t.q_BadView⟩ ⟨sc__law_kind_heard.nd, rfl, rfl⟩ (mt_BadView t) (su_told rfl (Or.inl rfl) (what_names t)) (JCls.cons ⟨by rfl, by decide, .inl t.q_BadTs⟩ ⟨sc__law_kind_heard.nd, rfl, rfl⟩ (mt_BadTs t) (su_told rfl (Or.inl rfl) (what_names t)) (JCls.cons ⟨by rfl, by decide, .inl t.q_BadMany⟩ ⟨sc__law_kind_heard.nd, rfl, rfl⟩ (mt_BadMany t) (su_told rfl (Or.inl rfl) (what_names t)) (JCls.cons ⟨by rfl, by decide, .inl t.q_BadWeights⟩ ⟨sc__law_kind_heard.nd, rfl, rfl⟩ (mt_BadWeights t) (su_told rfl (Or.inl rfl) (what_names t)) (JCls.cons ⟨by rfl, by decide, .inl t.q_NoDots⟩ ⟨sc__law_kind_heard.nd, rfl, rfl⟩ (mt_NoDots t) (su_told rfl (Or.inl rfl) (what_names t)) (JCls.cons ⟨by rfl, by decide, .inl t.q_NoFit⟩ ⟨sc__law_kind_heard.nd, rfl, rfl⟩ (mt_NoFit t) (su_told rfl (Or.inl rfl) (what_names t)) (JCls.cons ⟨by rfl, by decide, .inl t.q_NoRoom⟩ ⟨sc__law_kind_heard.nd, rfl, rfl⟩ (mt_NoRoom t) (su_told rfl (Or.inl rfl) (what_names t)) (JCls.cons ⟨by rfl, by decide, .inl t.q_Blank⟩ ⟨sc__law_kind_heard.nd, rfl, rfl⟩ (mt_Blank t) (su_told rfl (Or.inl rfl) (what_names t)) (JCls.cons ⟨by rfl, by decide, .inl t.q_Shared⟩ ⟨sc__law_kind_heard.nd, rfl, rfl⟩ (mt_Shared t) (su_told rfl (Or.inl rfl) (what_names t)) (JCls.cons ⟨by rfl, by decide, .inl t.q_Thin⟩ ⟨sc__law_kind_heard.nd, rfl, rfl⟩ (mt_Thin t) (su_told rfl (Or.inl rfl) (what_names t)) JCls.nil)))))))))))))
theorem ok_lowest (t : Top K mg) (tb : ∀ p ∈ css t, LamX.TabB base mg p.1 p.2) : FnG P w K mg base (L2.CX P w) 1 t.a_lowest t.d_lowest ["above", "below"] (SpG K (tabs t) mg 2 s_lowest) :=
  fnG_ok t.F_lowest sc_lowest fun cdv hcdv A outer s H E hgd hr tk => by
    exact (js_cons (js_set (i := 2) sc_lowest.nd rfl (by first | exact Or.inl rfl | exact Or.inr rfl) (j_bf cre_gcd (by rfl) t.x_gcd (ja_cons (j_var (pv 0)) (ja_cons (j_var (pv 1)) ja_nil))))
    (js_one (js_ret (j_tup (ja_cons (j_bin ope_divG (j_var (pv 0)) (j_var (pv 2))) (ja_cons (j_bin ope_divG (j_var (pv 1)) (j_var (pv 2))) ja_nil))))))
theorem ok_is_number (t : Top K mg) (tb : ∀ p ∈ css t, LamX.TabB base mg p.1 p.2) : FnG P w K mg base (L2.CX P w) 1 t.a_is_number t.d_is_number ["thing"] (SpG K (tabs t) mg 1 s_is_number) :=
  fnG_ok t.F_is_number sc_is_number fun cdv hcdv A outer s H E hgd hr tk => by
    exact (js_one (js_ret (j_and (j_isi (j_var (pv 0)) (by rfl) t.m_isinstance (by rfl) t.m_int (by decide +kernel)) (j_one (j_not (j_isi (j_var (pv 0)) (by rfl) t.m_isinstance (by rfl) t.m_bool (by decide +kernel)))))))
theorem ok_is_within (t : Top K mg) (tb : ∀ p ∈ css t, LamX.TabB base mg p.1 p.2) : FnG P w K mg base (L2.CX P w) 2 t.a_is_within t.d_is_within ["thing", "low", "high"] (SpG K (tabs t) mg 3 s_is_within) :=
  fnG_ok t.F_is_within sc_is_within fun cdv hcdv A outer s H E hgd hr tk => by
    exact (js_one (js_ret (j_and (j_call (ok_is_number t tb) hgd (hr.mono (by decide)) tk (by rfl) t.g_is_number t.F_is_number.kp t.b_is_number (ja_cons (j_var (pv 0)) ja_nil)) (j_one (j_chain ope_le ope_le (j_var (pv 1)) (j_var (pv 0)) (j_var (pv 2)))))))
theorem ok_made_k (t : Top K mg) (tb : ∀ p ∈ css t, LamX.TabB base mg p.1 p.2) : FnG P w K mg base (L2.CX P w) 3 t.a_made_k t.d_made_k ["thing"] (SpG K (tabs t) mg 1 s_made_k) :=
  fnG_ok t.F_made_k sc_made_k fun cdv hcdv A outer s H E hgd hr tk => by
    exact (js_cons (js_if (jt_not (jt_tru (j_call (ok_is_within t tb) hgd (hr.mono (by decide)) tk (by rfl) t.g_is_within t.F_is_within.kp t.b_is_within (ja_cons (j_var (pv 0)) (ja_cons j_int (ja_cons (j_c (pe_glob (v := (.int 60)) (by rfl) t.c_GREATEST_K ⟨_, rfl⟩) fun _ _ => rfl) ja_nil)))))) (js_one (js_raise rfl tk t.E_BadK t.tI (ok_init t) (hr.mono (by decide)) t.b_init (by rfl) (ja_cons j_int ja_nil))) js_nil)
    (js_one (js_ret (j_var (pv 0)))))
theorem ok_wrong_at (t : Top K mg) (tb : ∀ p ∈ css t, LamX.TabB base mg p.1 p.2) : FnG P w K mg base (L2.CX P w) 3 t.a_wrong_at t.d_wrong_at ["thing", "fewest", "greatest", "low", "high"] (SpG K (tabs t) mg 5 s_wrong_at) :=
  fnG_ok t.F_wrong_at sc_wrong_at fun cdv hcdv A outer s H E hgd hr tk => by
    exact (js_cons (js_if (jt_w (jw_or (jt_not (jt_tru (j_isi (j_var (pv 0)) (by rfl) t.m_isinstance (by rfl) t.m_tuple (by decide +kernel)))) (jw_or1 (jt_not (jt_chain ope_le ope_le (j_var (pv 1)) (j_bi cre_len (by rfl) t.m_len (by decide +kernel) (ja_cons (j_var (pv 0)) ja_nil)) (j_var (pv 2))))))) (js_one (js_ret (j_un une_neg j_int))) js_nil)
    (js_cons (js_for (passes_of rfl) rfl (ji_enum (by rfl) t.m_enumerate (j_var (pv 0))) (jg_tup rfl (jgs_cons (jg_name (i := 5) sc_wrong_at.nd rfl (by first | exact Or.inl rfl | exact Or.inr rfl)) (jgs_cons (jg_name (i := 6) sc_wrong_at.nd rfl (by first | exact Or.inl rfl | exact Or.inr rfl)) jgs_nil))) (js_one (js_if (jt_not (jt_tru (j_call (ok_is_within t tb) hgd (hr.mono (by decide)) tk (by rfl) t.g_is_within t.F_is_within.kp t.b_is_within (ja_cons (j_var (pv 6)) (ja_cons (j_var (pv 3)) (ja_cons (j_var (pv 4)) ja_nil)))))) (js_one (js_ret (j_var (pv 5)))) js_nil)))
    (js_one (js_ret j_non))))
theorem ok_check_weights (t : Top K mg) (tb : ∀ p ∈ css t, LamX.TabB base mg p.1 p.2) : FnG P w K mg base (L2.CX P w) 4 t.a_check_weights t.d_check_weights ["weights"] (SpG K (tabs t) mg 1 s_check_weights) :=
  fnG_ok t.F_check_weights sc_check_weights fun cdv hcdv A outer s H E hgd hr tk => by
    exact (js_cons (js_set (i := 1) sc_check_weights.nd rfl (by first | exact Or.inl rfl | exact Or.inr rfl) (j_call (ok_wrong_at t tb) hgd (hr.mono (by decide)) tk (by rfl) t.g_wrong_at t.F_wrong_at.kp t.b_wrong_at (ja_cons (j_var (pv 0)) (ja_cons j_int (ja_cons (j_c (pe_glob (v := (.int 5)) (by rfl) t.c_MOST_WEIGHTS ⟨_, rfl⟩) fun _ _ => rfl) (ja_cons j_int (ja_cons (j_c (pe_glob (v := (.int 1000)) (by rfl) t.c_GREATEST_WEIGHT ⟨_, rfl⟩) fun _ _ => rfl) ja_nil)))))))
    (js_one (js_if (jt_cmp ope_isN (j_var (pv 1)) j_non (nomark _)) (js_one (js_raise rfl tk t.E_BadWeights t.tI (ok_init t) (hr.mono (by decide)) t.b_init (by rfl) (ja_cons (j_var (pv 1)) ja_nil))) js_nil)))
theorem ok_left_over (t : Top K mg) (tb : ∀ p ∈ css t, LamX.TabB base mg p.1 p.2) : FnG P w K mg base (L2.CX P w) 1 t.a_left_over t.d_left_over ["k", "ts"] (SpG K (tabs t) mg 2 s_left_over) :=
  fnG_ok t.F_left_over sc_left_over fun cdv hcdv A outer s H E hgd hr tk => by
    have hu100 : (CxB P w K mg base N_left_over "left_over" (topS 25) t.a_left_over cdv A outer s H E).A.units + 100 < cLine := by have := hr.un; omega
    exact (js_one (js_ret (j_bin ope_sub (j_bin ope_add (j_var (pv 0)) (j_bi (cre_max rfl hu100) (by rfl) t.m_max (by decide +kernel) (ja_cons (j_var (pv 1)) ja_nil))) (j_bin ope_mul j_int (j_bi (cre_sum rfl) (by rfl) t.m_sum (by decide +kernel) (ja_cons (j_var (pv 1)) ja_nil))))))
theorem ok_all_that_fit (t : Top K mg) (tb : ∀ p ∈ css t, LamX.TabB base mg p.1 p.2) : FnG P w K mg base (L2.CX P w) 2 t.a_all_that_fit t.d_all_that_fit ["k", "many"] (SpG K (tabs t) mg 2 s_all_that_fit) :=
  fnG_ok t.F_all_that_fit sc_all_that_fit fun cdv hcdv A outer s H E hgd hr tk => by
    exact (js_cons (js_set (i := 2) sc_all_that_fit.nd rfl (by first | exact Or.inl rfl | exact Or.inr rfl) (j_lst (ja_cons (j_tup ja_nil) ja_nil)))
    (js_cons (js_for (passes_of rfl) rfl (ji_r1 (by rfl) t.m_range (ja_cons (j_var (pv 1)) ja_nil)) (jg_name (i := 3) sc_all_that_fit.nd rfl (by first | exact Or.inl rfl | exact Or.inr rfl)) (js_cons (js_setLc20 (own := [("ts", 5), ("thick", 6)]) (vs := [6]) (i := 4) rfl sc_all_that_fit.nd rfl rfl (sw_true rfl rfl rfl (by decide +kernel)) (ji_seq (j_var (pv 2))) (blkOk_by (own := [("ts", 5), ("thick", 6)]) (N := N_all_that_fit) (sc := defScope (topS 31)) (by decide +kernel)) (by decide) (by decide) (by decide) (fun _ _ _ _ _ => (jg_name (i := 5) sc_all_that_fit.nd rfl (by first | exact Or.inl rfl | exact Or.inr rfl))) (fun _ _ _ _ _ => (ji_r2 (by rfl) t.m_range (ja_cons j_int (ja_cons (j_bin ope_add (j_var (pv 0)) j_int) ja_nil)))) (fun _ _ _ _ _ => (jg_name (i := 6) sc_all_that_fit.nd rfl (by first | exact Or.inl rfl | exact Or.inr rfl))) (fun _ _ _ _ _ => (j_tupS (jas_star (j_var (pv 5)) (jas_cons (j_var (pv 6)) jas_nil)))))
    (js_one (js_setLc1 (own := [("ts", 5)]) (i := 2) rfl sc_all_that_fit.nd rfl rfl (sw_true rfl rfl rfl (by decide +kernel)) (ji_seq (j_var (pv 4))) (blkOk_by (own := [("ts", 5)]) (N := N_all_that_fit) (sc := defScope (topS 31)) (by decide +kernel)) (by decide) (fun _ _ _ _ _ => (jg_name (i := 5) sc_all_that_fit.nd rfl (by first | exact Or.inl rfl | exact Or.inr rfl))) (fun _ _ _ _ _ => (jt_cmp ope_ge (j_call (ok_left_over t tb) hgd (hr.mono (by decide)) takes_no (by rfl) t.g_left_over t.F_left_over.kp t.b_left_over (ja_cons (j_var (pv 0)) (ja_cons (j_var (pv 5)) ja_nil))) j_int (nomark _))) (fun _ _ _ _ _ => (j_var (pv 5)))))))
    (js_one (js_ret (j_var (pv 2))))))
theorem ok_common_multiple (t : Top K mg) (tb : ∀ p ∈ css t, LamX.TabB base mg p.1 p.2) : FnG P w K mg base (L2.CX P w) 1 t.a_common_multiple t.d_common_multiple ["k"] (SpG K (tabs t) mg 1 s_common_multiple) :=
  fnG_ok t.F_common_multiple sc_common_multiple fun cdv hcdv A outer s H E hgd hr tk => by
    exact (js_cons (js_set (i := 1) sc_common_multiple.nd rfl (by first | exact Or.inl rfl | exact Or.inr rfl) j_int)
    (js_cons (js_for (passes_of rfl) rfl (ji_r2 (by rfl) t.m_range (ja_cons (j_bin ope_add (j_var (pv 0)) j_int) (ja_cons (j_bin ope_add (j_bin ope_mul j_int (j_var (pv 0))) j_int) ja_nil))) (jg_name (i := 2) sc_common_multiple.nd rfl (by first | exact Or.inl rfl | exact Or.inr rfl)) (js_one (js_set (i := 1) sc_common_multiple.nd rfl (by first | exact Or.inl rfl | exact Or.inr rfl) (j_bf cre_lcm (by rfl) t.x_lcm (ja_cons (j_var (pv 1)) (ja_cons (j_var (pv 2)) ja_nil))))))
    (js_one (js_ret (j_var (pv 1))))))
theorem ok_cheapest (t : Top K mg) (tb : ∀ p ∈ css t, LamX.TabB base mg p.1 p.2) : FnG P w K mg base (L2.CX P w) 5 t.a_cheapest t.d_cheapest ["k", "weights"] (SpG K (tabs t) mg 2 s_cheapest) :=
  fnG_ok t.F_cheapest sc_cheapest fun cdv hcdv A outer s H E hgd hr tk => by
    exact (js_cons (js_ex (j_call (ok_made_k t tb) hgd (hr.mono (by decide)) tk (by rfl) t.g_made_k t.F_made_k.kp t.b_made_k (ja_cons (j_var (pv 0)) ja_nil)))
    (js_cons (js_if (jt_cmp ope_gt (j_var (pv 0)) (j_c (pe_glob (v := (.int 24)) (by rfl) t.c_GREATEST_K_OF_SHARES ⟨_, rfl⟩) fun _ _ => rfl) (nomark _)) (js_one (js_raise rfl tk t.E_BadK t.tI (ok_init t) (hr.mono (by decide)) t.b_init (by rfl) (ja_cons j_int ja_nil))) js_nil)
    (js_cons (js_ex (j_call (ok_check_weights t tb) hgd (hr.mono (by decide)) tk (by rfl) t.g_check_weights t.F_check_weights.kp t.b_check_weights (ja_cons (j_var (pv 1)) ja_nil)))
    (js_cons (js_if (jt_cmp ope_gt (j_bin ope_sub (j_bi cre_len (by rfl) t.m_len (by decide +kernel) (ja_cons (j_var (pv 1)) ja_nil)) j_int) (j_bin ope_div (j_bin ope_add (j_var (pv 0)) j_int) j_int) (nomark _)) (js_one (js_raise rfl tk t.E_NoRoom t.tI (ok_init t) (hr.mono (by decide)) t.b_init (by rfl) (ja_cons j_int ja_nil))) js_nil)
    (js_cons (js_set (i := 2) sc_cheapest.nd rfl (by first | exact Or.inl rfl | exact Or.inr rfl) (j_call (ok_all_that_fit t tb) hgd (hr.mono (by decide)) tk (by rfl) t.g_all_that_fit t.F_all_that_fit.kp t.b_all_that_fit (ja_cons (j_var (pv 0)) (ja_cons (j_bin ope_sub (j_bi cre_len (by rfl) t.m_len (by decide +kernel) (ja_cons (j_var (pv 1)) ja_nil)) j_int) ja_nil))))
    (js_cons (js_set (i := 3) sc_cheapest.nd rfl (by first | exact Or.inl rfl | exact Or.inr rfl) (j_call (ok_common_multiple t tb) hgd (hr.mono (by decide)) tk (by rfl) t.g_common_multiple t.F_common_multiple.kp t.b_common_multiple (ja_cons (j_var (pv 0)) ja_nil)))
    (js_cons (js_set (i := 4) sc_cheapest.nd rfl (by first | exact Or.inl rfl | exact Or.inr rfl) j_non)
    (js_cons (js_for (passes_of rfl) rfl (ji_r1 (by rfl) t.m_range (ja_cons (j_bi cre_len (by rfl) t.m_len (by decide +kernel) (ja_cons (j_var (pv 1)) ja_nil)) ja_nil)) (jg_name (i := 5) sc_cheapest.nd rfl (by first | exact Or.inl rfl | exact Or.inr rfl)) (js_cons (js_set (i := 6) sc_cheapest.nd rfl (by first | exact Or.inl rfl | exact Or.inr rfl) (j_bin ope_add (j_sl (j_var (pv 1)) jo_none (jo_some (j_var (pv 5)))) (j_sl (j_var (pv 1)) (jo_some (j_bin ope_add (j_var (pv 5)) j_int)) jo_none)))
    (js_one (js_for (passes_of rfl) rfl (ji_seq (j_var (pv 2))) (jg_name (i := 7) sc_cheapest.nd rfl (by first | exact Or.inl rfl | exact Or.inr rfl)) (js_cons (js_set (i := 8) sc_cheapest.nd rfl (by first | exact Or.inl rfl | exact Or.inr rfl) (j_bi (cre_sum rfl) (by rfl) t.m_sum (by decide +kernel) (ja_cons (j_lc0 (own := [("weight", 9), ("thick", 10)])  rfl sc_cheapest.nd (ji_zip (by rfl) t.m_zip (j_var (pv 6)) (j_var (pv 7))) (blkOk_by (own := [("weight", 9), ("thick", 10)]) (N := N_cheapest) (sc := defScope (topS 33)) (by decide +kernel)) (by decide) (fun _ _ _ _ _ => (jg_tup rfl (jgs_cons (jg_name (i := 9) sc_cheapest.nd rfl (by first | exact Or.inl rfl | exact Or.inr rfl)) (jgs_cons (jg_name (i := 10) sc_cheapest.nd rfl (by first | exact Or.inl rfl | exact Or.inr rfl)) jgs_nil)))) (fun _ _ _ _ _ => (j_bin ope_div (j_bin ope_mul (j_bin ope_mul (j_var (pv 9)) j_int) (j_var (pv 3))) (j_bin ope_add (j_var (pv 0)) (j_var (pv 10)))))) ja_nil)))
    (js_one (js_if (jt_w (jw_or (jt_cmp ope_is (j_var (pv 4)) j_non (nomark _)) (jw_or1 (jt_cmp ope_lt (j_var (pv 8)) (j_ix ixe (j_var (pv 4)) j_int (fun _ _ => rfl)) (nomark _))))) (js_one (js_set (i := 4) sc_cheapest.nd rfl (by first | exact Or.inl rfl | exact Or.inr rfl) (j_tup (ja_cons (j_var (pv 8)) (ja_cons (j_var (pv 5)) (ja_cons (j_bin ope_add (j_bin ope_add (j_sl (j_var (pv 7)) jo_none (jo_some (j_var (pv 5)))) (j_tup (ja_cons j_int ja_nil))) (j_sl (j_var (pv 7)) (jo_some (j_var (pv 5))) jo_none)) ja_nil)))))) js_nil)))))))
    (js_cons (js_asg (j_var (pv 4)) (jg_tup rfl (jgs_cons (jg_name (i := 8) sc_cheapest.nd rfl (by first | exact Or.inl rfl | exact Or.inr rfl)) (jgs_cons (jg_name (i := 5) sc_cheapest.nd rfl (by first | exact Or.inl rfl | exact Or.inr rfl)) (jgs_cons (jg_name (i := 7) sc_cheapest.nd rfl (by first | exact Or.inl rfl | exact Or.inr rfl)) jgs_nil)))))
    (js_one (js_ret (j_tup (ja_cons (j_call (ok_lowest t tb) hgd (hr.mono (by decide)) tk (by rfl) t.g_lowest t.F_lowest.kp t.b_lowest (ja_cons (j_var (pv 8)) (ja_cons (j_var (pv 3)) ja_nil))) (ja_cons (j_var (pv 5)) (ja_cons (j_var (pv 7)) ja_nil)))))))))))))))
theorem ok__law_pool (t : Top K mg) (tb : ∀ p ∈ css t, LamX.TabB base mg p.1 p.2) : FnG P w K mg base (L2.CX P w) 1 t.a__law_pool t.d__law_pool ["script"] (SpG K (tabs t) mg 1 s__law_pool) :=
  fnG_ok t.F__law_pool sc__law_pool fun cdv hcdv A outer s H E hgd hr tk => by
    exact (js_cons (js_set (i := 1) sc__law_pool.nd rfl (by first | exact Or.inl rfl | exact Or.inr rfl) (j_if (jt_cmp ope_gt (j_bi cre_len (by rfl) t.m_len (by decide +kernel) (ja_cons (j_var (pv 0)) ja_nil)) j_int (nomark _)) (j_ty cre_int (by rfl) t.m_int (by decide +kernel) (ja_cons (j_ix ixe (j_var (pv 0)) j_int (fun _ _ => rfl)) ja_nil)) j_int))
    (js_cons (js_set (i := 2) sc__law_pool.nd rfl (by first | exact Or.inl rfl | exact Or.inr rfl) (j_if (jt_cmp ope_ge (j_var (pv 1)) j_int (nomark _)) (j_bin ope_mul j_int (j_var (pv 1))) (j_bin ope_sub (j_un une_neg j_int) (j_bin ope_mul j_int (j_var (pv 1))))))
    (js_one (js_ret (j_lst (ja_cons (j_if (jt_cmp ope_ge (j_var (pv 2)) (j_bin ope_pow j_int j_int) (nomark _)) (j_var (pv 2)) j_int) (ja_cons (j_bin ope_add (j_bin ope_mod (j_ty cre_int (by rfl) t.m_int (by decide +kernel) (ja_cons (j_bin ope_add (j_bin ope_mul (j_var (pv 2)) j_int) j_int) ja_nil)) j_int) j_int) (ja_cons (j_ty cre_list (by rfl) t.m_list (by decide +kernel) (ja_cons (j_sl (j_var (pv 0)) (jo_some j_int) jo_none) ja_nil)) ja_nil))))))))
theorem ok__law_draw (t : Top K mg) (tb : ∀ p ∈ css t, LamX.TabB base mg p.1 p.2) : FnG P w K mg base (L2.CX P w) 1 t.a__law_draw t.d__law_draw ["pool", "many"] (SpG K (tabs t) mg 2 s__law_draw) :=
  fnG_ok t.F__law_draw sc__law_draw fun cdv hcdv A outer s H E hgd hr tk => by
    have hu64 : (CxB P w K mg base N__law_draw "_law_draw" (topS 36) t.a__law_draw cdv A outer s H E).A.units + 64 < cLine := by have := hr.un; omega
    exact (js_cons (js_if (jt_w (jw_and (jt_cmp (ope_eq hu64) (j_ix ixe (j_var (pv 0)) j_int (fun _ _ => rfl)) j_int (nomark _)) (jw_and1 (jt_cmp (ope_ne hu64) (j_ix ixe (j_var (pv 0)) j_int (fun _ _ => rfl)) (j_lst ja_nil) (nomark _))))) (js_cons (js_set (i := 2) sc__law_draw.nd rfl (by first | exact Or.inl rfl | exact Or.inr rfl) (j_ty cre_int (by rfl) t.m_int (by decide +kernel) (ja_cons (j_popAt (j_ix ixe (j_var (pv 0)) j_int (fun _ _ => rfl)) j_int) ja_nil)))
    (js_cons (js_set (i := 3) sc__law_draw.nd rfl (by first | exact Or.inl rfl | exact Or.inr rfl) (j_if (jt_cmp ope_ge (j_var (pv 2)) j_int (nomark _)) (j_bin ope_mul j_int (j_var (pv 2))) (j_bin ope_sub (j_un une_neg j_int) (j_bin ope_mul j_int (j_var (pv 2))))))
    (js_cons (js_store (j_var (pv 0)) j_int (j_if (jt_cmp ope_ge (j_var (pv 3)) (j_bin ope_pow j_int j_int) (nomark _)) (j_var (pv 3)) j_int))
    (js_one (js_store (j_var (pv 0)) j_int (j_bin ope_add (j_bin ope_mod (j_ty cre_int (by rfl) t.m_int (by decide +kernel) (ja_cons (j_bin ope_add (j_ix ixe (j_var (pv 0)) j_int (fun _ _ => rfl)) (j_bin ope_mul (j_var (pv 3)) j_int)) ja_nil)) j_int) j_int)))))) js_nil)
    (js_cons (js_if (jt_cmp ope_gt (j_ix ixe (j_var (pv 0)) j_int (fun _ _ => rfl)) j_int (nomark _)) (js_cons (js_set (i := 4) sc__law_draw.nd rfl (by first | exact Or.inl rfl | exact Or.inr rfl) (j_bin ope_mod (j_ty cre_int (by rfl) t.m_int (by decide +kernel) (ja_cons (j_ix ixe (j_var (pv 0)) j_int (fun _ _ => rfl)) ja_nil)) (j_var (pv 1))))
    (js_cons (js_store (j_var (pv 0)) j_int (j_bin ope_div (j_ix ixe (j_var (pv 0)) j_int (fun _ _ => rfl)) (j_var (pv 1))))
    (js_one (js_ret (j_var (pv 4)))))) js_nil)
    (js_cons (js_store (j_var (pv 0)) j_int (j_bin ope_mod (j_ty cre_int (by rfl) t.m_int (by decide +kernel) (ja_cons (j_bin ope_add (j_bin ope_mul (j_ix ixe (j_var (pv 0)) j_int (fun _ _ => rfl)) j_int) j_int) ja_nil)) j_int))
    (js_one (js_ret (j_bin ope_mod (j_bin ope_div (j_bin ope_mod (j_ty cre_int (by rfl) t.m_int (by decide +kernel) (ja_cons (j_bin ope_mul (j_ix ixe (j_var (pv 0)) j_int (fun _ _ => rfl)) (j_ix ixe (j_var (pv 0)) j_int (fun _ _ => rfl))) ja_nil)) j_int) j_int) (j_var (pv 1))))))))
theorem ok__law_row_gcd (t : Top K mg) (tb : ∀ p ∈ css t, LamX.TabB base mg p.1 p.2) : FnG P w K mg base (L2.CX P w) 1 t.a__law_row_gcd t.d__law_row_gcd ["one", "two"] (SpG K (tabs t) mg 2 s__law_row_gcd) :=
  fnG_ok t.F__law_row_gcd sc__law_row_gcd fun cdv hcdv A outer s H E hgd hr tk => by
    have hu64 : (CxB P w K mg base N__law_row_gcd "_law_row_gcd" (topS 37) t.a__law_row_gcd cdv A outer s H E).A.units + 64 < cLine := by have := hr.un; omega
    exact (js_cons (js_wh (passes_of rfl) (jt_cmp (ope_ne hu64) (j_var (pv 1)) j_int (nomark _)) (js_one (js_par rfl sc__law_row_gcd.nd rfl rfl (by decide) rfl rfl (j_var (pv 1)) (j_bin ope_mod (j_ty cre_int (by rfl) t.m_int (by decide +kernel) (ja_cons (j_var (pv 0)) ja_nil)) (j_var (pv 1))))))
    (js_one (js_ret (j_var (pv 0)))))
theorem ok__law_row_low (t : Top K mg) (tb : ∀ p ∈ css t, LamX.TabB base mg p.1 p.2) : FnG P w K mg base (L2.CX P w) 2 t.a__law_row_low t.d__law_row_low ["p", "q"] (SpG K (tabs t) mg 2 s__law_row_low) :=
  fnG_ok t.F__law_row_low sc__law_row_low fun cdv hcdv A outer s H E hgd hr tk => by
    exact (js_cons (js_set (i := 2) sc__law_row_low.nd rfl (by first | exact Or.inl rfl | exact Or.inr rfl) (j_call (ok__law_row_gcd t tb) hgd (hr.mono (by decide)) tk (by rfl) t.g__law_row_gcd t.F__law_row_gcd.kp t.b__law_row_gcd (ja_cons (j_var (pv 0)) (ja_cons (j_var (pv 1)) ja_nil))))
    (js_one (js_ret (j_tup (ja_cons (j_bin ope_div (j_var (pv 0)) (j_var (pv 2))) (ja_cons (j_bin ope_div (j_var (pv 1)) (j_var (pv 2))) ja_nil))))))
theorem ok__law_kind_spare (t : Top K mg) (tb : ∀ p ∈ css t, LamX.TabB base mg p.1 p.2) : FnG P w K mg base (L2.CX P w) 1 t.a__law_kind_spare t.d__law_kind_spare ["k", "ts"] (SpG K (tabs t) mg 2 s__law_kind_spare) :=
  fnG_ok t.F__law_kind_spare sc__law_kind_spare fun cdv hcdv A outer s H E hgd hr tk => by
    have hu100 : (CxB P w K mg base N__law_kind_spare "_law_kind_spare" (topS 39) t.a__law_kind_spare cdv A outer s H E).A.units + 100 < cLine := by have := hr.un; omega
    exact (js_one (js_ret (j_bin ope_add (j_bin ope_sub (j_var (pv 0)) (j_bin ope_mul j_int (j_bi (cre_sum rfl) (by rfl) t.m_sum (by decide +kernel) (ja_cons (j_var (pv 1)) ja_nil)))) (j_bi (cre_max rfl hu100) (by rfl) t.m_max (by decide +kernel) (ja_cons (j_bin ope_add (j_ty cre_list (by rfl) t.m_list (by decide +kernel) (ja_cons (j_var (pv 1)) ja_nil)) (j_lst (ja_cons j_int ja_nil))) ja_nil)))))
theorem ok__law_kind_lots (t : Top K mg) (tb : ∀ p ∈ css t, LamX.TabB base mg p.1 p.2) : FnG P w K mg base (L2.CX P w) 2 t.a__law_kind_lots t.d__law_kind_lots ["k", "many"] (SpG K (tabs t) mg 2 s__law_kind_lots) :=
  fnG_ok t.F__law_kind_lots sc__law_kind_lots fun cdv hcdv A outer s H E hgd hr tk => by
    exact (js_cons (js_set (i := 2) sc__law_kind_lots.nd rfl (by first | exact Or.inl rfl | exact Or.inr rfl) (j_lst (ja_cons (j_tup ja_nil) ja_nil)))
    (js_cons (js_for (passes_of rfl) rfl (ji_r1 (by rfl) t.m_range (ja_cons (j_var (pv 1)) ja_nil)) (jg_name (i := 3) sc__law_kind_lots.nd rfl (by first | exact Or.inl rfl | exact Or.inr rfl)) (js_cons (js_set (i := 4) sc__law_kind_lots.nd rfl (by first | exact Or.inl rfl | exact Or.inr rfl) (j_lst ja_nil))
    (js_cons (js_for (passes_of rfl) rfl (ji_seq (j_var (pv 2))) (jg_name (i := 5) sc__law_kind_lots.nd rfl (by first | exact Or.inl rfl | exact Or.inr rfl)) (js_one (js_for (passes_of rfl) rfl (ji_r2 (by rfl) t.m_range (ja_cons j_int (ja_cons (j_bin ope_add (j_var (pv 0)) j_int) ja_nil))) (jg_name (i := 6) sc__law_kind_lots.nd rfl (by first | exact Or.inl rfl | exact Or.inr rfl)) (js_cons (js_if (jt_cmp ope_lt (j_call (ok__law_kind_spare t tb) hgd (hr.mono (by decide)) tk (by rfl) t.g__law_kind_spare t.F__law_kind_spare.kp t.b__law_kind_spare (ja_cons (j_var (pv 0)) (ja_cons (j_bin ope_add (j_var (pv 5)) (j_tup (ja_cons (j_var (pv 6)) ja_nil))) ja_nil))) j_int (nomark _)) (js_one js_brk) js_nil)
    (js_one (js_ex (j_append (j_var (pv 4)) (j_bin ope_add (j_var (pv 5)) (j_tup (ja_cons (j_var (pv 6)) ja_nil))))))))))
    (js_one (js_set (i := 2) sc__law_kind_lots.nd rfl (by first | exact Or.inl rfl | exact Or.inr rfl) (j_var (pv 4)))))))
    (js_one (js_ret (j_var (pv 2))))))
theorem ok__law_share_cost (t : Top K mg) (tb : ∀ p ∈ css t, LamX.TabB base mg p.1 p.2) : FnG P w K mg base (L2.CX P w) 1 t.a__law_share_cost t.d__law_share_cost ["k", "weights", "ts"] (SpG K (tabs t) mg 3 s__law_share_cost) :=
  fnG_ok t.F__law_share_cost sc__law_share_cost fun cdv hcdv A outer s H E hgd hr tk => by
    exact (js_cons (js_asg (j_tup (ja_cons j_int (ja_cons j_int ja_nil))) (jg_tup rfl (jgs_cons (jg_name (i := 3) sc__law_share_cost.nd rfl (by first | exact Or.inl rfl | exact Or.inr rfl)) (jgs_cons (jg_name (i := 4) sc__law_share_cost.nd rfl (by first | exact Or.inl rfl | exact Or.inr rfl)) jgs_nil))))
    (js_cons (js_for (passes_of rfl) rfl (ji_zip (by rfl) t.m_zip (j_var (pv 1)) (j_var (pv 2))) (jg_tup rfl (jgs_cons (jg_name (i := 5) sc__law_share_cost.nd rfl (by first | exact Or.inl rfl | exact Or.inr rfl)) (jgs_cons (jg_name (i := 6) sc__law_share_cost.nd rfl (by first | exact Or.inl rfl | exact Or.inr rfl)) jgs_nil))) (js_one (js_if (jt_cmp ope_gt (j_var (pv 6)) j_int (nomark _)) (js_one (js_par rfl sc__law_share_cost.nd rfl rfl (by decide) rfl rfl (j_bin ope_add (j_bin ope_mul (j_var (pv 3)) (j_bin ope_add (j_var (pv 0)) (j_var (pv 6)))) (j_bin ope_mul (j_bin ope_mul j_int (j_var (pv 5))) (j_var (pv 4)))) (j_bin ope_mul (j_var (pv 4)) (j_bin ope_add (j_var (pv 0)) (j_var (pv 6)))))) js_nil)))
    (js_one (js_ret (j_tup (ja_cons (j_var (pv 3)) (ja_cons (j_var (pv 4)) ja_nil)))))))
theorem ok__law_share_due (t : Top K mg) (tb : ∀ p ∈ css t, LamX.TabB base mg p.1 p.2) : FnG P w K mg base (L2.CX P w) 3 t.a__law_share_due t.d__law_share_due ["k", "weights"] (SpG K (tabs t) mg 2 s__law_share_due) :=
  fnG_ok t.F__law_share_due sc__law_share_due fun cdv hcdv A outer s H E hgd hr tk => by
    exact (js_cons (js_par rfl sc__law_share_due.nd rfl rfl (by decide) rfl rfl j_non (j_call (ok__law_kind_lots t tb) hgd (hr.mono (by decide)) tk (by rfl) t.g__law_kind_lots t.F__law_kind_lots.kp t.b__law_kind_lots (ja_cons (j_var (pv 0)) (ja_cons (j_bin ope_sub (j_bi cre_len (by rfl) t.m_len (by decide +kernel) (ja_cons (j_var (pv 1)) ja_nil)) j_int) ja_nil))))
    (js_cons (js_for (passes_of rfl) rfl (ji_r1 (by rfl) t.m_range (ja_cons (j_bi cre_len (by rfl) t.m_len (by decide +kernel) (ja_cons (j_var (pv 1)) ja_nil)) ja_nil)) (jg_name (i := 4) sc__law_share_due.nd rfl (by first | exact Or.inl rfl | exact Or.inr rfl)) (js_one (js_for (passes_of rfl) rfl (ji_seq (j_var (pv 3))) (jg_name (i := 5) sc__law_share_due.nd rfl (by first | exact Or.inl rfl | exact Or.inr rfl)) (js_cons (js_set (i := 6) sc__law_share_due.nd rfl (by first | exact Or.inl rfl | exact Or.inr rfl) (j_bin ope_add (j_bin ope_add (j_sl (j_var (pv 5)) jo_none (jo_some (j_var (pv 4)))) (j_tup (ja_cons j_int ja_nil))) (j_sl (j_var (pv 5)) (jo_some (j_var (pv 4))) jo_none)))
    (js_cons (js_set (i := 7) sc__law_share_due.nd rfl (by first | exact Or.inl rfl | exact Or.inr rfl) (j_call (ok__law_share_cost t tb) hgd (hr.mono (by decide)) tk (by rfl) t.g__law_share_cost t.F__law_share_cost.kp t.b__law_share_cost (ja_cons (j_var (pv 0)) (ja_cons (j_var (pv 1)) (ja_cons (j_var (pv 6)) ja_nil)))))
    (js_one (js_if (jt_w (jw_or (jt_cmp ope_is (j_var (pv 2)) j_non (nomark _)) (jw_or1 (jt_cmp ope_lt (j_bin ope_mul (j_ix ixe (j_var (pv 7)) j_int (fun _ _ => rfl)) (j_ix ixe (j_ix ixe (j_var (pv 2)) j_int (fun _ _ => rfl)) j_int (fun _ _ => rfl))) (j_bin ope_mul (j_ix ixe (j_ix ixe (j_var (pv 2)) j_int (fun _ _ => rfl)) j_int (fun _ _ => rfl)) (j_ix ixe (j_var (pv 7)) j_int (fun _ _ => rfl))) (nomark _))))) (js_one (js_set (i := 2) sc__law_share_due.nd rfl (by first | exact Or.inl rfl | exact Or.inr rfl) (j_tup (ja_cons (j_var (pv 7)) (ja_cons (j_var (pv 4)) (ja_cons (j_var (pv 6)) ja_nil)))))) js_nil)))))))
    (js_one (js_ret (j_if (jt_cmp ope_is (j_var (pv 2)) j_non (nomark _)) j_non (j_tup (ja_cons (j_call (ok__law_row_low t tb) hgd (hr.mono (by decide)) tk (by rfl) t.g__law_row_low t.F__law_row_low.kp t.b__law_row_low (ja_cons (j_ix ixe (j_ix ixe (j_var (pv 2)) j_int (fun _ _ => rfl)) j_int (fun _ _ => rfl)) (ja_cons (j_ix ixe (j_ix ixe (j_var (pv 2)) j_int (fun _ _ => rfl)) j_int (fun _ _ => rfl)) ja_nil))) (ja_cons (j_ix ixe (j_var (pv 2)) j_int (fun _ _ => rfl)) (ja_cons (j_ix ixe (j_var (pv 2)) j_int (fun _ _ => rfl)) ja_nil)))))))))
theorem ok__law_share_right (t : Top K mg) (tb : ∀ p ∈ css t, LamX.TabB base mg p.1 p.2) : FnG P w K mg base (L2.CX P w) 8 t.a__law_share_right t.d__law_share_right ["k", "weights"] (SpG K (tabs t) mg 2 s__law_share_right) :=
  fnG_ok t.F__law_share_right sc__law_share_right fun cdv hcdv A outer s H E hgd hr tk => by
    have hu64 : (CxB P w K mg base N__law_share_right "_law_share_right" (topS 45) t.a__law_share_right cdv A outer s H E).A.units + 64 < cLine := by have := hr.un; omega
    have hu100 : (CxB P w K mg base N__law_share_right "_law_share_right" (topS 45) t.a__law_share_right cdv A outer s H E).A.units + 100 < cLine := by have := hr.un; omega
    exact (js_cons (js_set (i := 2) sc__law_share_right.nd rfl (by first | exact Or.inl rfl | exact Or.inr rfl) (j_call (ok__law_share_due t tb) hgd (hr.mono (by decide)) tk (by rfl) t.g__law_share_due t.F__law_share_due.kp t.b__law_share_due (ja_cons (j_var (pv 0)) (ja_cons (j_var (pv 1)) ja_nil))))
    (js_cons (js_set (i := 3) sc__law_share_right.nd rfl (by first | exact Or.inl rfl | exact Or.inr rfl) (j_heardF 5 t.F__law_kind_heard sc__law_kind_heard t.b__law_kind_heard hgd (by rfl) t.g__law_kind_heard (by rfl) (by first | exact Or.inl rfl | exact Or.inr (Or.inl rfl)) (by rfl) (hc__law_kind_heard t _ _ _ _ _ _) (tb _ (cmem__law_share_right t)) (hcdv.symm.trans t.lh__law_share_right) (tmem__law_share_right t) (tu__law_share_right t) (hr.mono (by decide)) (show LamX.lamSB (defScope (topS 45)) _ = true by decide +kernel) (by rfl) (fun _ _ _ _ _ => rfl) (fun A outer s H E f c hgd hr => (j_call (ok_cheapest t tb) hgd (hr.mono (by decide)) (takes_of rfl rfl rfl rfl) (by rfl) t.g_cheapest t.F_cheapest.kp t.b_cheapest (ja_cons (j_var (pv 0)) (ja_cons (j_var (pv 1)) ja_nil))))))
    (js_one (js_ret (j_cmp (ope_eq hu64) (j_bi (cre_repr hgd hu100) (by rfl) t.m_repr (by decide +kernel) (ja_cons (j_var (pv 3)) ja_nil)) (j_bi (cre_repr hgd hu100) (by rfl) t.m_repr (by decide +kernel) (ja_cons (j_if (jt_cmp ope_is (j_var (pv 2)) j_non (nomark _)) (j_tup (ja_cons j_str (ja_cons j_int ja_nil))) (j_tup (ja_cons j_str (ja_cons (j_var (pv 2)) ja_nil)))) ja_nil)) (nomark _))))))
theorem ok__law_kind_no_k (t : Top K mg) (tb : ∀ p ∈ css t, LamX.TabB base mg p.1 p.2) : FnG P w K mg base (L2.CX P w) 1 t.a__law_kind_no_k t.d__law_kind_no_k [] (SpG K (tabs t) mg 0 s__law_kind_no_k) :=
  fnG_ok t.F__law_kind_no_k sc__law_kind_no_k fun cdv hcdv A outer s H E hgd hr tk => by
    exact (js_one (js_ret (j_lst (ja_cons j_int (ja_cons (j_un une_neg j_int) (ja_cons j_int (ja_cons j_bl (ja_cons j_bl (ja_cons j_non (ja_cons j_str (ja_cons (j_tup (ja_cons j_int ja_nil)) (ja_cons (j_bin ope_pow j_int j_int) ja_nil))))))))))))
theorem ok__law_share_refused (t : Top K mg) (tb : ∀ p ∈ css t, LamX.TabB base mg p.1 p.2) : FnG P w K mg base (L2.CX P w) 8 t.a__law_share_refused t.d__law_share_refused ["k", "weights"] (SpG K (tabs t) mg 2 s__law_share_refused) :=
  fnG_ok t.F__law_share_refused sc__law_share_refused fun cdv hcdv A outer s H E hgd hr tk => by
    have hu64 : (CxB P w K mg base N__law_share_refused "_law_share_refused" (topS 46) t.a__law_share_refused cdv A outer s H E).A.units + 64 < cLine := by have := hr.un; omega
    have hu100 : (CxB P w K mg base N__law_share_refused "_law_share_refused" (topS 46) t.a__law_share_refused cdv A outer s H E).A.units + 100 < cLine := by have := hr.un; omega
    exact (js_cons (js_for (passes_of rfl) rfl (ji_seq (j_bin ope_add (j_call0 (ok__law_kind_no_k t tb) hgd (hr.mono (by decide)) tk (by rfl) t.g__law_kind_no_k t.F__law_kind_no_k.kp t.b__law_kind_no_k) (j_lst (ja_cons j_int (ja_cons j_int ja_nil))))) (jg_name (i := 2) sc__law_share_refused.nd rfl (by first | exact Or.inl rfl | exact Or.inr rfl)) (js_one (js_if (jt_cmp (ope_ne hu64) (j_heardF 5 t.F__law_kind_heard sc__law_kind_heard t.b__law_kind_heard hgd (by rfl) t.g__law_kind_heard (by rfl) (by first | exact Or.inl rfl | exact Or.inr (Or.inl rfl)) (by rfl) (hc__law_kind_heard t _ _ _ _ _ _) (tb _ (cmem__law_share_refused t)) (hcdv.symm.trans t.lh__law_share_refused) (tmem__law_share_refused t) (tu__law_share_refused t) (hr.mono (by decide)) (show LamX.lamSB (defScope (topS 46)) _ = true by decide +kernel) (by rfl) (fun _ _ _ _ _ => rfl) (fun A outer s H E f c hgd hr => (j_call (ok_cheapest t tb) hgd (hr.mono (by decide)) (takes_of rfl rfl rfl rfl) (by rfl) t.g_cheapest t.F_cheapest.kp t.b_cheapest (ja_cons (j_var (pv 2)) (ja_cons j_non ja_nil))))) (j_tup (ja_cons j_str (ja_cons j_int ja_nil))) (nomark _)) (js_one (js_ret j_bl)) js_nil)))
    (js_cons (js_set (i := 3) sc__law_share_refused.nd rfl (by first | exact Or.inl rfl | exact Or.inr rfl) (j_lst (ja_cons (j_tup (ja_cons j_non (ja_cons (j_un une_neg j_int) ja_nil))) (ja_cons (j_tup (ja_cons (j_tup ja_nil) (ja_cons (j_un une_neg j_int) ja_nil))) (ja_cons (j_tup (ja_cons (j_bin ope_mul (j_tup (ja_cons j_int ja_nil)) j_int) (ja_cons (j_un une_neg j_int) ja_nil))) (ja_cons (j_tup (ja_cons j_int (ja_cons (j_un une_neg j_int) ja_nil))) (ja_cons (j_tup (ja_cons j_str (ja_cons (j_un une_neg j_int) ja_nil))) ja_nil)))))))
    (js_cons (js_for (passes_of rfl) rfl (ji_r1 (by rfl) t.m_range (ja_cons (j_bi cre_len (by rfl) t.m_len (by decide +kernel) (ja_cons (j_var (pv 1)) ja_nil)) ja_nil)) (jg_name (i := 4) sc__law_share_refused.nd rfl (by first | exact Or.inl rfl | exact Or.inr rfl)) (js_one (js_for (passes_of rfl) rfl (ji_seq (j_lst (ja_cons (j_un une_neg j_int) (ja_cons j_int (ja_cons j_bl (ja_cons j_non (ja_cons j_str (ja_cons (j_tup (ja_cons j_int ja_nil)) ja_nil)))))))) (jg_name (i := 5) sc__law_share_refused.nd rfl (by first | exact Or.inl rfl | exact Or.inr rfl)) (js_one (js_ex (j_append (j_var (pv 3)) (j_tup (ja_cons (j_bin ope_add (j_bin ope_add (j_sl (j_var (pv 1)) jo_none (jo_some (j_var (pv 4)))) (j_tup (ja_cons (j_var (pv 5)) ja_nil))) (j_bin ope_mul (j_tup (ja_cons j_non ja_nil)) (j_bin ope_sub (j_bin ope_sub (j_bi cre_len (by rfl) t.m_len (by decide +kernel) (ja_cons (j_var (pv 1)) ja_nil)) j_int) (j_var (pv 4))))) (ja_cons (j_var (pv 4)) ja_nil)))))))))
    (js_one (js_ret (j_cmp (ope_eq hu64) (j_lc1 (own := [("thing", 6), ("what", 7)])  rfl sc__law_share_refused.nd (ji_seq (j_var (pv 3))) (blkOk_by (own := [("thing", 6), ("what", 7)]) (N := N__law_share_refused) (sc := defScope (topS 46)) (by decide +kernel)) (by decide) (fun _ _ _ _ _ => (jg_tup rfl (jgs_cons (jg_name (i := 6) sc__law_share_refused.nd rfl (by first | exact Or.inl rfl | exact Or.inr rfl)) (jgs_cons (jg_name (i := 7) sc__law_share_refused.nd rfl (by first | exact Or.inl rfl | exact Or.inr rfl)) jgs_nil)))) (fun _ _ _ _ _ => (jt_cmp (ope_ne hu64) (j_bi (cre_repr hgd hu100) (by rfl) t.m_repr (by decide +kernel) (ja_cons (j_heardF 5 t.F__law_kind_heard sc__law_kind_heard t.b__law_kind_heard hgd (by rfl) t.g__law_kind_heard (by rfl) (by first | exact Or.inl rfl | exact Or.inr (Or.inl rfl)) (by rfl) (hc__law_kind_heard t _ _ _ _ _ _) (tb _ (cmem__law_share_refused t)) (hcdv.symm.trans t.lh__law_share_refused) (tmem__law_share_refused t) (tu__law_share_refused t) (hr.mono (by decide)) (by rfl) (by rfl) (fun _ _ _ _ _ => rfl) (fun A outer s H E f c hgd hr => (j_call (ok_cheapest t tb) hgd (hr.mono (by decide)) (takes_of rfl rfl rfl rfl) (by rfl) t.g_cheapest t.F_cheapest.kp t.b_cheapest (ja_cons (j_var (pv 0)) (ja_cons (j_var (pv 6)) ja_nil))))) ja_nil)) (j_bi (cre_repr hgd hu100) (by rfl) t.m_repr (by decide +kernel) (ja_cons (j_tup (ja_cons j_str (ja_cons (j_var (pv 7)) ja_nil))) ja_nil)) (nomark _))) (fun _ _ _ _ _ => (j_var (pv 6)))) (j_lst ja_nil) (nomark _)))))))
theorem ok_law (t : Top K mg) (tb : ∀ p ∈ css t, LamX.TabB base mg p.1 p.2) : FnG P w K mg base (L2.CX P w) 9 t.a_law t.d_law ["script"] (SpG K (tabs t) mg 1 s_law) :=
  fnG_ok t.F_law sc_law fun cdv hcdv A outer s H E hgd hr tk => by
    have hu64 : (CxB P w K mg base N_law "law" (topS 47) t.a_law cdv A outer s H E).A.units + 64 < cLine := by have := hr.un; omega
    exact (js_cons (js_if (jt_w (jw_or (jt_cmp (ope_ne hu64) (j_call (ok_cheapest t tb) hgd (hr.mono (by decide)) tk (by rfl) t.g_cheapest t.F_cheapest.kp t.b_cheapest (ja_cons j_int (ja_cons (j_tup (ja_cons j_int (ja_cons j_int (ja_cons j_int ja_nil)))) ja_nil))) (j_tup (ja_cons (j_tup (ja_cons j_int (ja_cons j_int ja_nil))) (ja_cons j_int (ja_cons (j_tup (ja_cons j_int (ja_cons j_int (ja_cons j_int ja_nil)))) ja_nil)))) (nomark _)) (jw_or1 (jt_cmp (ope_ne hu64) (j_call (ok_cheapest t tb) hgd (hr.mono (by decide)) tk (by rfl) t.g_cheapest t.F_cheapest.kp t.b_cheapest (ja_cons j_int (ja_cons (j_tup (ja_cons j_int ja_nil)) ja_nil))) (j_tup (ja_cons (j_tup (ja_cons j_int (ja_cons j_int ja_nil))) (ja_cons j_int (ja_cons (j_tup (ja_cons j_int ja_nil)) ja_nil)))) (nomark _))))) (js_one (js_ret j_bl)) js_nil)
    (js_cons (js_set (i := 1) sc_law.nd rfl (by first | exact Or.inl rfl | exact Or.inr rfl) (j_call (ok__law_pool t tb) hgd (hr.mono (by decide)) tk (by rfl) t.g__law_pool t.F__law_pool.kp t.b__law_pool (ja_cons (j_var (pv 0)) ja_nil)))
    (js_cons (js_set (i := 2) sc_law.nd rfl (by first | exact Or.inl rfl | exact Or.inr rfl) (j_bin ope_add j_int (j_call (ok__law_draw t tb) hgd (hr.mono (by decide)) tk (by rfl) t.g__law_draw t.F__law_draw.kp t.b__law_draw (ja_cons (j_var (pv 1)) (ja_cons j_int ja_nil)))))
    (js_cons (js_set (i := 3) sc_law.nd rfl (by first | exact Or.inl rfl | exact Or.inr rfl) (j_bin ope_add j_int (j_call (ok__law_draw t tb) hgd (hr.mono (by decide)) tk (by rfl) t.g__law_draw t.F__law_draw.kp t.b__law_draw (ja_cons (j_var (pv 1)) (ja_cons (j_if (jt_w (jw_and (jt_cmp ope_lt (j_var (pv 2)) j_int (nomark _)) (jw_and1 (jt_cmp (ope_eq hu64) (j_call (ok__law_draw t tb) hgd (hr.mono (by decide)) tk (by rfl) t.g__law_draw t.F__law_draw.kp t.b__law_draw (ja_cons (j_var (pv 1)) (ja_cons j_int ja_nil))) j_int (nomark _))))) j_int j_int) ja_nil)))))
    (js_cons (js_set (i := 4) sc_law.nd rfl (by first | exact Or.inl rfl | exact Or.inr rfl) (j_ix ixe (j_lst (ja_cons j_int (ja_cons j_int (ja_cons j_int ja_nil)))) (j_call (ok__law_draw t tb) hgd (hr.mono (by decide)) tk (by rfl) t.g__law_draw t.F__law_draw.kp t.b__law_draw (ja_cons (j_var (pv 1)) (ja_cons j_int ja_nil))) (fun _ _ => rfl)))
    (js_cons (js_set (i := 5) sc_law.nd rfl (by first | exact Or.inl rfl | exact Or.inr rfl) (j_ty cre_tuple (by rfl) t.m_tuple (by decide +kernel) (ja_cons (j_lc0 (own := [("turn", 8)])  rfl sc_law.nd (ji_r1 (by rfl) t.m_range (ja_cons (j_var (pv 2)) ja_nil)) (blkOk_by (own := [("turn", 8)]) (N := N_law) (sc := defScope (topS 47)) (by decide +kernel)) (by decide) (fun _ _ _ _ _ => (jg_name (i := 8) sc_law.nd rfl (by first | exact Or.inl rfl | exact Or.inr rfl))) (fun _ _ _ _ _ => (j_call (ok__law_draw t tb) hgd (hr.mono (by decide)) takes_no (by rfl) t.g__law_draw t.F__law_draw.kp t.b__law_draw (ja_cons (j_var (pv 1)) (ja_cons (j_var (pv 4)) ja_nil))))) ja_nil)))
    (js_cons (js_if (jt_w (jw_or (jt_not (jt_tru (j_call (ok__law_share_right t tb) hgd (hr.mono (by decide)) tk (by rfl) t.g__law_share_right t.F__law_share_right.kp t.b__law_share_right (ja_cons (j_var (pv 3)) (ja_cons (j_var (pv 5)) ja_nil))))) (jw_or1 (jt_not (jt_tru (j_call (ok__law_share_refused t tb) hgd (hr.mono (by decide)) tk (by rfl) t.g__law_share_refused t.F__law_share_refused.kp t.b__law_share_refused (ja_cons (j_var (pv 3)) (ja_cons (j_var (pv 5)) ja_nil)))))))) (js_one (js_ret j_bl)) js_nil)
    (js_cons (js_if (jt_cmp (ope_eq hu64) (j_call (ok__law_draw t tb) hgd (hr.mono (by decide)) tk (by rfl) t.g__law_draw t.F__law_draw.kp t.b__law_draw (ja_cons (j_var (pv 1)) (ja_cons j_int ja_nil))) j_int (nomark _)) (js_cons (js_set (i := 6) sc_law.nd rfl (by first | exact Or.inl rfl | exact Or.inr rfl) (j_ty cre_tuple (by rfl) t.m_tuple (by decide +kernel) (ja_cons (j_lc0 (own := [("turn", 8)])  rfl sc_law.nd (ji_r1 (by rfl) t.m_range (ja_cons (j_bin ope_add j_int (j_call (ok__law_draw t tb) hgd (hr.mono (by decide)) tk (by rfl) t.g__law_draw t.F__law_draw.kp t.b__law_draw (ja_cons (j_var (pv 1)) (ja_cons j_int ja_nil)))) ja_nil)) (blkOk_by (own := [("turn", 8)]) (N := N_law) (sc := defScope (topS 47)) (by decide +kernel)) (by decide) (fun _ _ _ _ _ => (jg_name (i := 8) sc_law.nd rfl (by first | exact Or.inl rfl | exact Or.inr rfl))) (fun _ _ _ _ _ => (j_call (ok__law_draw t tb) hgd (hr.mono (by decide)) takes_no (by rfl) t.g__law_draw t.F__law_draw.kp t.b__law_draw (ja_cons (j_var (pv 1)) (ja_cons (j_var (pv 4)) ja_nil))))) ja_nil)))
    (js_one (js_ret (j_call (ok__law_share_right t tb) hgd (hr.mono (by decide)) tk (by rfl) t.g__law_share_right t.F__law_share_right.kp t.b__law_share_right (ja_cons (j_bin ope_add j_int (j_call (ok__law_draw t tb) hgd (hr.mono (by decide)) tk (by rfl) t.g__law_draw t.F__law_draw.kp t.b__law_draw (ja_cons (j_var (pv 1)) (ja_cons j_int ja_nil)))) (ja_cons (j_var (pv 6)) ja_nil)))))) js_nil)
    (js_cons (js_set (i := 7) sc_law.nd rfl (by first | exact Or.inl rfl | exact Or.inr rfl) (j_ty cre_tuple (by rfl) t.m_tuple (by decide +kernel) (ja_cons (j_lc0 (own := [("turn", 8)])  rfl sc_law.nd (ji_r1 (by rfl) t.m_range (ja_cons j_int ja_nil)) (blkOk_by (own := [("turn", 8)]) (N := N_law) (sc := defScope (topS 47)) (by decide +kernel)) (by decide) (fun _ _ _ _ _ => (jg_name (i := 8) sc_law.nd rfl (by first | exact Or.inl rfl | exact Or.inr rfl))) (fun _ _ _ _ _ => (j_call (ok__law_draw t tb) hgd (hr.mono (by decide)) takes_no (by rfl) t.g__law_draw t.F__law_draw.kp t.b__law_draw (ja_cons (j_var (pv 1)) (ja_cons j_int ja_nil))))) ja_nil)))
    (js_one (js_ret (j_call (ok__law_share_right t tb) hgd (hr.mono (by decide)) tk (by rfl) t.g__law_share_right t.F__law_share_right.kp t.b__law_share_right (ja_cons (j_bin ope_add j_int (j_call (ok__law_draw t tb) hgd (hr.mono (by decide)) tk (by rfl) t.g__law_draw t.F__law_draw.kp t.b__law_draw (ja_cons (j_var (pv 1)) (ja_cons (j_if (jt_cmp (ope_eq hu64) (j_call (ok__law_draw t tb) hgd (hr.mono (by decide)) tk (by rfl) t.g__law_draw t.F__law_draw.kp t.b__law_draw (ja_cons (j_var (pv 1)) (ja_cons j_int ja_nil))) j_int (nomark _)) j_int j_int) ja_nil)))) (ja_cons (j_var (pv 7)) ja_nil))))))))))))))
end
end Gk12

namespace Gk12
/-! shares of cells: the sum over a common multiple beside the fraction -/
/-- sum of twice the weights, each by k and its thickness -/
def cN (k C : Nat) : List (Nat × Nat) → Nat
  | [] => 0
  | (w, t) :: r => w * 2 * C / (k + t) + cN k C r
def fr (k : Nat) : List (Nat × Nat) → Nat × Nat → Nat × Nat
  | [], x => x
  | (w, t) :: r, (p, q) => fr k r (p * (k + t) + 2 * w * q, q * (k + t))
theorem fr_exact (k C : Nat) (hk : 1 ≤ k) : ∀ (L : List (Nat × Nat)) (p q : Nat), (∀ x ∈ L, (k + x.2) ∣ C) → (fr k L (p, q)).1 * C * q = (fr k L (p, q)).2 * (p * C + q * cN k C L)
  | [], p, q, _ => by simp only [fr, cN, Nat.mul_zero, Nat.add_zero]; rw [Nat.mul_comm q]
  | (w, t) :: r, p, q, h => by
    have ih := fr_exact k C hk r (p * (k + t) + 2 * w * q) (q * (k + t)) (fun x hx => h x (by simp [hx]))
    obtain ⟨m, hm⟩ := h (w, t) (by simp)
    simp only at hm
    have h0 : 0 < k + t := by omega
    have e1 : w * 2 * C / (k + t) = w * 2 * m := by
      rw [hm, show w * 2 * ((k + t) * m) = (k + t) * (w * 2 * m) by rw [Nat.mul_left_comm], Nat.mul_div_cancel_left _ h0]
    rw [cN, fr, e1]
    generalize fr k r (p * (k + t) + 2 * w * q, q * (k + t)) = z at *
    generalize cN k C r = S at *
    obtain ⟨a, b⟩ := z
    simp only at ih ⊢
    refine Nat.eq_of_mul_eq_mul_left h0 ?_
    subst hm
    generalize k + t = u at *
    grind
theorem fr_pos (k : Nat) (hk : 1 ≤ k) : ∀ (L : List (Nat × Nat)) (p q : Nat), 0 < q → 0 < (fr k L (p, q)).2
  | [], p, q, h => h
  | (w, t) :: r, p, q, h => by
    rw [fr]
    exact fr_pos k hk r _ _ (Nat.mul_pos h (by omega))
theorem fr_top (k : Nat) (hk : k ≤ 24) : ∀ (L : List (Nat × Nat)) (p q a b : Nat), (∀ x ∈ L, x.1 ≤ 1000 ∧ x.2 ≤ k) → q ≤ a → p ≤ b → (fr k L (p, q)).2 ≤ a * 48 ^ L.length ∧ (fr k L (p, q)).1 ≤ (b + 2000 * a) * 2048 ^ L.length
  | [], p, q, a, b, _, h1, h2 => by simp only [fr, List.length_nil, Nat.pow_zero, Nat.mul_one]; omega
  | (w, t) :: r, p, q, a, b, h, h1, h2 => by
    have hw := h (w, t) (by simp)
    simp only at hw
    have e1 : q * (k + t) ≤ a * 48 := Nat.mul_le_mul h1 (by omega)
    have e2 : p * (k + t) ≤ b * 48 := Nat.mul_le_mul h2 (by omega)
    have e3 : 2 * w * q ≤ 2000 * a := Nat.mul_le_mul (by omega) h1
    have ih := fr_top k hk r (p * (k + t) + 2 * w * q) (q * (k + t)) (a * 48) (b * 48 + 2000 * a) (fun x hx => h x (by simp [hx])) e1 (Nat.add_le_add e2 e3)
    rw [fr]
    refine ⟨?_, ?_⟩
    · rw [List.length_cons, Nat.pow_succ, show a * (48 ^ r.length * 48) = a * 48 * 48 ^ r.length by grind]
      exact ih.1
    · refine Nat.le_trans ih.2 ?_
      rw [List.length_cons, Nat.pow_succ, show (b + 2000 * a) * (2048 ^ r.length * 2048) = (b + 2000 * a) * 2048 * 2048 ^ r.length by grind]
      exact Nat.mul_le_mul_right _ (by omega)
/-- a fraction in lowest terms is one -/
theorem low_same (a b c d : Nat) (hb : 0 < b) (hd : 0 < d) (h : a * d = c * b) : a / Nat.gcd a b = c / Nat.gcd c d ∧ b / Nat.gcd a b = d / Nat.gcd c d := by
  have g1 : 0 < Nat.gcd a b := Nat.gcd_pos_of_pos_right _ hb
  have g2 : 0 < Nat.gcd c d := Nat.gcd_pos_of_pos_right _ hd
  have p1 := Nat.coprime_div_gcd_div_gcd g1
  have p2 := Nat.coprime_div_gcd_div_gcd g2
  obtain ⟨a', ha⟩ := Nat.gcd_dvd_left a b
  obtain ⟨b', hb'⟩ := Nat.gcd_dvd_right a b
  obtain ⟨c', hc⟩ := Nat.gcd_dvd_left c d
  obtain ⟨d', hd'⟩ := Nat.gcd_dvd_right c d
  generalize hg : Nat.gcd a b = g at *
  generalize hh : Nat.gcd c d = e at *
  subst ha hb' hc hd'
  rw [Nat.mul_div_cancel_left _ g1, Nat.mul_div_cancel_left _ g1] at p1 ⊢
  rw [Nat.mul_div_cancel_left _ g2, Nat.mul_div_cancel_left _ g2] at p2 ⊢
  have h2 : a' * d' = c' * b' := by
    refine Nat.eq_of_mul_eq_mul_left (Nat.mul_pos g1 g2) ?_
    have : g * e * (a' * d') = g * a' * (e * d') := by grind
    rw [this, h]
    grind
  have k1 : b' ∣ d' := p1.symm.dvd_of_dvd_mul_left ⟨c', by rw [h2, Nat.mul_comm]⟩
  have k2 : d' ∣ b' := p2.symm.dvd_of_dvd_mul_left ⟨a', by rw [← h2, Nat.mul_comm]⟩
  have k3 := Nat.dvd_antisymm k1 k2
  refine ⟨?_, k3⟩
  have hd0 : 0 < d' := Nat.pos_of_mul_pos_left hd
  rw [k3] at h2
  exact Nat.eq_of_mul_eq_mul_right hd0 h2
theorem lt_same (C p1 q1 s1 p2 q2 s2 : Nat) (hC : 0 < C) (h1 : 0 < q1) (h2 : 0 < q2) (e1 : p1 * C = q1 * s1) (e2 : p2 * C = q2 * s2) : (p1 * q2 < p2 * q1) ↔ s1 < s2 := by
  have a1 : p1 * q2 * C = q1 * q2 * s1 := by grind
  have a2 : p2 * q1 * C = q1 * q2 * s2 := by grind
  rw [← Nat.mul_lt_mul_right (a := C) hC, a1, a2, Nat.mul_lt_mul_left (Nat.mul_pos h1 h2)]
/-- what others are put to -/
def outO (d : Nat) (ws : List Nat) : List Nat := ws.take d ++ ws.drop (d + 1)
def ins (d : Nat) (l : List Int) : List Int := l.take d ++ [0] ++ l.drop d
def bet (lt : Nat × List Int → Nat × List Int → Bool) (x : Nat × List Int) : Option (Nat × List Int) → Option (Nat × List Int)
  | none => some x
  | some y => if lt x y = true then some x else some y
def pk (lt : Nat × List Int → Nat × List Int → Bool) (d : Nat) : List (List Int) → Option (Nat × List Int) → Option (Nat × List Int)
  | [], b => b
  | l :: r, b => pk lt d r (bet lt (d, l) b)
def pks (lt : Nat × List Int → Nat × List Int → Bool) (ls : List (List Int)) : Nat → Nat → Option (Nat × List Int) → Option (Nat × List Int)
  | 0, _, b => b
  | j + 1, d, b => pks lt ls j (d + 1) (pk lt d ls b)
theorem pk_same {lt lt' : Nat × List Int → Nat × List Int → Bool} (P : Nat × List Int → Prop) (h : ∀ x y, P x → P y → lt x y = lt' x y) (d : Nat) : ∀ (ls : List (List Int)) (b : Option (Nat × List Int)), (∀ l ∈ ls, P (d, l)) → (∀ y, b = some y → P y) → pk lt d ls b = pk lt' d ls b ∧ ∀ y, pk lt d ls b = some y → P y
  | [], b, _, hb => ⟨rfl, hb⟩
  | l :: r, b, hl, hb => by
    have h1 := hl l (by simp)
    have key : bet lt (d, l) b = bet lt' (d, l) b ∧ ∀ y, bet lt (d, l) b = some y → P y := by
      cases b with
      | none => exact ⟨rfl, fun y hy => by cases hy; exact h1⟩
      | some y =>
        have h2 := hb y rfl
        refine ⟨by simp only [bet]; rw [h (d, l) y h1 h2], fun z hz => ?_⟩
        simp only [bet] at hz
        split at hz
        · cases hz; exact h1
        · cases hz; exact h2
    have := pk_same P h d r (bet lt (d, l) b) (fun x hx => hl x (by simp [hx])) key.2
    simp only [pk]
    rw [← key.1]
    exact this
theorem pks_same {lt lt' : Nat × List Int → Nat × List Int → Bool} (P : Nat × List Int → Prop) (h : ∀ x y, P x → P y → lt x y = lt' x y) (ls : List (List Int)) : ∀ (j d : Nat) (b : Option (Nat × List Int)), (∀ i, i < d + j → ∀ l ∈ ls, P (i, l)) → (∀ y, b = some y → P y) → pks lt ls j d b = pks lt' ls j d b ∧ ∀ y, pks lt ls j d b = some y → P y
  | 0, d, b, _, hb => ⟨rfl, hb⟩
  | j + 1, d, b, hl, hb => by
    have h1 := pk_same P h d ls b (hl d (by omega)) hb
    have h2 := pks_same P h ls j (d + 1) (pk lt d ls b) (fun i hi => hl i (by omega)) h1.2
    simp only [pks]
    rw [← h1.1]
    exact h2
theorem pk_some (lt : Nat × List Int → Nat × List Int → Bool) (d : Nat) : ∀ (ls : List (List Int)) (y : Nat × List Int), ∃ z, pk lt d ls (some y) = some z
  | [], y => ⟨y, rfl⟩
  | l :: r, y => by
    show ∃ z, pk lt d r (if lt (d, l) y = true then some (d, l) else some y) = some z
    split
    · exact pk_some lt d r _
    · exact pk_some lt d r _
theorem pks_some (lt : Nat × List Int → Nat × List Int → Bool) (ls : List (List Int)) : ∀ (j d : Nat) (y : Nat × List Int), ∃ z, pks lt ls j d (some y) = some z
  | 0, d, y => ⟨y, rfl⟩
  | j + 1, d, y => by
    obtain ⟨z, hz⟩ := pk_some lt d ls y
    rw [pks, hz]
    exact pks_some lt ls j (d + 1) z
theorem pks_start (lt : Nat × List Int → Nat × List Int → Bool) (ls : List (List Int)) (j d : Nat) (hl : ls ≠ []) (hj : 0 < j) : ∃ z, pks lt ls j d none = some z := by
  cases ls with
  | nil => exact absurd rfl hl
  | cons l r =>
    cases j with
    | zero => omega
    | succ j =>
      rw [pks, pk]
      obtain ⟨z, hz⟩ := pk_some lt d r (d, l)
      rw [show bet lt (d, l) none = some (d, l) from rfl, hz]
      exact pks_some lt (l :: r) j (d + 1) z
theorem pks_nil (lt : Nat × List Int → Nat × List Int → Bool) : ∀ j d : Nat, pks lt [] j d none = none
  | 0, _ => rfl
  | j + 1, d => by rw [pks, pk]; exact pks_nil lt j (d + 1)
end Gk12

namespace Gk12
open Mm
theorem pool_ok (ns : List Int) (hl : ns.length ≤ 63) : ∃ st', s__law_pool [.ref 0] [.ro (ns.map D.int)] = .ok (.ref 3) st' ∧ Pst [] st' := by
  cases ns with
  | nil =>
    refine ⟨_, rfl, [], [], [], 0, _, rfl, rfl, by decide, by decide, ?_, ?_, rfl⟩ <;> decide
  | cons n r =>
    have m1 := fun x => fmod_lo x 2147483629 (by decide)
    have m2 := fun x => fmod_hi x 2147483629 (by decide)
    by_cases hn : 0 ≤ n
    · by_cases h2 : 1000000000000000000 ≤ 2 * n <;> simp [s__law_pool, hn, h2, fnS, eV, eC, Mm.e1, Mm.e2, eN, aN, aC, eCall, eTup, eLst, eIf, eCh, eAndT, eOrT, eNotT, bB, bAnd, bOr, bNot, bTru, tru, sSeq, sSet, sEx, sRet, sRetN, sNx, sNo, sBrk, sCt, sIf, sPar, sPar3, sAsg, tgN, tgNil, tgCons, tgTup, Mm.R.bind, Mm.R.of, Mm.R.st, oAdd, oSub, mul_i, oDiv, oMod, oPow, oCmpI, oLt, oLe, oGt, oGe, oIs, oIsN, oEq, oNe, eqF, b64_of, oIx, seqOf, lstOf, cellItems, sStore, eSl, eO, oLen, oInt, oListOf, oTupOf, oMax, oMin, oSum, oGcd, intsOf, oIsi, tyName, oNeg, eM1, eM0, isLst, oApp, oExt, oPopAt, oPop, fin_i, fin_b, fin_n, fin_s, fin_t2, at0, at1, at2, at3, at4, cut1, ix0, ix1, ix2, fin_pool]
      · exact pst_pool _ _ _ _ (by simp at hl; omega) (by omega) (by have := m1 (2 * n * 48271 + 1009); omega) (by have := m2 (2 * n * 48271 + 1009); omega)
      · exact pst_pool _ _ _ _ (by simp at hl; omega) (by omega) (by have := m1 (2 * n * 48271 + 1009); omega) (by have := m2 (2 * n * 48271 + 1009); omega)
    · by_cases h2 : 1000000000000000000 ≤ -1 - 2 * n <;> simp [s__law_pool, hn, h2, fnS, eV, eC, Mm.e1, Mm.e2, eN, aN, aC, eCall, eTup, eLst, eIf, eCh, eAndT, eOrT, eNotT, bB, bAnd, bOr, bNot, bTru, tru, sSeq, sSet, sEx, sRet, sRetN, sNx, sNo, sBrk, sCt, sIf, sPar, sPar3, sAsg, tgN, tgNil, tgCons, tgTup, Mm.R.bind, Mm.R.of, Mm.R.st, oAdd, oSub, mul_i, oDiv, oMod, oPow, oCmpI, oLt, oLe, oGt, oGe, oIs, oIsN, oEq, oNe, eqF, b64_of, oIx, seqOf, lstOf, cellItems, sStore, eSl, eO, oLen, oInt, oListOf, oTupOf, oMax, oMin, oSum, oGcd, intsOf, oIsi, tyName, oNeg, eM1, eM0, isLst, oApp, oExt, oPopAt, oPop, fin_i, fin_b, fin_n, fin_s, fin_t2, at0, at1, at2, at3, at4, cut1, ix0, ix1, ix2, fin_pool]
      · exact pst_pool _ _ _ _ (by simp at hl; omega) (by omega) (by have := m1 ((-1 - 2 * n) * 48271 + 1009); omega) (by have := m2 ((-1 - 2 * n) * 48271 + 1009); omega)
      · exact pst_pool _ _ _ _ (by simp at hl; omega) (by omega) (by have := m1 ((-1 - 2 * n) * 48271 + 1009); omega) (by have := m2 ((-1 - 2 * n) * 48271 + 1009); omega)

theorem draw_ok {rest st : Sto} {many : Int} (hp : Pst rest st) (hr : lowS (4 + rest.length) rest = true) (h1 : 1 ≤ many) (h2 : many < 10000000) : ∃ r st', s__law_draw [.ref 3, .int many] st = .ok (.int r) st' ∧ 0 ≤ r ∧ r < many ∧ Pst rest st' := by
  obtain ⟨xs, sl, ks, a, b, f1, f2, hk, ha, hb, hb2, rfl⟩ := hp
  have hz : many ≠ 0 := by omega
  have hn : many.natAbs < 1073741824 := by omega
  have fin1 : ∀ (ks ks' : List Int) (a b a' b' : Int) (r : Int) (st' : Sto), ks'.length ≤ 100 → 0 ≤ a' → 0 ≤ b' → b' < 4294967296 → 0 ≤ r → r < many → st'.take (4 + rest.length) = pst xs sl ks' a' b' rest → ∃ q st2, fin (pst xs sl ks a b rest) (.int r) st' = .ok (.int q) st2 ∧ 0 ≤ q ∧ q < many ∧ Pst rest st2 :=
    fun ks ks' a b a' b' r st' q0 q1 q2 q3 q4 q5 e => ⟨_, _, fin_draw f1 f2 hr e, q4, q5, _, _, _, _, _, f1, f2, q0, q1, q2, q3, rfl⟩
  have m1 : ∀ x, 0 ≤ Int.fmod x many := fun x => fmod_lo x many (by omega)
  have m2 : ∀ x, Int.fmod x many < many := fun x => fmod_hi x many (by omega)
  have m3 : ∀ x, 0 ≤ Int.fmod x 2147483647 := fun x => fmod_lo x 2147483647 (by decide)
  have m4 : ∀ x, Int.fmod x 2147483647 < 4294967296 := fun x => by have := fmod_hi x 2147483647 (by decide); omega
  have m5 : ∀ x, 0 ≤ Int.fmod x 2147483629 + 3 := fun x => by have := fmod_lo x 2147483629 (by decide); omega
  have m6 : ∀ x, Int.fmod x 2147483629 + 3 < 4294967296 := fun x => by have := fmod_hi x 2147483629 (by decide); omega
  have m7 : ∀ x, 0 ≤ x → 0 ≤ Int.fdiv x many := fun x hx => Int.fdiv_nonneg hx (by omega)
  by_cases h0 : a = 0
  · cases ks with
    | nil =>
      subst h0
      simp [s__law_draw, fnS, eV, eC, Mm.e1, Mm.e2, eN, aN, aC, eCall, eTup, eLst, eIf, eCh, eAndT, eOrT, eNotT, bB, bAnd, bOr, bNot, bTru, tru, sSeq, sSet, sEx, sRet, sRetN, sNx, sNo, sBrk, sCt, sIf, sPar, sPar3, sAsg, tgN, tgNil, tgCons, tgTup, Mm.R.bind, Mm.R.of, Mm.R.st, oAdd, oSub, mul_i, oDiv, oMod, oPow, oCmpI, oLt, oLe, oGt, oGe, oIs, oIsN, oEq, oNe, eqF, b64_of, oIx, seqOf, lstOf, cellItems, sStore, eSl, eO, oLen, oInt, oListOf, oTupOf, oMax, oMin, oSum, oGcd, intsOf, oIsi, tyName, oNeg, eM1, eM0, isLst, oApp, oExt, oPopAt, oPop, fin_i, fin_b, fin_n, fin_s, fin_t2, at0, at1, at2, at3, at4, cut1, ix0, ix1, ix2, pst, eqD_pool0, hz, hn, b64_47]
      exact fin1 [] [] _ _ 0 _ _ _ (by decide) (by omega) (m3 _) (m4 _) (m1 _) (m2 _) (take_a _ _ _ _ _ _)
    | cons n r =>
      subst h0
      have hk2 : r.length ≤ 100 := by simp at hk; omega
      have hk : r.length + 1 ≤ lim := by unfold lim; omega
      by_cases hn0 : 0 ≤ n
      · by_cases h3 : 1000000000000000000 ≤ 2 * n
        · have hp : 0 < 2 * n := by omega
          simp [s__law_draw, fnS, eV, eC, Mm.e1, Mm.e2, eN, aN, aC, eCall, eTup, eLst, eIf, eCh, eAndT, eOrT, eNotT, bB, bAnd, bOr, bNot, bTru, tru, sSeq, sSet, sEx, sRet, sRetN, sNx, sNo, sBrk, sCt, sIf, sPar, sPar3, sAsg, tgN, tgNil, tgCons, tgTup, Mm.R.bind, Mm.R.of, Mm.R.st, oAdd, oSub, mul_i, oDiv, oMod, oPow, oCmpI, oLt, oLe, oGt, oGe, oIs, oIsN, oEq, oNe, eqF, b64_of, oIx, seqOf, lstOf, cellItems, sStore, eSl, eO, oLen, oInt, oListOf, oTupOf, oMax, oMin, oSum, oGcd, intsOf, oIsi, tyName, oNeg, eM1, eM0, isLst, oApp, oExt, oPopAt, oPop, fin_i, fin_b, fin_n, fin_s, fin_t2, at0, at1, at2, at3, at4, cut1, ix0, ix1, ix2, pst, eqD_pool1, hz, hn, b64_47, hn0, h3, hp, hk]
          exact fin1 (n :: r) r _ _ _ _ _ _ hk2 (m7 _ (by omega)) (m5 _) (m6 _) (m1 _) (m2 _) (take_a _ _ _ _ _ _)
        · simp [s__law_draw, fnS, eV, eC, Mm.e1, Mm.e2, eN, aN, aC, eCall, eTup, eLst, eIf, eCh, eAndT, eOrT, eNotT, bB, bAnd, bOr, bNot, bTru, tru, sSeq, sSet, sEx, sRet, sRetN, sNx, sNo, sBrk, sCt, sIf, sPar, sPar3, sAsg, tgN, tgNil, tgCons, tgTup, Mm.R.bind, Mm.R.of, Mm.R.st, oAdd, oSub, mul_i, oDiv, oMod, oPow, oCmpI, oLt, oLe, oGt, oGe, oIs, oIsN, oEq, oNe, eqF, b64_of, oIx, seqOf, lstOf, cellItems, sStore, eSl, eO, oLen, oInt, oListOf, oTupOf, oMax, oMin, oSum, oGcd, intsOf, oIsi, tyName, oNeg, eM1, eM0, isLst, oApp, oExt, oPopAt, oPop, fin_i, fin_b, fin_n, fin_s, fin_t2, at0, at1, at2, at3, at4, cut1, ix0, ix1, ix2, pst, eqD_pool1, hz, hn, b64_47, hn0, h3, hk]
          exact fin1 (n :: r) r _ _ 0 _ _ _ hk2 (by omega) (m3 _) (m4 _) (m1 _) (m2 _) (take_a _ _ _ _ _ _)
      · by_cases h3 : 1000000000000000000 ≤ -1 - 2 * n
        · have hp : 2 * n < -1 := by omega
          simp [s__law_draw, fnS, eV, eC, Mm.e1, Mm.e2, eN, aN, aC, eCall, eTup, eLst, eIf, eCh, eAndT, eOrT, eNotT, bB, bAnd, bOr, bNot, bTru, tru, sSeq, sSet, sEx, sRet, sRetN, sNx, sNo, sBrk, sCt, sIf, sPar, sPar3, sAsg, tgN, tgNil, tgCons, tgTup, Mm.R.bind, Mm.R.of, Mm.R.st, oAdd, oSub, mul_i, oDiv, oMod, oPow, oCmpI, oLt, oLe, oGt, oGe, oIs, oIsN, oEq, oNe, eqF, b64_of, oIx, seqOf, lstOf, cellItems, sStore, eSl, eO, oLen, oInt, oListOf, oTupOf, oMax, oMin, oSum, oGcd, intsOf, oIsi, tyName, oNeg, eM1, eM0, isLst, oApp, oExt, oPopAt, oPop, fin_i, fin_b, fin_n, fin_s, fin_t2, at0, at1, at2, at3, at4, cut1, ix0, ix1, ix2, pst, eqD_pool1, hz, hn, b64_47, hn0, h3, hp, hk]
          exact fin1 (n :: r) r _ _ _ _ _ _ hk2 (m7 _ (by omega)) (m5 _) (m6 _) (m1 _) (m2 _) (take_a _ _ _ _ _ _)
        · simp [s__law_draw, fnS, eV, eC, Mm.e1, Mm.e2, eN, aN, aC, eCall, eTup, eLst, eIf, eCh, eAndT, eOrT, eNotT, bB, bAnd, bOr, bNot, bTru, tru, sSeq, sSet, sEx, sRet, sRetN, sNx, sNo, sBrk, sCt, sIf, sPar, sPar3, sAsg, tgN, tgNil, tgCons, tgTup, Mm.R.bind, Mm.R.of, Mm.R.st, oAdd, oSub, mul_i, oDiv, oMod, oPow, oCmpI, oLt, oLe, oGt, oGe, oIs, oIsN, oEq, oNe, eqF, b64_of, oIx, seqOf, lstOf, cellItems, sStore, eSl, eO, oLen, oInt, oListOf, oTupOf, oMax, oMin, oSum, oGcd, intsOf, oIsi, tyName, oNeg, eM1, eM0, isLst, oApp, oExt, oPopAt, oPop, fin_i, fin_b, fin_n, fin_s, fin_t2, at0, at1, at2, at3, at4, cut1, ix0, ix1, ix2, pst, eqD_pool1, hz, hn, b64_47, hn0, h3, hk]
          exact fin1 (n :: r) r _ _ 0 _ _ _ hk2 (by omega) (m3 _) (m4 _) (m1 _) (m2 _) (take_a _ _ _ _ _ _)
  · have hp : 0 < a := by omega
    simp [s__law_draw, fnS, eV, eC, Mm.e1, Mm.e2, eN, aN, aC, eCall, eTup, eLst, eIf, eCh, eAndT, eOrT, eNotT, bB, bAnd, bOr, bNot, bTru, tru, sSeq, sSet, sEx, sRet, sRetN, sNx, sNo, sBrk, sCt, sIf, sPar, sPar3, sAsg, tgN, tgNil, tgCons, tgTup, Mm.R.bind, Mm.R.of, Mm.R.st, oAdd, oSub, mul_i, oDiv, oMod, oPow, oCmpI, oLt, oLe, oGt, oGe, oIs, oIsN, oEq, oNe, eqF, b64_of, oIx, seqOf, lstOf, cellItems, sStore, eSl, eO, oLen, oInt, oListOf, oTupOf, oMax, oMin, oSum, oGcd, intsOf, oIsi, tyName, oNeg, eM1, eM0, isLst, oApp, oExt, oPopAt, oPop, fin_i, fin_b, fin_n, fin_s, fin_t2, at0, at1, at2, at3, at4, cut1, ix0, ix1, ix2, pst, hz, hn, b64_47, hp, h0]
    exact fin1 ks ks _ _ _ _ _ _ hk (m7 _ (by omega)) hb hb2 (m1 _) (m2 _) (take_b _ _ _ _ _)

theorem is_number_int (i : Int) (st : Sto) : s_is_number [.int i] st = .ok (.bl true) st := by
  simp [s_is_number, fnS, eV, eC, Mm.e1, Mm.e2, eN, aN, aC, eCall, eTup, eLst, eIf, eCh, eAndT, eOrT, eNotT, bB, bAnd, bOr, bNot, bTru, tru, sSeq, sSet, sEx, sRet, sRetN, sNx, sNo, sBrk, sCt, sIf, sPar, sPar3, sAsg, tgN, tgNil, tgCons, tgTup, Mm.R.bind, Mm.R.of, Mm.R.st, oAdd, oSub, mul_i, oDiv, oMod, oPow, oCmpI, oLt, oLe, oGt, oGe, oIs, oIsN, oEq, oNe, eqF, b64_of, oIx, seqOf, lstOf, cellItems, sStore, eSl, eO, oLen, oInt, oListOf, oTupOf, oMax, oMin, oSum, oGcd, intsOf, oIsi, tyName, oNeg, eM1, eM0, isLst, oApp, oExt, oPopAt, oPop, fin_i, fin_b, fin_n, fin_s, fin_t2, at0, at1, at2, at3, at4, cut1, ix0, ix1, ix2, kit_int_int, kit_int_bool]
/-! any value that is no list: numbers, bounds, the first bad item -/
def isI : D → Bool
  | .int _ => true
  | _ => false
def isRf : D → Bool
  | .ref _ => true
  | _ => false
def inB (d : D) (a b : Int) : Bool := match d with
  | .int i => decide (a ≤ i) && decide (i ≤ b)
  | _ => false
theorem is_number_any (d : D) (h : isRf d = false) (st : Sto) : s_is_number [d] st = .ok (.bl (isI d)) st := by
  cases d with
  | ref i => cases h
  | non => simp [s_is_number, fnS, eV, eC, Mm.e1, Mm.e2, eN, aN, aC, eCall, eTup, eLst, eIf, eCh, eAndT, eOrT, eNotT, bB, bAnd, bOr, bNot, bTru, tru, sSeq, sSet, sEx, sRet, sRetN, sNx, sNo, sBrk, sCt, sIf, sPar, sPar3, sAsg, tgN, tgNil, tgCons, tgTup, Mm.R.bind, Mm.R.of, Mm.R.st, oAdd, oSub, mul_i, oDiv, oMod, oPow, oCmpI, oLt, oLe, oGt, oGe, oIs, oIsN, oEq, oNe, eqF, b64_of, oIx, seqOf, lstOf, cellItems, sStore, eSl, eO, oLen, oInt, oListOf, oTupOf, oMax, oMin, oSum, oGcd, intsOf, oIsi, tyName, oNeg, eM1, eM0, isLst, oApp, oExt, oPopAt, oPop, fin_i, fin_b, fin_n, fin_s, fin_t2, at0, at1, at2, at3, at4, cut1, ix0, ix1, ix2, kit_non_int, isI]
  | bl b => simp [s_is_number, fnS, eV, eC, Mm.e1, Mm.e2, eN, aN, aC, eCall, eTup, eLst, eIf, eCh, eAndT, eOrT, eNotT, bB, bAnd, bOr, bNot, bTru, tru, sSeq, sSet, sEx, sRet, sRetN, sNx, sNo, sBrk, sCt, sIf, sPar, sPar3, sAsg, tgN, tgNil, tgCons, tgTup, Mm.R.bind, Mm.R.of, Mm.R.st, oAdd, oSub, mul_i, oDiv, oMod, oPow, oCmpI, oLt, oLe, oGt, oGe, oIs, oIsN, oEq, oNe, eqF, b64_of, oIx, seqOf, lstOf, cellItems, sStore, eSl, eO, oLen, oInt, oListOf, oTupOf, oMax, oMin, oSum, oGcd, intsOf, oIsi, tyName, oNeg, eM1, eM0, isLst, oApp, oExt, oPopAt, oPop, fin_i, fin_b, fin_n, fin_s, fin_t2, at0, at1, at2, at3, at4, cut1, ix0, ix1, ix2, kit_bool_int, kit_bool_bool, isI]
  | int i => simp [s_is_number, fnS, eV, eC, Mm.e1, Mm.e2, eN, aN, aC, eCall, eTup, eLst, eIf, eCh, eAndT, eOrT, eNotT, bB, bAnd, bOr, bNot, bTru, tru, sSeq, sSet, sEx, sRet, sRetN, sNx, sNo, sBrk, sCt, sIf, sPar, sPar3, sAsg, tgN, tgNil, tgCons, tgTup, Mm.R.bind, Mm.R.of, Mm.R.st, oAdd, oSub, mul_i, oDiv, oMod, oPow, oCmpI, oLt, oLe, oGt, oGe, oIs, oIsN, oEq, oNe, eqF, b64_of, oIx, seqOf, lstOf, cellItems, sStore, eSl, eO, oLen, oInt, oListOf, oTupOf, oMax, oMin, oSum, oGcd, intsOf, oIsi, tyName, oNeg, eM1, eM0, isLst, oApp, oExt, oPopAt, oPop, fin_i, fin_b, fin_n, fin_s, fin_t2, at0, at1, at2, at3, at4, cut1, ix0, ix1, ix2, kit_int_int, kit_int_bool, isI]
  | str x => simp [s_is_number, fnS, eV, eC, Mm.e1, Mm.e2, eN, aN, aC, eCall, eTup, eLst, eIf, eCh, eAndT, eOrT, eNotT, bB, bAnd, bOr, bNot, bTru, tru, sSeq, sSet, sEx, sRet, sRetN, sNx, sNo, sBrk, sCt, sIf, sPar, sPar3, sAsg, tgN, tgNil, tgCons, tgTup, Mm.R.bind, Mm.R.of, Mm.R.st, oAdd, oSub, mul_i, oDiv, oMod, oPow, oCmpI, oLt, oLe, oGt, oGe, oIs, oIsN, oEq, oNe, eqF, b64_of, oIx, seqOf, lstOf, cellItems, sStore, eSl, eO, oLen, oInt, oListOf, oTupOf, oMax, oMin, oSum, oGcd, intsOf, oIsi, tyName, oNeg, eM1, eM0, isLst, oApp, oExt, oPopAt, oPop, fin_i, fin_b, fin_n, fin_s, fin_t2, at0, at1, at2, at3, at4, cut1, ix0, ix1, ix2, kit_str_int, isI]
  | tup xs => simp [s_is_number, fnS, eV, eC, Mm.e1, Mm.e2, eN, aN, aC, eCall, eTup, eLst, eIf, eCh, eAndT, eOrT, eNotT, bB, bAnd, bOr, bNot, bTru, tru, sSeq, sSet, sEx, sRet, sRetN, sNx, sNo, sBrk, sCt, sIf, sPar, sPar3, sAsg, tgN, tgNil, tgCons, tgTup, Mm.R.bind, Mm.R.of, Mm.R.st, oAdd, oSub, mul_i, oDiv, oMod, oPow, oCmpI, oLt, oLe, oGt, oGe, oIs, oIsN, oEq, oNe, eqF, b64_of, oIx, seqOf, lstOf, cellItems, sStore, eSl, eO, oLen, oInt, oListOf, oTupOf, oMax, oMin, oSum, oGcd, intsOf, oIsi, tyName, oNeg, eM1, eM0, isLst, oApp, oExt, oPopAt, oPop, fin_i, fin_b, fin_n, fin_s, fin_t2, at0, at1, at2, at3, at4, cut1, ix0, ix1, ix2, kit_tup_int, isI]
theorem is_within_any (d : D) (a b : Int) (h : isRf d = false) (st : Sto) : s_is_within [d, .int a, .int b] st = .ok (.bl (inB d a b)) st := by
  have hn := is_number_any d h st
  cases d with
  | ref i => cases h
  | int i => by_cases h : a ≤ i <;> simp [s_is_within, hn, fnS, eV, eC, Mm.e1, Mm.e2, eN, aN, aC, eCall, eTup, eLst, eIf, eCh, eAndT, eOrT, eNotT, bB, bAnd, bOr, bNot, bTru, tru, sSeq, sSet, sEx, sRet, sRetN, sNx, sNo, sBrk, sCt, sIf, sPar, sPar3, sAsg, tgN, tgNil, tgCons, tgTup, Mm.R.bind, Mm.R.of, Mm.R.st, oAdd, oSub, mul_i, oDiv, oMod, oPow, oCmpI, oLt, oLe, oGt, oGe, oIs, oIsN, oEq, oNe, eqF, b64_of, oIx, seqOf, lstOf, cellItems, sStore, eSl, eO, oLen, oInt, oListOf, oTupOf, oMax, oMin, oSum, oGcd, intsOf, oIsi, tyName, oNeg, eM1, eM0, isLst, oApp, oExt, oPopAt, oPop, fin_i, fin_b, fin_n, fin_s, fin_t2, at0, at1, at2, at3, at4, cut1, ix0, ix1, ix2, isI, inB, h]
  | non => simp [s_is_within, hn, fnS, eV, eC, Mm.e1, Mm.e2, eN, aN, aC, eCall, eTup, eLst, eIf, eCh, eAndT, eOrT, eNotT, bB, bAnd, bOr, bNot, bTru, tru, sSeq, sSet, sEx, sRet, sRetN, sNx, sNo, sBrk, sCt, sIf, sPar, sPar3, sAsg, tgN, tgNil, tgCons, tgTup, Mm.R.bind, Mm.R.of, Mm.R.st, oAdd, oSub, mul_i, oDiv, oMod, oPow, oCmpI, oLt, oLe, oGt, oGe, oIs, oIsN, oEq, oNe, eqF, b64_of, oIx, seqOf, lstOf, cellItems, sStore, eSl, eO, oLen, oInt, oListOf, oTupOf, oMax, oMin, oSum, oGcd, intsOf, oIsi, tyName, oNeg, eM1, eM0, isLst, oApp, oExt, oPopAt, oPop, fin_i, fin_b, fin_n, fin_s, fin_t2, at0, at1, at2, at3, at4, cut1, ix0, ix1, ix2, isI, inB]
  | bl b => simp [s_is_within, hn, fnS, eV, eC, Mm.e1, Mm.e2, eN, aN, aC, eCall, eTup, eLst, eIf, eCh, eAndT, eOrT, eNotT, bB, bAnd, bOr, bNot, bTru, tru, sSeq, sSet, sEx, sRet, sRetN, sNx, sNo, sBrk, sCt, sIf, sPar, sPar3, sAsg, tgN, tgNil, tgCons, tgTup, Mm.R.bind, Mm.R.of, Mm.R.st, oAdd, oSub, mul_i, oDiv, oMod, oPow, oCmpI, oLt, oLe, oGt, oGe, oIs, oIsN, oEq, oNe, eqF, b64_of, oIx, seqOf, lstOf, cellItems, sStore, eSl, eO, oLen, oInt, oListOf, oTupOf, oMax, oMin, oSum, oGcd, intsOf, oIsi, tyName, oNeg, eM1, eM0, isLst, oApp, oExt, oPopAt, oPop, fin_i, fin_b, fin_n, fin_s, fin_t2, at0, at1, at2, at3, at4, cut1, ix0, ix1, ix2, isI, inB]
  | str x => simp [s_is_within, hn, fnS, eV, eC, Mm.e1, Mm.e2, eN, aN, aC, eCall, eTup, eLst, eIf, eCh, eAndT, eOrT, eNotT, bB, bAnd, bOr, bNot, bTru, tru, sSeq, sSet, sEx, sRet, sRetN, sNx, sNo, sBrk, sCt, sIf, sPar, sPar3, sAsg, tgN, tgNil, tgCons, tgTup, Mm.R.bind, Mm.R.of, Mm.R.st, oAdd, oSub, mul_i, oDiv, oMod, oPow, oCmpI, oLt, oLe, oGt, oGe, oIs, oIsN, oEq, oNe, eqF, b64_of, oIx, seqOf, lstOf, cellItems, sStore, eSl, eO, oLen, oInt, oListOf, oTupOf, oMax, oMin, oSum, oGcd, intsOf, oIsi, tyName, oNeg, eM1, eM0, isLst, oApp, oExt, oPopAt, oPop, fin_i, fin_b, fin_n, fin_s, fin_t2, at0, at1, at2, at3, at4, cut1, ix0, ix1, ix2, isI, inB]
  | tup xs => simp [s_is_within, hn, fnS, eV, eC, Mm.e1, Mm.e2, eN, aN, aC, eCall, eTup, eLst, eIf, eCh, eAndT, eOrT, eNotT, bB, bAnd, bOr, bNot, bTru, tru, sSeq, sSet, sEx, sRet, sRetN, sNx, sNo, sBrk, sCt, sIf, sPar, sPar3, sAsg, tgN, tgNil, tgCons, tgTup, Mm.R.bind, Mm.R.of, Mm.R.st, oAdd, oSub, mul_i, oDiv, oMod, oPow, oCmpI, oLt, oLe, oGt, oGe, oIs, oIsN, oEq, oNe, eqF, b64_of, oIx, seqOf, lstOf, cellItems, sStore, eSl, eO, oLen, oInt, oListOf, oTupOf, oMax, oMin, oSum, oGcd, intsOf, oIsi, tyName, oNeg, eM1, eM0, isLst, oApp, oExt, oPopAt, oPop, fin_i, fin_b, fin_n, fin_s, fin_t2, at0, at1, at2, at3, at4, cut1, ix0, ix1, ix2, isI, inB]
/-- the first item that is no number within the bounds -/
def badAt (lo hi : Int) : List D → Nat → Option Nat
  | [], _ => none
  | d :: r, i => if inB d lo hi = true then badAt lo hi r (i + 1) else some i
def optD : Option Nat → D
  | none => .non
  | some i => .int (i : Nat)
theorem wrong_any (xs : List D) (a b lo hi : Int) (st : Sto) (h1 : a ≤ xs.length) (h2 : xs.length ≤ b) (h : ∀ x ∈ xs, isRf x = false) : s_wrong_at [.tup xs, .int a, .int b, .int lo, .int hi] st = .ok (optD (badAt lo hi xs 0)) st := by
  have key : ∀ (ns : List D) (i : Nat) (e : Mm.Env), (∀ x ∈ ns, isRf x = false) → e.length = 7 → e[3]? = some (some (.int lo)) → e[4]? = some (some (.int hi)) →
      (match badAt lo hi ns i with
        | none => ∃ e', forL (fun _ => true) (tgTup (tgCons (tgN 5) (tgCons (tgN 6) tgNil))) L1_wrong_at (enumD i ns) e st = .nx e' st
        | some j => forL (fun _ => true) (tgTup (tgCons (tgN 5) (tgCons (tgN 6) tgNil))) L1_wrong_at (enumD i ns) e st = .ret (.int (j : Nat)) st) := by
    intro ns
    induction ns with
    | nil => intro i e _ _ _ _; exact ⟨e, by simp [forL, enumD]⟩
    | cons x r ih =>
      intro i e hx he h3 h4
      have h5 := is_within_any x lo hi (hx x (by simp)) st
      have h6 : 6 < e.length := by omega
      have h7 : 5 < e.length := by omega
      by_cases hb : inB x lo hi = true
      · have e1 : badAt lo hi (x :: r) i = badAt lo hi r (i + 1) := by simp [badAt, hb]
        rw [e1]
        have := ih (i + 1) ((e.set 5 (some (.int (i : Nat)))).set 6 (some x)) (fun y hy => hx y (by simp [hy])) (by simp [he]) (by simp [h3]) (by simp [h4])
        simp [forL, enumD, L1_wrong_at, fnS, eV, eC, Mm.e1, Mm.e2, eN, aN, aC, eCall, eTup, eLst, eIf, eCh, eAndT, eOrT, eNotT, bB, bAnd, bOr, bNot, bTru, tru, sSeq, sSet, sEx, sRet, sRetN, sNx, sNo, sBrk, sCt, sIf, sPar, sPar3, sAsg, tgN, tgNil, tgCons, tgTup, Mm.R.bind, Mm.R.of, Mm.R.st, oAdd, oSub, mul_i, oDiv, oMod, oPow, oCmpI, oLt, oLe, oGt, oGe, oIs, oIsN, oEq, oNe, eqF, b64_of, oIx, seqOf, lstOf, cellItems, sStore, eSl, eO, oLen, oInt, oListOf, oTupOf, oMax, oMin, oSum, oGcd, intsOf, oIsi, tyName, oNeg, eM1, eM0, isLst, oApp, oExt, oPopAt, oPop, fin_i, fin_b, fin_n, fin_s, fin_t2, at0, at1, at2, at3, at4, cut1, ix0, ix1, ix2, h3, h4, h5, h6, h7, hb]
        exact this
      · have hb' : inB x lo hi = false := by simpa using hb
        have e1 : badAt lo hi (x :: r) i = some i := by simp [badAt, hb']
        rw [e1]
        simp [forL, enumD, L1_wrong_at, fnS, eV, eC, Mm.e1, Mm.e2, eN, aN, aC, eCall, eTup, eLst, eIf, eCh, eAndT, eOrT, eNotT, bB, bAnd, bOr, bNot, bTru, tru, sSeq, sSet, sEx, sRet, sRetN, sNx, sNo, sBrk, sCt, sIf, sPar, sPar3, sAsg, tgN, tgNil, tgCons, tgTup, Mm.R.bind, Mm.R.of, Mm.R.st, oAdd, oSub, mul_i, oDiv, oMod, oPow, oCmpI, oLt, oLe, oGt, oGe, oIs, oIsN, oEq, oNe, eqF, b64_of, oIx, seqOf, lstOf, cellItems, sStore, eSl, eO, oLen, oInt, oListOf, oTupOf, oMax, oMin, oSum, oGcd, intsOf, oIsi, tyName, oNeg, eM1, eM0, isLst, oApp, oExt, oPopAt, oPop, fin_i, fin_b, fin_n, fin_s, fin_t2, at0, at1, at2, at3, at4, cut1, ix0, ix1, ix2, h3, h4, h5, h6, h7, hb']
  have hk := key xs 0 [some (.tup xs), some (.int a), some (.int b), some (.int lo), some (.int hi), none, none] h rfl rfl rfl
  cases hw : badAt lo hi xs 0 with
  | none =>
    rw [hw] at hk
    obtain ⟨e', he'⟩ := hk
    simp [s_wrong_at, fnS, eV, eC, Mm.e1, Mm.e2, eN, aN, aC, eCall, eTup, eLst, eIf, eCh, eAndT, eOrT, eNotT, bB, bAnd, bOr, bNot, bTru, tru, sSeq, sSet, sEx, sRet, sRetN, sNx, sNo, sBrk, sCt, sIf, sPar, sPar3, sAsg, tgN, tgNil, tgCons, tgTup, Mm.R.bind, Mm.R.of, Mm.R.st, oAdd, oSub, mul_i, oDiv, oMod, oPow, oCmpI, oLt, oLe, oGt, oGe, oIs, oIsN, oEq, oNe, eqF, b64_of, oIx, seqOf, lstOf, cellItems, sStore, eSl, eO, oLen, oInt, oListOf, oTupOf, oMax, oMin, oSum, oGcd, intsOf, oIsi, tyName, oNeg, eM1, eM0, isLst, oApp, oExt, oPopAt, oPop, fin_i, fin_b, fin_n, fin_s, fin_t2, at0, at1, at2, at3, at4, cut1, ix0, ix1, ix2, sFor, iEn, kit_tup_tup, h1, h2, he', optD]
  | some j =>
    rw [hw] at hk
    simp only at hk
    simp [s_wrong_at, fnS, eV, eC, Mm.e1, Mm.e2, eN, aN, aC, eCall, eTup, eLst, eIf, eCh, eAndT, eOrT, eNotT, bB, bAnd, bOr, bNot, bTru, tru, sSeq, sSet, sEx, sRet, sRetN, sNx, sNo, sBrk, sCt, sIf, sPar, sPar3, sAsg, tgN, tgNil, tgCons, tgTup, Mm.R.bind, Mm.R.of, Mm.R.st, oAdd, oSub, mul_i, oDiv, oMod, oPow, oCmpI, oLt, oLe, oGt, oGe, oIs, oIsN, oEq, oNe, eqF, b64_of, oIx, seqOf, lstOf, cellItems, sStore, eSl, eO, oLen, oInt, oListOf, oTupOf, oMax, oMin, oSum, oGcd, intsOf, oIsi, tyName, oNeg, eM1, eM0, isLst, oApp, oExt, oPopAt, oPop, fin_i, fin_b, fin_n, fin_s, fin_t2, at0, at1, at2, at3, at4, cut1, ix0, ix1, ix2, sFor, iEn, kit_tup_tup, h1, h2, hk, optD]
theorem wrong_len (xs : List D) (a b lo hi : Int) (st : Sto) (h : ¬ (a ≤ xs.length ∧ xs.length ≤ b)) : s_wrong_at [.tup xs, .int a, .int b, .int lo, .int hi] st = .ok (.int (-1)) st := by
  by_cases h1 : a ≤ (xs.length : Int)
  · have h2 : ¬ (xs.length : Int) ≤ b := fun q => h ⟨h1, q⟩
    simp [s_wrong_at, fnS, eV, eC, Mm.e1, Mm.e2, eN, aN, aC, eCall, eTup, eLst, eIf, eCh, eAndT, eOrT, eNotT, bB, bAnd, bOr, bNot, bTru, tru, sSeq, sSet, sEx, sRet, sRetN, sNx, sNo, sBrk, sCt, sIf, sPar, sPar3, sAsg, tgN, tgNil, tgCons, tgTup, Mm.R.bind, Mm.R.of, Mm.R.st, oAdd, oSub, mul_i, oDiv, oMod, oPow, oCmpI, oLt, oLe, oGt, oGe, oIs, oIsN, oEq, oNe, eqF, b64_of, oIx, seqOf, lstOf, cellItems, sStore, eSl, eO, oLen, oInt, oListOf, oTupOf, oMax, oMin, oSum, oGcd, intsOf, oIsi, tyName, oNeg, eM1, eM0, isLst, oApp, oExt, oPopAt, oPop, fin_i, fin_b, fin_n, fin_s, fin_t2, at0, at1, at2, at3, at4, cut1, ix0, ix1, ix2, kit_tup_tup, h1, h2]
  · simp [s_wrong_at, fnS, eV, eC, Mm.e1, Mm.e2, eN, aN, aC, eCall, eTup, eLst, eIf, eCh, eAndT, eOrT, eNotT, bB, bAnd, bOr, bNot, bTru, tru, sSeq, sSet, sEx, sRet, sRetN, sNx, sNo, sBrk, sCt, sIf, sPar, sPar3, sAsg, tgN, tgNil, tgCons, tgTup, Mm.R.bind, Mm.R.of, Mm.R.st, oAdd, oSub, mul_i, oDiv, oMod, oPow, oCmpI, oLt, oLe, oGt, oGe, oIs, oIsN, oEq, oNe, eqF, b64_of, oIx, seqOf, lstOf, cellItems, sStore, eSl, eO, oLen, oInt, oListOf, oTupOf, oMax, oMin, oSum, oGcd, intsOf, oIsi, tyName, oNeg, eM1, eM0, isLst, oApp, oExt, oPopAt, oPop, fin_i, fin_b, fin_n, fin_s, fin_t2, at0, at1, at2, at3, at4, cut1, ix0, ix1, ix2, kit_tup_tup, h1]

theorem made_k_any (d : D) (h : isRf d = false) (st : Sto) : s_made_k [d] st = if inB d 1 60 = true then .ok d st else .ex ⟨"BadK", .int 0⟩ st := by
  have hw := is_within_any d 1 60 h st
  by_cases hb : inB d 1 60 = true
  · rw [if_pos hb]
    have hf : fin st d st = .ok d st := by
      refine fin_same ?_
      cases d with
      | int i => rfl
      | ref i => cases h
      | non => cases hb
      | bl b => cases hb
      | str x => cases hb
      | tup xs => cases hb
    simp [s_made_k, hw, hb, fnS, eV, eC, Mm.e1, Mm.e2, eN, aN, aC, eCall, eTup, eLst, eIf, eCh, eAndT, eOrT, eNotT, bB, bAnd, bOr, bNot, bTru, tru, sSeq, sSet, sEx, sRet, sRetN, sNx, sNo, sBrk, sCt, sIf, sPar, sPar3, sAsg, tgN, tgNil, tgCons, tgTup, Mm.R.bind, Mm.R.of, Mm.R.st, oAdd, oSub, mul_i, oDiv, oMod, oPow, oCmpI, oLt, oLe, oGt, oGe, oIs, oIsN, oEq, oNe, eqF, b64_of, oIx, seqOf, lstOf, cellItems, sStore, eSl, eO, oLen, oInt, oListOf, oTupOf, oMax, oMin, oSum, oGcd, intsOf, oIsi, tyName, oNeg, eM1, eM0, isLst, oApp, oExt, oPopAt, oPop, fin_i, fin_b, fin_n, fin_s, fin_t2, at0, at1, at2, at3, at4, cut1, ix0, ix1, ix2, hf]
  · rw [if_neg hb]
    have hb' : inB d 1 60 = false := by simpa using hb
    simp [s_made_k, hw, hb', fnS, eV, eC, Mm.e1, Mm.e2, eN, aN, aC, eCall, eTup, eLst, eIf, eCh, eAndT, eOrT, eNotT, bB, bAnd, bOr, bNot, bTru, tru, sSeq, sSet, sEx, sRet, sRetN, sNx, sNo, sBrk, sCt, sIf, sPar, sPar3, sAsg, tgN, tgNil, tgCons, tgTup, Mm.R.bind, Mm.R.of, Mm.R.st, oAdd, oSub, mul_i, oDiv, oMod, oPow, oCmpI, oLt, oLe, oGt, oGe, oIs, oIsN, oEq, oNe, eqF, b64_of, oIx, seqOf, lstOf, cellItems, sStore, eSl, eO, oLen, oInt, oListOf, oTupOf, oMax, oMin, oSum, oGcd, intsOf, oIsi, tyName, oNeg, eM1, eM0, isLst, oApp, oExt, oPopAt, oPop, fin_i, fin_b, fin_n, fin_s, fin_t2, at0, at1, at2, at3, at4, cut1, ix0, ix1, ix2, sRaise]
theorem made_k_int (k : Int) (st : Sto) (h : 1 ≤ k) (h2 : k ≤ 60) : s_made_k [.int k] st = .ok (.int k) st := by
  have h3 := made_k_any (.int k) rfl st
  simpa only [inB, h, h2, decide_true, Bool.and_self, if_true] using h3

theorem made_k_bad (d : D) (h : isRf d = false) (h2 : inB d 1 60 = false) (st : Sto) : s_made_k [d] st = .ex ⟨"BadK", .int 0⟩ st := by
  rw [made_k_any d h st, if_neg (by rw [h2]; exact Bool.false_ne_true)]

theorem intsOf_mapT : ∀ ns : List Int, intsOf (ns.map D.int) = some ns
  | [] => rfl
  | n :: r => by simp [intsOf, intsOf_mapT r]
theorem badAt_ints (lo hi : Int) : ∀ (ns : List Int) (i : Nat), (∀ x ∈ ns, lo ≤ x ∧ x ≤ hi) → badAt lo hi (ns.map D.int) i = none
  | [], _, _ => rfl
  | n :: r, i, h => by
    have h1 := h n (by simp)
    simp [badAt, inB, h1, badAt_ints lo hi r (i + 1) (fun x hx => h x (by simp [hx]))]
theorem noRf_ints (ns : List Int) : ∀ x ∈ ns.map D.int, isRf x = false := by
  intro x hx
  obtain ⟨n, _, rfl⟩ := List.mem_map.mp hx
  rfl

def noK : List D := [.int 0, .int (-1), .int 61, .bl true, .bl false, .non, .str "3", .tup [.int 3], .int 100000000000000000000]
theorem no_k_ok (st : Sto) : s__law_kind_no_k [] st = .ok (.ref st.length) (st ++ [.lst noK]) := by
  refine fn_list (r := []) rfl ?_
  simp [fnS, eV, eC, Mm.e1, Mm.e2, eN, aN, aC, eCall, eTup, eLst, eIf, eCh, eAndT, eOrT, eNotT, bB, bAnd, bOr, bNot, bTru, tru, sSeq, sSet, sEx, sRet, sRetN, sNx, sNo, sBrk, sCt, sIf, sPar, sPar3, sAsg, tgN, tgNil, tgCons, tgTup, Mm.R.bind, Mm.R.of, Mm.R.st, oAdd, oSub, mul_i, oDiv, oMod, oPow, oCmpI, oLt, oLe, oGt, oGe, oIs, oIsN, oEq, oNe, eqF, b64_of, oIx, seqOf, lstOf, cellItems, sStore, eSl, eO, oLen, oInt, oListOf, oTupOf, oMax, oMin, oSum, oGcd, intsOf, oIsi, tyName, oNeg, eM1, eM0, isLst, oApp, oExt, oPopAt, oPop, fin_i, fin_b, fin_n, fin_s, fin_t2, at0, at1, at2, at3, at4, cut1, ix0, ix1, ix2, noK]
theorem noK_bad : ∀ d ∈ noK, isRf d = false ∧ inB d 1 60 = false := by
  intro d hd
  simp only [noK, List.mem_cons, List.not_mem_nil, or_false] at hd
  rcases hd with rfl | rfl | rfl | rfl | rfl | rfl | rfl | rfl | rfl <;> decide
def kT : D := .tup [.str "k", .int 0]
theorem eqF_kT (st : Sto) : eqF st kT kT = some true := eqF_tup (p := [.str "k", .int 0]) (q := [.str "k", .int 0]) rfl rfl (by decide +kernel) (by decide +kernel) (by decide +kernel)

theorem made_k_ok (k : Int) (st : Sto) (h : 1 ≤ k) (h2 : k ≤ 60) : s_made_k [.int k] st = .ok (.int k) st := made_k_int k st h h2
theorem left_over_ok (k t : Int) (r : List Int) (st : Sto) : s_left_over [.int k, .tup ((t :: r).map .int)] st = .ok (.int (k + maxI t r - 2 * (t :: r).sum)) st := by
  have h1 := intsOf_mapT (t :: r)
  simp [s_left_over, fnS, eV, eC, Mm.e1, Mm.e2, eN, aN, aC, eCall, eTup, eLst, eIf, eCh, eAndT, eOrT, eNotT, bB, bAnd, bOr, bNot, bTru, tru, sSeq, sSet, sEx, sRet, sRetN, sNx, sNo, sBrk, sCt, sIf, sPar, sPar3, sAsg, tgN, tgNil, tgCons, tgTup, Mm.R.bind, Mm.R.of, Mm.R.st, oAdd, oSub, mul_i, oDiv, oMod, oPow, oCmpI, oLt, oLe, oGt, oGe, oIs, oIsN, oEq, oNe, eqF, b64_of, oIx, seqOf, lstOf, cellItems, sStore, eSl, eO, oLen, oInt, oListOf, oTupOf, oMax, oMin, oSum, oGcd, intsOf, oIsi, tyName, oNeg, eM1, eM0, isLst, oApp, oExt, oPopAt, oPop, fin_i, fin_b, fin_n, fin_s, fin_t2, at0, at1, at2, at3, at4, cut1, ix0, ix1, ix2, intsOf_mapT]
theorem le_maxI : ∀ (r : List Int) (t : Int), t ≤ maxI t r ∧ ∀ x ∈ r, x ≤ maxI t r
  | [], t => ⟨Int.le_refl t, fun x h => by cases h⟩
  | y :: r, t => by
    have h := le_maxI r (if t < y then y else t)
    have e : maxI t (y :: r) = maxI (if t < y then y else t) r := rfl
    rw [e]
    refine ⟨Int.le_trans ?_ h.1, fun x hx => ?_⟩
    · split <;> omega
    · rcases List.mem_cons.mp hx with rfl | hx
      · refine Int.le_trans ?_ h.1
        split <;> omega
      · exact h.2 x hx
theorem maxI_le : ∀ (r : List Int) (t b : Int), t ≤ b → (∀ x ∈ r, x ≤ b) → maxI t r ≤ b
  | [], t, b, h, _ => h
  | y :: r, t, b, h, h2 => by
    have e : maxI t (y :: r) = maxI (if t < y then y else t) r := rfl
    rw [e]
    have := h2 y (by simp)
    exact maxI_le r _ b (by split <;> omega) fun x hx => h2 x (by simp [hx])
def encL (ls : List (List Int)) : List D := ls.map fun l => .tup (l.map .int)
theorem flat_encL : ∀ ls : List (List Int), flatDs (encL ls) = true
  | [] => rfl
  | l :: r => by
    have h := flat_encL r
    simp only [encL, List.map_cons, flatDs, flatD, flat_ints, Bool.true_and] at h ⊢
    exact h
theorem encL_app (a b : List (List Int)) : encL (a ++ b) = encL a ++ encL b := by simp [encL]
theorem encL_len (a : List (List Int)) : (encL a).length = a.length := by simp [encL]
theorem flat_len {α β : Type} (f : α → List β) (n : Nat) : ∀ l : List α, (∀ x ∈ l, (f x).length ≤ n) → (l.flatMap f).length ≤ l.length * n
  | [], _ => by simp
  | x :: r, h => by
    have h1 := h x (by simp)
    have h2 := flat_len f n r fun y hy => h y (by simp [hy])
    simp only [List.flatMap_cons, List.length_append, List.length_cons, Nat.succ_mul]
    omega
def mx0 : List Int → Int
  | [] => 0
  | t :: r => maxI t (r ++ [0])
def sp (k : Int) (l : List Int) : Int := k - 2 * l.sum + mx0 l
theorem maxI_app : ∀ (r : List Int) (t x : Int), maxI t (r ++ [x]) = if maxI t r < x then x else maxI t r
  | [], t, x => rfl
  | y :: r, t, x => maxI_app r (if t < y then y else t) x
theorem mx0_pos (t : Int) (r : List Int) (h : 1 ≤ t) : mx0 (t :: r) = maxI t r := by
  have h1 := (le_maxI r t).1
  show maxI t (r ++ [0]) = _
  rw [maxI_app, if_neg (by omega)]
theorem mx0_rep (j : Nat) : mx0 (List.replicate (j + 1) 1) = 1 := by
  rw [List.replicate_succ, mx0_pos _ _ (by decide)]
  have h1 := maxI_le (List.replicate j 1) 1 1 (by decide) (fun x hx => by rw [(List.mem_replicate.mp hx).2]; decide)
  have h2 := (le_maxI (List.replicate j (1 : Int)) 1).1
  omega
theorem sum_rep1 : ∀ j : Nat, (List.replicate j (1 : Int)).sum = j
  | 0 => rfl
  | j + 1 => by rw [List.replicate_succ, List.sum_cons, sum_rep1 j]; omega
theorem kspare_ok (k : Int) (ns : List Int) (st : Sto) (hl : ns.length ≤ 100) : s__law_kind_spare [.int k, .tup (ns.map .int)] st = .ok (.int (sp k ns)) st := by
  have l1 : ns.length + 1 ≤ lim := by unfold lim; omega
  refine fn_flat (r := [.lst (ns.map .int), .lst [.int 0], .lst (ns.map .int ++ [.int 0])]) rfl ?_
  cases ns with
  | nil => simp [fnS, eV, eC, Mm.e1, Mm.e2, eN, aN, aC, eCall, eTup, eLst, eIf, eCh, eAndT, eOrT, eNotT, bB, bAnd, bOr, bNot, bTru, tru, sSeq, sSet, sEx, sRet, sRetN, sNx, sNo, sBrk, sCt, sIf, sPar, sPar3, sAsg, tgN, tgNil, tgCons, tgTup, Mm.R.bind, Mm.R.of, Mm.R.st, oAdd, oSub, mul_i, oDiv, oMod, oPow, oCmpI, oLt, oLe, oGt, oGe, oIs, oIsN, oEq, oNe, eqF, b64_of, oIx, seqOf, lstOf, cellItems, sStore, eSl, eO, oLen, oInt, oListOf, oTupOf, oMax, oMin, oSum, oGcd, intsOf, oIsi, tyName, oNeg, eM1, eM0, isLst, oApp, oExt, oPopAt, oPop, fin_i, fin_b, fin_n, fin_s, fin_t2, at0, at1, at2, at3, at4, cut1, ix0, ix1, ix2, intsOf, maxI, sp, mx0, lim]
  | cons t r =>
    have i2 : intsOf (r.map D.int ++ [.int 0]) = some (r ++ [0]) := by
      have := intsOf_mapT (r ++ [0])
      simpa using this
    simp only [List.length_cons] at l1
    simp [fnS, eV, eC, Mm.e1, Mm.e2, eN, aN, aC, eCall, eTup, eLst, eIf, eCh, eAndT, eOrT, eNotT, bB, bAnd, bOr, bNot, bTru, tru, sSeq, sSet, sEx, sRet, sRetN, sNx, sNo, sBrk, sCt, sIf, sPar, sPar3, sAsg, tgN, tgNil, tgCons, tgTup, Mm.R.bind, Mm.R.of, Mm.R.st, oAdd, oSub, mul_i, oDiv, oMod, oPow, oCmpI, oLt, oLe, oGt, oGe, oIs, oIsN, oEq, oNe, eqF, b64_of, oIx, seqOf, lstOf, cellItems, sStore, eSl, eO, oLen, oInt, oListOf, oTupOf, oMax, oMin, oSum, oGcd, intsOf, oIsi, tyName, oNeg, eM1, eM0, isLst, oApp, oExt, oPopAt, oPop, fin_i, fin_b, fin_n, fin_s, fin_t2, at0, at1, at2, at3, at4, cut1, ix0, ix1, ix2, intsOf_mapT, intsOf, i2, sp, mx0, l1]

end Gk12

namespace Gk12
open Mm
/-! all lots, to the letter -/
def ups (k : Int) (lot : List Int) : Nat → Nat → List (List Int)
  | 0, _ => []
  | j + 1, a => if sp k (lot ++ [((a + 1 : Nat) : Int)]) < 0 then [] else (lot ++ [((a + 1 : Nat) : Int)]) :: ups k lot j (a + 1)
def lotsL (k : Int) : Nat → List (List Int)
  | 0 => [[]]
  | n + 1 => (lotsL k n).flatMap fun lot => ups k lot k.toNat 0
theorem ups_len (k : Int) (lot : List Int) : ∀ j a : Nat, (ups k lot j a).length ≤ j
  | 0, _ => Nat.le_refl 0
  | j + 1, a => by
    unfold ups
    split
    · simp
    · have := ups_len k lot j (a + 1); simp only [List.length_cons]; omega
theorem ups_mem (k : Int) (lot : List Int) : ∀ j a : Nat, ∀ l ∈ ups k lot j a, l.length = lot.length + 1
  | 0, _, _, h => by cases h
  | j + 1, a, l, h => by
    unfold ups at h
    split at h
    · cases h
    · rcases List.mem_cons.mp h with rfl | h
      · simp
      · exact ups_mem k lot j (a + 1) l h
theorem lotsL_len (k : Int) : ∀ n : Nat, (lotsL k n).length ≤ k.toNat ^ n
  | 0 => by simp [lotsL]
  | n + 1 => by
    have h := flat_len (fun lot => ups k lot k.toNat 0) k.toNat (lotsL k n) (fun x _ => ups_len k x _ _)
    rw [Nat.pow_succ]
    exact Nat.le_trans h (Nat.mul_le_mul_right _ (lotsL_len k n))
theorem lotsL_mem (k : Int) : ∀ n : Nat, ∀ l ∈ lotsL k n, l.length = n
  | 0, l, h => by have := List.mem_singleton.mp h; subst this; rfl
  | n + 1, l, h => by
    obtain ⟨x, hx, hl⟩ := List.mem_flatMap.mp h
    rw [ups_mem k x _ _ l hl, lotsL_mem k n x hx]
theorem st_set {st r : Sto} {i : Nat} {c : Cell} : (st ++ r).set (st.length + i) c = st ++ r.set i c := by
  rw [List.set_append_right _ _ (by omega)]
  congr 2
  omega
theorem st_get {st r : Sto} {i : Nat} : (st ++ r)[st.length + i]? = r[i]? := by
  rw [List.getElem?_append_right (by omega)]
  congr 1
  omega
theorem set_get {r : Sto} {i : Nat} {c : Cell} (h : i < r.length) : (r.set i c)[i]? = some c := List.getElem?_set_self h
theorem set_set {r : Sto} {i : Nat} {c d : Cell} : (r.set i c).set i d = r.set i d := List.set_set ..
theorem set_same {r : Sto} {i : Nat} {c : Cell} (h : r[i]? = some c) : r.set i c = r := by
  have hp : i < r.length := (List.getElem?_eq_some_iff.mp h).1
  have := (List.getElem?_eq_some_iff.mp h).2
  rw [← this]
  exact List.set_getElem_self hp
theorem lots1 (k : Int) (hk : k ≤ 60) (many x2 x3 : D) (lot : List Int) (hlot : lot.length ≤ 50) (st : Sto) (pi : Nat) : ∀ (j a : Nat) (acc : List (List Int)) (r : Sto) (x6 : Option D), r[pi]? = some (.lst (encL acc)) → acc.length + j ≤ 90000 →
    ∃ (y6 : Option D), forL (fun _ => true) (tgN 6) L1__law_kind_lots (intsUp ((a + 1 : Nat) : Int) j) [some (.int k), some many, some x2, some x3, some (.ref (st.length + pi)), some (.tup (lot.map .int)), x6] (st ++ r)
      = .nx [some (.int k), some many, some x2, some x3, some (.ref (st.length + pi)), some (.tup (lot.map .int)), y6] (st ++ r.set pi (.lst (encL (acc ++ ups k lot j a))))
  | 0, a, acc, r, x6, hr, _ => by
    refine ⟨x6, ?_⟩
    unfold ups
    rw [List.append_nil, set_same hr]
    exact for_nil rfl
  | j + 1, a, acc, r, x6, hr, hl => by
    have hp : pi < r.length := (List.getElem?_eq_some_iff.mp hr).1
    have c1 := kspare_ok k (lot ++ [((a + 1 : Nat) : Int)]) (st ++ r) (by simp; omega)
    have l1 : lot.length + 1 ≤ lim := by unfold lim; omega
    have l2 : acc.length < lim := by unfold lim; omega
    simp only [List.map_append, List.map_cons, List.map_nil] at c1
    have gr : (st ++ r)[st.length + pi]? = some (.lst (encL acc)) := by rw [st_get]; exact hr
    rw [up_succ]
    unfold ups
    by_cases hs : sp k (lot ++ [((a + 1 : Nat) : Int)]) < 0
    · refine ⟨some (.int ((a + 1 : Nat) : Int)), ?_⟩
      rw [if_pos hs, List.append_nil, set_same hr]
      refine for_brk (e1 := [some (.int k), some many, some x2, some x3, some (.ref (st.length + pi)), some (.tup (lot.map .int)), some (.int ((a + 1 : Nat) : Int))]) rfl rfl ?_
      rw [L1__law_kind_lots_ap]
      generalize ((a + 1 : Nat) : Int) = t at *
      simp [fnS, eV, eC, Mm.e1, Mm.e2, eN, aN, aC, eCall, eTup, eLst, eIf, eCh, eAndT, eOrT, eNotT, bB, bAnd, bOr, bNot, bTru, tru, sSeq, sSet, sEx, sRet, sRetN, sNx, sNo, sBrk, sCt, sIf, sPar, sPar3, sAsg, tgN, tgNil, tgCons, tgTup, Mm.R.bind, Mm.R.of, Mm.R.st, oAdd, oSub, mul_i, oDiv, oMod, oPow, oCmpI, oLt, oLe, oGt, oGe, oIs, oIsN, oEq, oNe, eqF, b64_of, oIx, seqOf, lstOf, cellItems, sStore, eSl, eO, oLen, oInt, oListOf, oTupOf, oMax, oMin, oSum, oGcd, intsOf, oIsi, tyName, oNeg, eM1, eM0, isLst, oApp, oExt, oPopAt, oPop, fin_i, fin_b, fin_n, fin_s, fin_t2, at0, at1, at2, at3, at4, cut1, ix0, ix1, ix2, l1, c1, hs]
    · obtain ⟨y6, k1⟩ := lots1 k hk many x2 x3 lot hlot st pi j (a + 1) (acc ++ [lot ++ [((a + 1 : Nat) : Int)]]) (r.set pi (.lst (encL (acc ++ [lot ++ [((a + 1 : Nat) : Int)]])))) (some (.int ((a + 1 : Nat) : Int))) (set_get hp) (by simp; omega)
      refine ⟨y6, ?_⟩
      rw [if_neg hs]
      rw [set_set, List.append_assoc] at k1
      refine for_nx (e1 := [some (.int k), some many, some x2, some x3, some (.ref (st.length + pi)), some (.tup (lot.map .int)), some (.int ((a + 1 : Nat) : Int))]) rfl rfl ?_ k1
      rw [L1__law_kind_lots_ap]
      generalize ((a + 1 : Nat) : Int) = t at *
      have l3 : (encL acc).length < lim := by rw [encL_len]; exact l2
      simp [fnS, eV, eC, Mm.e1, Mm.e2, eN, aN, aC, eCall, eTup, eLst, eIf, eCh, eAndT, eOrT, eNotT, bB, bAnd, bOr, bNot, bTru, tru, sSeq, sSet, sEx, sRet, sRetN, sNx, sNo, sBrk, sCt, sIf, sPar, sPar3, sAsg, tgN, tgNil, tgCons, tgTup, Mm.R.bind, Mm.R.of, Mm.R.st, oAdd, oSub, mul_i, oDiv, oMod, oPow, oCmpI, oLt, oLe, oGt, oGe, oIs, oIsN, oEq, oNe, eqF, b64_of, oIx, seqOf, lstOf, cellItems, sStore, eSl, eO, oLen, oInt, oListOf, oTupOf, oMax, oMin, oSum, oGcd, intsOf, oIsi, tyName, oNeg, eM1, eM0, isLst, oApp, oExt, oPopAt, oPop, fin_i, fin_b, fin_n, fin_s, fin_t2, at0, at1, at2, at3, at4, cut1, ix0, ix1, ix2, l1, c1, hs, gr, l3, st_set, encL_app]
      simp [encL]
theorem lots2 (k : Int) (hk1 : 1 ≤ k) (hk : k ≤ 60) (many x3 : D) (st : Sto) (pi qi : Nat) (hpq : qi ≠ pi) (g : Sto → Bool) (r0 : Sto) (hg : ∀ r : Sto, r[qi]? = r0[qi]? → g (st ++ r) = true) : ∀ (ls : List (List Int)) (acc : List (List Int)) (r : Sto) (x5 x6 : Option D),
    (∀ l ∈ ls, l.length ≤ 50) → r[pi]? = some (.lst (encL acc)) → r[qi]? = r0[qi]? → acc.length + ls.length * k.toNat ≤ 90000 →
    ∃ (y5 y6 : Option D), forL g (tgN 5) L2__law_kind_lots (encL ls) [some (.int k), some many, some (.ref (st.length + qi)), some x3, some (.ref (st.length + pi)), x5, x6] (st ++ r)
      = .nx [some (.int k), some many, some (.ref (st.length + qi)), some x3, some (.ref (st.length + pi)), y5, y6] (st ++ r.set pi (.lst (encL (acc ++ ls.flatMap fun lot => ups k lot k.toNat 0))))
  | [], acc, r, x5, x6, _, hr, hq, _ => by
    refine ⟨x5, x6, ?_⟩
    rw [List.flatMap_nil, List.append_nil, set_same hr]
    exact for_nil (hg r hq)
  | lot :: ls, acc, r, x5, x6, hl, hr, hq, hn => by
    have hp : pi < r.length := (List.getElem?_eq_some_iff.mp hr).1
    simp only [List.length_cons, Nat.succ_mul] at hn
    have hu := ups_len k lot k.toNat 0
    obtain ⟨y6, k1⟩ := lots1 k hk many (.ref (st.length + qi)) x3 lot (hl lot (by simp)) st pi k.toNat 0 acc r x6 hr (by omega)
    obtain ⟨z5, z6, k5⟩ := lots2 k hk1 hk many x3 st pi qi hpq g r0 hg ls (acc ++ ups k lot k.toNat 0) (r.set pi (.lst (encL (acc ++ ups k lot k.toNat 0)))) (some (.tup (lot.map .int))) y6 (fun l h => hl l (by simp [h])) (set_get hp) (by rw [List.getElem?_set_ne (Ne.symm hpq)]; exact hq) (by simp; omega)
    rw [set_set, List.append_assoc] at k5
    refine ⟨z5, z6, ?_⟩
    rw [List.flatMap_cons]
    have hb : bigR (k + 1) = true := decide_eq_true (by omega)
    have hb1 : bigR 1 = true := rfl
    refine for_nx (d := .tup (lot.map .int)) (e1 := [some (.int k), some many, some (.ref (st.length + qi)), some x3, some (.ref (st.length + pi)), some (.tup (lot.map .int)), x6]) (hg r hq) rfl ?_ k5
    rw [L2__law_kind_lots_ap]
    have e : iR2 (aC (eC (.int 1)) (aC (e2 oAdd (eV 0) (eC (.int 1))) aN)) [some (.int k), some many, some (.ref (st.length + qi)), some x3, some (.ref (st.length + pi)), some (.tup (lot.map .int)), x6] (st ++ r) = .ok ⟨intsUp 1 k.toNat, fun _ => true⟩ (st ++ r) := by
      simp only [iR2, aC, aN, eC, eV, Mm.e2, oAdd, Mm.R.bind, Mm.R.of, List.getElem?_cons_succ, List.getElem?_cons_zero, hb, hb1, Bool.and_self, if_true]
      rw [show k + 1 - 1 = k by omega]
    unfold sFor
    rw [e]
    exact k1
theorem lots3 (k : Int) (hk1 : 1 ≤ k) (hk : k ≤ 60) (many : Int) (st : Sto) (M : Nat) (hM : ∀ a, a < M → (lotsL k a).length * k.toNat ≤ 80000) (hM2 : M ≤ 4) : ∀ (j a : Nat) (r : Sto) (qi : Nat) (x3 x4 x5 x6 : Option D), a + j = M → r[qi]? = some (.lst (encL (lotsL k a))) →
    ∃ (r' : Sto) (qj : Nat) (y3 y4 y5 y6 : Option D), forL (fun _ => true) (tgN 3) L3__law_kind_lots (intsUp (a : Nat) j) [some (.int k), some (.int many), some (.ref (st.length + qi)), x3, x4, x5, x6] (st ++ r)
      = .nx [some (.int k), some (.int many), some (.ref (st.length + qj)), y3, y4, y5, y6] (st ++ r') ∧ r'[qj]? = some (.lst (encL (lotsL k M)))
  | 0, a, r, qi, x3, x4, x5, x6, h, h2 => ⟨r, qi, x3, x4, x5, x6, for_nil rfl, by rw [← h]; exact h2⟩
  | j + 1, a, r, qi, x3, x4, x5, x6, h, h2 => by
    have hq : qi < r.length := (List.getElem?_eq_some_iff.mp h2).1
    have hxs : (lotsL k a).length * k.toNat ≤ 80000 := hM a (by omega)
    have hq2 : (r ++ [Cell.lst []])[qi]? = some (.lst (encL (lotsL k a))) := by rw [List.getElem?_append_left hq]; exact h2
    obtain ⟨y5, y6, k1⟩ := lots2 k hk1 hk (.int many) (.int (a : Nat)) st r.length qi (by omega) (fun q => decide (q[st.length + qi]? = (st ++ (r ++ [Cell.lst []]))[st.length + qi]?)) (r ++ [Cell.lst []]) (fun r' hr' => by
        simp only [st_get, hr', decide_true]) (lotsL k a) [] (r ++ [Cell.lst []]) x5 x6 (fun l hl => by have := lotsL_mem k a l hl; omega) (by simp [encL]) rfl (by simp; omega)
    have hlen : (r ++ [Cell.lst []]).set r.length (.lst (encL ([] ++ (lotsL k a).flatMap fun lot => ups k lot k.toNat 0))) = r ++ [Cell.lst (encL (lotsL k (a + 1)))] := by simp [lotsL]
    rw [hlen] at k1
    obtain ⟨r', qj, y3, y4, z5, z6, k5, k7⟩ := lots3 k hk1 hk many st M hM hM2 j (a + 1) (r ++ [Cell.lst (encL (lotsL k (a + 1)))]) r.length (some (.int (a : Nat))) (some (.ref (st.length + r.length))) y5 y6 (by omega) (by simp)
    refine ⟨r', qj, y3, y4, z5, z6, ?_, k7⟩
    rw [up_succ]
    refine for_nx (e1 := [some (.int k), some (.int many), some (.ref (st.length + qi)), some (.int (a : Nat)), x4, x5, x6]) rfl rfl ?_ k5
    rw [L3__law_kind_lots_ap]
    refine seq_nx (e1 := [some (.int k), some (.int many), some (.ref (st.length + qi)), some (.int (a : Nat)), some (.ref (st.length + r.length)), x5, x6]) (st1 := st ++ (r ++ [Cell.lst []])) (by simp [fnS, eV, eC, Mm.e1, Mm.e2, eN, aN, aC, eCall, eTup, eLst, eIf, eCh, eAndT, eOrT, eNotT, bB, bAnd, bOr, bNot, bTru, tru, sSeq, sSet, sEx, sRet, sRetN, sNx, sNo, sBrk, sCt, sIf, sPar, sPar3, sAsg, tgN, tgNil, tgCons, tgTup, Mm.R.bind, Mm.R.of, Mm.R.st, oAdd, oSub, mul_i, oDiv, oMod, oPow, oCmpI, oLt, oLe, oGt, oGe, oIs, oIsN, oEq, oNe, eqF, b64_of, oIx, seqOf, lstOf, cellItems, sStore, eSl, eO, oLen, oInt, oListOf, oTupOf, oMax, oMin, oSum, oGcd, intsOf, oIsi, tyName, oNeg, eM1, eM0, isLst, oApp, oExt, oPopAt, oPop, fin_i, fin_b, fin_n, fin_s, fin_t2, at0, at1, at2, at3, at4, cut1, ix0, ix1, ix2]) ?_
    refine seq_nx (e1 := [some (.int k), some (.int many), some (.ref (st.length + qi)), some (.int (a : Nat)), some (.ref (st.length + r.length)), y5, y6]) (st1 := st ++ (r ++ [Cell.lst (encL (lotsL k (a + 1)))])) ?_ (by simp [fnS, eV, eC, Mm.e1, Mm.e2, eN, aN, aC, eCall, eTup, eLst, eIf, eCh, eAndT, eOrT, eNotT, bB, bAnd, bOr, bNot, bTru, tru, sSeq, sSet, sEx, sRet, sRetN, sNx, sNo, sBrk, sCt, sIf, sPar, sPar3, sAsg, tgN, tgNil, tgCons, tgTup, Mm.R.bind, Mm.R.of, Mm.R.st, oAdd, oSub, mul_i, oDiv, oMod, oPow, oCmpI, oLt, oLe, oGt, oGe, oIs, oIsN, oEq, oNe, eqF, b64_of, oIx, seqOf, lstOf, cellItems, sStore, eSl, eO, oLen, oInt, oListOf, oTupOf, oMax, oMin, oSum, oGcd, intsOf, oIsi, tyName, oNeg, eM1, eM0, isLst, oApp, oExt, oPopAt, oPop, fin_i, fin_b, fin_n, fin_s, fin_t2, at0, at1, at2, at3, at4, cut1, ix0, ix1, ix2])
    unfold sFor
    have e : iSeq (eV 2) [some (.int k), some (.int many), some (.ref (st.length + qi)), some (.int (a : Nat)), some (.ref (st.length + r.length)), x5, x6] (st ++ (r ++ [Cell.lst []])) = .ok ⟨encL (lotsL k a), fun q => decide (q[st.length + qi]? = (st ++ (r ++ [Cell.lst []]))[st.length + qi]?)⟩ (st ++ (r ++ [Cell.lst []])) := seq_new rfl (by rw [st_get]; exact hq2)
    rw [e]
    exact k1
theorem lots_ok (k : Int) (m : Nat) (st : Sto) (hk1 : 1 ≤ k) (hk : k ≤ 60) (hm : m ≤ 4) (hM : ∀ a, a < m → (lotsL k a).length * k.toNat ≤ 80000) : s__law_kind_lots [.int k, .int (m : Nat)] st = .ok (.ref st.length) (st ++ [.lst (encL (lotsL k m))]) := by
  obtain ⟨r', qj, y3, y4, y5, y6, k1, k3⟩ := lots3 k hk1 hk (m : Nat) st m hM hm m 0 [.lst (encL [[]])] 0 none none none none (by omega) rfl
  have hb : bigR (m : Int) = true := decide_eq_true (by omega)
  refine fn_ret (d := .ref (st.length + qj)) (st' := st ++ r') ?_ ?_
  · refine seq_nx (e1 := [some (.int k), some (.int (m : Nat)), some (.ref (st.length + 0)), none, none, none, none]) (st1 := st ++ [.lst (encL [[]])]) (by simp [fnS, eV, eC, Mm.e1, Mm.e2, eN, aN, aC, eCall, eTup, eLst, eIf, eCh, eAndT, eOrT, eNotT, bB, bAnd, bOr, bNot, bTru, tru, sSeq, sSet, sEx, sRet, sRetN, sNx, sNo, sBrk, sCt, sIf, sPar, sPar3, sAsg, tgN, tgNil, tgCons, tgTup, Mm.R.bind, Mm.R.of, Mm.R.st, oAdd, oSub, mul_i, oDiv, oMod, oPow, oCmpI, oLt, oLe, oGt, oGe, oIs, oIsN, oEq, oNe, eqF, b64_of, oIx, seqOf, lstOf, cellItems, sStore, eSl, eO, oLen, oInt, oListOf, oTupOf, oMax, oMin, oSum, oGcd, intsOf, oIsi, tyName, oNeg, eM1, eM0, isLst, oApp, oExt, oPopAt, oPop, fin_i, fin_b, fin_n, fin_s, fin_t2, at0, at1, at2, at3, at4, cut1, ix0, ix1, ix2, encL]) ?_
    refine seq_nx (e1 := [some (.int k), some (.int (m : Nat)), some (.ref (st.length + qj)), y3, y4, y5, y6]) (st1 := st ++ r') ?_ (by simp [fnS, eV, eC, Mm.e1, Mm.e2, eN, aN, aC, eCall, eTup, eLst, eIf, eCh, eAndT, eOrT, eNotT, bB, bAnd, bOr, bNot, bTru, tru, sSeq, sSet, sEx, sRet, sRetN, sNx, sNo, sBrk, sCt, sIf, sPar, sPar3, sAsg, tgN, tgNil, tgCons, tgTup, Mm.R.bind, Mm.R.of, Mm.R.st, oAdd, oSub, mul_i, oDiv, oMod, oPow, oCmpI, oLt, oLe, oGt, oGe, oIs, oIsN, oEq, oNe, eqF, b64_of, oIx, seqOf, lstOf, cellItems, sStore, eSl, eO, oLen, oInt, oListOf, oTupOf, oMax, oMin, oSum, oGcd, intsOf, oIsi, tyName, oNeg, eM1, eM0, isLst, oApp, oExt, oPopAt, oPop, fin_i, fin_b, fin_n, fin_s, fin_t2, at0, at1, at2, at3, at4, cut1, ix0, ix1, ix2])
    unfold sFor
    have e : iR1 (aC (eV 1) aN) [some (.int k), some (.int (m : Nat)), some (.ref (st.length + 0)), none, none, none, none] (st ++ [.lst (encL [[]])]) = .ok ⟨intsUp 0 m, fun _ => true⟩ (st ++ [.lst (encL [[]])]) := by simp [iR1, fnS, eV, eC, Mm.e1, Mm.e2, eN, aN, aC, eCall, eTup, eLst, eIf, eCh, eAndT, eOrT, eNotT, bB, bAnd, bOr, bNot, bTru, tru, sSeq, sSet, sEx, sRet, sRetN, sNx, sNo, sBrk, sCt, sIf, sPar, sPar3, sAsg, tgN, tgNil, tgCons, tgTup, Mm.R.bind, Mm.R.of, Mm.R.st, oAdd, oSub, mul_i, oDiv, oMod, oPow, oCmpI, oLt, oLe, oGt, oGe, oIs, oIsN, oEq, oNe, eqF, b64_of, oIx, seqOf, lstOf, cellItems, sStore, eSl, eO, oLen, oInt, oListOf, oTupOf, oMax, oMin, oSum, oGcd, intsOf, oIsi, tyName, oNeg, eM1, eM0, isLst, oApp, oExt, oPopAt, oPop, fin_i, fin_b, fin_n, fin_s, fin_t2, at0, at1, at2, at3, at4, cut1, ix0, ix1, ix2, hb]
    rw [e]
    exact k1
  · unfold fin
    rw [if_pos (.inl (by simp)), if_neg (by simp [lowD])]
    have g : (st ++ r')[st.length + qj]? = some (.lst (encL (lotsL k m))) := by rw [st_get]; exact k3
    simp only [g, lows_flat _ _ (flat_encL (lotsL k m)), if_true]
    simp

theorem mx0_app : ∀ (l : List Int) (t : Int), mx0 (l ++ [t]) = if mx0 l < t then t else mx0 l
  | [], t => by
    show maxI t [0] = _
    show (if t < 0 then 0 else t) = _
    show _ = if (0 : Int) < t then t else 0
    repeat' split
    all_goals omega
  | y :: r, t => by
    show maxI y (r ++ [t] ++ [0]) = if maxI y (r ++ [0]) < t then t else maxI y (r ++ [0])
    rw [maxI_app, maxI_app, maxI_app]
    repeat' split
    all_goals omega
theorem sp_app (k : Int) (l : List Int) (t : Int) : sp k (l ++ [t]) = k - 2 * (l.sum + t) + (if mx0 l < t then t else mx0 l) := by
  unfold sp
  rw [mx0_app, List.sum_append]
  simp
theorem sp_fall (k : Int) (l : List Int) (t u : Int) (h : t ≤ u) (h2 : sp k (l ++ [t]) < 0) : sp k (l ++ [u]) < 0 := by
  rw [sp_app] at h2 ⊢
  split at h2 <;> split <;> omega
theorem ups_filter (k : Int) (l : List Int) : ∀ j a : Nat, ups k l j a = ((List.range' (a + 1) j).map fun (t : Nat) => l ++ [(t : Int)]).filter fun l => decide (0 ≤ sp k l)
  | 0, _ => rfl
  | j + 1, a => by
    rw [ups, List.range'_succ, List.map_cons, List.filter_cons]
    by_cases h : sp k (l ++ [((a + 1 : Nat) : Int)]) < 0
    · rw [if_pos h, if_neg (by rw [decide_eq_true_eq]; omega)]
      refine (List.filter_eq_nil_iff.mpr fun x hx => ?_).symm
      obtain ⟨t, ht, rfl⟩ := List.mem_map.mp hx
      have h1 := (List.mem_range'_1.mp ht).1
      have := sp_fall k l ((a + 1 : Nat) : Int) (t : Int) (by omega) h
      simp only [decide_eq_true_eq]
      omega
    · rw [if_neg h, if_pos (by rw [decide_eq_true_eq]; omega), ups_filter k l j (a + 1)]
def allT (k : Nat) (ls : List (List Int)) : List (List Int) := ls.flatMap fun l => (List.range' 1 k).map fun (t : Nat) => l ++ [(t : Int)]
theorem lots_fit (k : Int) (n : Nat) : (allT k.toNat (lotsL k n)).filter (fun l => decide (0 ≤ sp k l)) = lotsL k (n + 1) := by
  rw [allT, List.filter_flatMap, lotsL]
  congr 1
  funext l
  rw [ups_filter]
theorem lots_pos (k : Int) : ∀ n : Nat, ∀ l ∈ lotsL k n, ∀ x ∈ l, 1 ≤ x ∧ x ≤ k
  | 0, l, h, x, hx => by have := List.mem_singleton.mp h; subst this; cases hx
  | n + 1, l, h, x, hx => by
    rw [← lots_fit, List.mem_filter] at h
    obtain ⟨m, hm, hl⟩ := List.mem_flatMap.mp h.1
    obtain ⟨t, ht, rfl⟩ := List.mem_map.mp hl
    have h1 := List.mem_range'_1.mp ht
    rcases List.mem_append.mp hx with hx | hx
    · exact lots_pos k n m hm x hx
    · have := List.mem_singleton.mp hx
      omega
theorem lots_cap : ∀ k : Nat, k < 25 → ∀ a : Nat, a < 4 → (lotsL (k : Int) a).length * k ≤ 80000 := by
  have : ((List.range 25).all fun k => (List.range 4).all fun a => decide ((lotsL ((k : Nat) : Int) a).length * k ≤ 80000)) = true := by decide +kernel
  intro k hk a ha
  have h1 := List.all_eq_true.mp this k (List.mem_range.mpr hk)
  have h2 := List.all_eq_true.mp h1 a (List.mem_range.mpr ha)
  exact of_decide_eq_true h2
end Gk12

namespace Gk12
open Mm
theorem ups_range : ∀ (j a : Nat), intsUp (a : Nat) j = (List.range' a j).map fun (i : Nat) => D.int i
  | 0, _ => rfl
  | j + 1, a => by rw [up_succ, ups_range j (a + 1), List.range'_succ]; rfl
theorem left_sp (k : Int) (l : List Int) (st : Sto) (hne : l ≠ []) (h : ∀ x ∈ l, 1 ≤ x) : s_left_over [.int k, .tup (l.map .int)] st = .ok (.int (sp k l)) st := by
  cases l with
  | nil => exact absurd rfl hne
  | cons t r =>
    rw [left_over_ok]
    unfold sp
    rw [mx0_pos t r (h t (by simp))]
    congr 2
    omega
def fitP (k : Int) : D → Bool
  | .tup xs => match intsOf xs with
    | some ns => decide (0 ≤ sp k ns)
    | none => false
  | _ => false
def addF : D → D → D
  | .tup xs, u => .tup (xs ++ [u])
  | _, u => u
theorem fitP_of (k : Int) (l : List Int) : fitP k (.tup (l.map .int)) = decide (0 ≤ sp k l) := by
  simp only [fitP, intsOf_mapT]
theorem enc_filter (k : Int) (ls : List (List Int)) : (encL ls).filter (fitP k) = encL (ls.filter fun l => decide (0 ≤ sp k l)) := by
  unfold encL
  rw [List.filter_map]
  congr 1
  refine List.filter_congr fun l _ => ?_
  exact fitP_of k l
theorem enc_add (k : Nat) (ls : List (List Int)) : ((encL ls).flatMap fun d => ((List.range' 1 k).map fun (i : Nat) => D.int i).map (addF d)) = encL (allT k ls) := by
  unfold encL allT
  rw [List.flatMap_map, List.map_flatMap]
  congr 1
  funext l
  rw [List.map_map, List.map_map]
  refine List.map_congr_left fun t _ => ?_
  simp [addF]
theorem allT_len (k : Nat) (ls : List (List Int)) : (allT k ls).length ≤ ls.length * k := flat_len _ k ls fun x _ => by simp
theorem add_len (k : Nat) (ls : List (List Int)) : ((encL ls).flatMap fun d => (List.range' 1 k).map fun (i : Nat) => D.int i).length ≤ ls.length * k := by
  have := flat_len (fun (d : D) => (List.range' 1 k).map fun (i : Nat) => D.int i) k (encL ls) (fun x _ => by simp)
  rwa [encL_len] at this
theorem fit1 (k : Int) (hk1 : 1 ≤ k) (hk : k ≤ 60) (many : D) (n : Nat) (hn : n ≤ 10) (hb : (lotsL k n).length * k.toNat ≤ 80000) (s : Sto) (i : Nat) (hi : s[i]? = some (.lst (encL (lotsL k n)))) (x3 x4 x5 x6 : Option D) :
    L1_all_that_fit [some (.int k), some many, some (.ref i), x3, x4, x5, x6] s = .nx [some (.int k), some many, some (.ref (s.length + 1)), x3, some (.ref s.length), x5, x6] (s ++ [Cell.lst (encL (allT k.toNat (lotsL k n))), Cell.lst (encL (lotsL k (n + 1)))]) := by
  have hil : i < s.length := (List.getElem?_eq_some_iff.mp hi).1
  rw [L1_all_that_fit_ap]
  have hbk : bigR (k + 1) = true := decide_eq_true (by omega)
  have hb1 : bigR 1 = true := rfl
  have hkn : ((k.toNat : Nat) : Int) = k := by omega
  have c1 : eLc2 [5, 6] (iSeq (eV 2)) (tgN 5) bYes J1_all_that_fit [6] (tgN 6) bYes E1_all_that_fit [some (.int k), some many, some (.ref i), x3, x4, x5, x6] s = .ok (.ref s.length) (s ++ [Cell.lst (encL (allT k.toNat (lotsL k n)))]) := by
    rw [← enc_add]
    refine lc2_pure (fun _ => (List.range' 1 k.toNat).map fun (i : Nat) => D.int i) addF (seq_new rfl hi) (fun acc => guard_app hil) (Nat.le_trans (add_len _ _) (by unfold lim; omega)) fun d hd => ?_
    obtain ⟨l, hl, rfl⟩ := List.mem_map.mp hd
    refine ⟨[some (.int k), some many, some (.ref i), x3, x4, some (.tup (l.map .int)), none], fun _ => true, rfl, fun acc => ?_, fun _ => rfl, fun u hu => ?_⟩
    · rw [J1_all_that_fit_ap]
      have := ups_range k.toNat 1
      simp only [iR2, aC, aN, eC, eV, Mm.e2, oAdd, Mm.R.bind, Mm.R.of, List.getElem?_cons_succ, List.getElem?_cons_zero, hbk, hb1, Bool.and_self, if_true]
      rw [show k + 1 - 1 = k by omega, ← this]
      rfl
    · obtain ⟨t, ht, rfl⟩ := List.mem_map.mp hu
      refine ⟨[some (.int k), some many, some (.ref i), x3, x4, some (.tup (l.map .int)), some (.int (t : Nat))], rfl, fun acc => ?_⟩
      rw [E1_all_that_fit_ap]
      have hl2 : l.length ≤ 10 := by rw [lotsL_mem k n l hl]; exact hn
      have hl3 : (l.map D.int).length + 1 ≤ lim := by simp; unfold lim; omega
      generalize l.map D.int = L at *
      simp [fnS, eV, eC, Mm.e1, Mm.e2, eN, aN, aC, eCall, eTup, eLst, eIf, eCh, eAndT, eOrT, eNotT, bB, bAnd, bOr, bNot, bTru, tru, sSeq, sSet, sEx, sRet, sRetN, sNx, sNo, sBrk, sCt, sIf, sPar, sPar3, sAsg, tgN, tgNil, tgCons, tgTup, Mm.R.bind, Mm.R.of, Mm.R.st, oAdd, oSub, mul_i, oDiv, oMod, oPow, oCmpI, oLt, oLe, oGt, oGe, oIs, oIsN, oEq, oNe, eqF, b64_of, oIx, seqOf, lstOf, cellItems, sStore, eSl, eO, oLen, oInt, oListOf, oTupOf, oMax, oMin, oSum, oGcd, intsOf, oIsi, tyName, oNeg, eM1, eM0, isLst, oApp, oExt, oPopAt, oPop, fin_i, fin_b, fin_n, fin_s, fin_t2, at0, at1, at2, at3, at4, cut1, ix0, ix1, ix2, eTupS, aSt, addF, hl3]
  refine seq_nx (set_ok c1) ?_
  simp only [List.set]
  have hi2 : (s ++ [Cell.lst (encL (allT k.toNat (lotsL k n)))])[s.length]? = some (Cell.lst (encL (allT k.toNat (lotsL k n)))) := app_get
  have c2 := lc_pure (own := [5]) (t := tgN 5) (c := I1_all_that_fit) (f := E2_all_that_fit) (e := [some (.int k), some many, some (.ref i), x3, some (.ref s.length), x5, x6]) (fitP k) (fun d => d) (seq_new (a := eV 4) (e := [some (.int k), some many, some (.ref i), x3, some (.ref s.length), x5, x6]) rfl hi2) (fun acc => guard_app (by simp)) (by rw [encL_len]; exact Nat.le_trans (allT_len _ _) (by unfold lim; omega)) (fun d hd => by
    obtain ⟨l, hl, rfl⟩ := List.mem_map.mp hd
    refine ⟨[some (.int k), some many, some (.ref i), x3, some (.ref s.length), some (.tup (l.map .int)), x6], rfl, fun acc => ?_, fun _ acc => by rw [E2_all_that_fit_ap]; rfl⟩
    rw [I1_all_that_fit_ap, fitP_of]
    obtain ⟨m, hm, hl⟩ := List.mem_flatMap.mp hl
    obtain ⟨t, ht, rfl⟩ := List.mem_map.mp hl
    have h1 := List.mem_range'_1.mp ht
    have hp := lots_pos k n m hm
    have g := fun st => left_sp k (m ++ [(t : Int)]) st (by simp) (fun x hx => by
      rcases List.mem_append.mp hx with hx | hx
      · exact (hp x hx).1
      · have := List.mem_singleton.mp hx; omega)
    generalize (m ++ [(t : Int)]).map D.int = L at *
    generalize sp k (m ++ [(t : Int)]) = w at *
    simp [fnS, eV, eC, Mm.e1, Mm.e2, eN, aN, aC, eCall, eTup, eLst, eIf, eCh, eAndT, eOrT, eNotT, bB, bAnd, bOr, bNot, bTru, tru, sSeq, sSet, sEx, sRet, sRetN, sNx, sNo, sBrk, sCt, sIf, sPar, sPar3, sAsg, tgN, tgNil, tgCons, tgTup, Mm.R.bind, Mm.R.of, Mm.R.st, oAdd, oSub, mul_i, oDiv, oMod, oPow, oCmpI, oLt, oLe, oGt, oGe, oIs, oIsN, oEq, oNe, eqF, b64_of, oIx, seqOf, lstOf, cellItems, sStore, eSl, eO, oLen, oInt, oListOf, oTupOf, oMax, oMin, oSum, oGcd, intsOf, oIsi, tyName, oNeg, eM1, eM0, isLst, oApp, oExt, oPopAt, oPop, fin_i, fin_b, fin_n, fin_s, fin_t2, at0, at1, at2, at3, at4, cut1, ix0, ix1, ix2, g])
  rw [enc_filter, lots_fit, List.map_id'] at c2
  have := set_ok (i := 2) c2
  simp only [List.set] at this
  rw [this]
  simp
theorem fit_loop (k : Int) (hk1 : 1 ≤ k) (hk : k ≤ 60) (many : D) (M : Nat) (hM2 : M ≤ 4) (hM : ∀ a, a < M → (lotsL k a).length * k.toNat ≤ 80000) (st : Sto) : ∀ (j a : Nat) (r : Sto) (i : Nat) (x3 x4 x5 x6 : Option D), a + j = M → (st ++ r)[st.length + i]? = some (.lst (encL (lotsL k a))) →
    ∃ (r' : Sto) (i' : Nat) (y3 y4 : Option D), forL (fun _ => true) (tgN 3) L1_all_that_fit (intsUp (a : Nat) j) [some (.int k), some many, some (.ref (st.length + i)), x3, x4, x5, x6] (st ++ r)
      = .nx [some (.int k), some many, some (.ref (st.length + i')), y3, y4, x5, x6] (st ++ r') ∧ (st ++ r')[st.length + i']? = some (.lst (encL (lotsL k M)))
  | 0, a, r, i, x3, x4, x5, x6, h, h2 => ⟨r, i, x3, x4, for_nil rfl, by rw [← h]; exact h2⟩
  | j + 1, a, r, i, x3, x4, x5, x6, h, h2 => by
    have h3 := fit1 k hk1 hk many a (by omega) (hM a (by omega)) (st ++ r) (st.length + i) h2 (some (.int (a : Nat))) x4 x5 x6
    have e1 : (st ++ r).length + 1 = st.length + (r.length + 1) := by simp; omega
    rw [e1, List.append_assoc] at h3
    obtain ⟨r', i', y3, y4, h4, h5⟩ := fit_loop k hk1 hk many M hM2 hM st j (a + 1) (r ++ [Cell.lst (encL (allT k.toNat (lotsL k a))), Cell.lst (encL (lotsL k (a + 1)))]) (r.length + 1) (some (.int (a : Nat))) (some (.ref (st ++ r).length)) x5 x6 (by omega) (by rw [st_get]; simp)
    refine ⟨r', i', y3, y4, ?_, h5⟩
    rw [up_succ]
    exact for_nx rfl rfl h3 h4
theorem fit_ok (k : Int) (m : Nat) (st : Sto) (hk1 : 1 ≤ k) (hk : k ≤ 60) (hm : m ≤ 4) (hM : ∀ a, a < m → (lotsL k a).length * k.toNat ≤ 80000) : s_all_that_fit [.int k, .int (m : Nat)] st = .ok (.ref st.length) (st ++ [.lst (encL (lotsL k m))]) := by
  obtain ⟨r', qj, y3, y4, k1, k3⟩ := fit_loop k hk1 hk (.int (m : Nat)) m hm hM st m 0 [.lst (encL [[]])] 0 none none none none (by omega) (by simp [lotsL])
  have hb : bigR (m : Int) = true := decide_eq_true (by omega)
  refine fn_ret (d := .ref (st.length + qj)) (st' := st ++ r') ?_ ?_
  · refine seq_nx (e1 := [some (.int k), some (.int (m : Nat)), some (.ref (st.length + 0)), none, none, none, none]) (st1 := st ++ [.lst (encL [[]])]) (by simp [fnS, eV, eC, Mm.e1, Mm.e2, eN, aN, aC, eCall, eTup, eLst, eIf, eCh, eAndT, eOrT, eNotT, bB, bAnd, bOr, bNot, bTru, tru, sSeq, sSet, sEx, sRet, sRetN, sNx, sNo, sBrk, sCt, sIf, sPar, sPar3, sAsg, tgN, tgNil, tgCons, tgTup, Mm.R.bind, Mm.R.of, Mm.R.st, oAdd, oSub, mul_i, oDiv, oMod, oPow, oCmpI, oLt, oLe, oGt, oGe, oIs, oIsN, oEq, oNe, eqF, b64_of, oIx, seqOf, lstOf, cellItems, sStore, eSl, eO, oLen, oInt, oListOf, oTupOf, oMax, oMin, oSum, oGcd, intsOf, oIsi, tyName, oNeg, eM1, eM0, isLst, oApp, oExt, oPopAt, oPop, fin_i, fin_b, fin_n, fin_s, fin_t2, at0, at1, at2, at3, at4, cut1, ix0, ix1, ix2, encL]) ?_
    refine seq_nx (e1 := [some (.int k), some (.int (m : Nat)), some (.ref (st.length + qj)), y3, y4, none, none]) (st1 := st ++ r') ?_ (by simp [fnS, eV, eC, Mm.e1, Mm.e2, eN, aN, aC, eCall, eTup, eLst, eIf, eCh, eAndT, eOrT, eNotT, bB, bAnd, bOr, bNot, bTru, tru, sSeq, sSet, sEx, sRet, sRetN, sNx, sNo, sBrk, sCt, sIf, sPar, sPar3, sAsg, tgN, tgNil, tgCons, tgTup, Mm.R.bind, Mm.R.of, Mm.R.st, oAdd, oSub, mul_i, oDiv, oMod, oPow, oCmpI, oLt, oLe, oGt, oGe, oIs, oIsN, oEq, oNe, eqF, b64_of, oIx, seqOf, lstOf, cellItems, sStore, eSl, eO, oLen, oInt, oListOf, oTupOf, oMax, oMin, oSum, oGcd, intsOf, oIsi, tyName, oNeg, eM1, eM0, isLst, oApp, oExt, oPopAt, oPop, fin_i, fin_b, fin_n, fin_s, fin_t2, at0, at1, at2, at3, at4, cut1, ix0, ix1, ix2])
    unfold sFor
    have e : iR1 (aC (eV 1) aN) [some (.int k), some (.int (m : Nat)), some (.ref (st.length + 0)), none, none, none, none] (st ++ [.lst (encL [[]])]) = .ok ⟨intsUp 0 m, fun _ => true⟩ (st ++ [.lst (encL [[]])]) := by simp [iR1, fnS, eV, eC, Mm.e1, Mm.e2, eN, aN, aC, eCall, eTup, eLst, eIf, eCh, eAndT, eOrT, eNotT, bB, bAnd, bOr, bNot, bTru, tru, sSeq, sSet, sEx, sRet, sRetN, sNx, sNo, sBrk, sCt, sIf, sPar, sPar3, sAsg, tgN, tgNil, tgCons, tgTup, Mm.R.bind, Mm.R.of, Mm.R.st, oAdd, oSub, mul_i, oDiv, oMod, oPow, oCmpI, oLt, oLe, oGt, oGe, oIs, oIsN, oEq, oNe, eqF, b64_of, oIx, seqOf, lstOf, cellItems, sStore, eSl, eO, oLen, oInt, oListOf, oTupOf, oMax, oMin, oSum, oGcd, intsOf, oIsi, tyName, oNeg, eM1, eM0, isLst, oApp, oExt, oPopAt, oPop, fin_i, fin_b, fin_n, fin_s, fin_t2, at0, at1, at2, at3, at4, cut1, ix0, ix1, ix2, hb]
    rw [e]
    exact k1
  · unfold fin
    rw [if_pos (.inl (by simp)), if_neg (by simp [lowD])]
    simp only [k3, lows_flat _ _ (flat_encL (lotsL k m)), if_true]
    simp
end Gk12

namespace Gk12
open Mm
theorem fdiv_nat (a b : Nat) : Int.fdiv (a : Int) (b : Int) = ((a / b : Nat) : Int) := Int.fdiv_eq_ediv_of_nonneg _ (by omega)
theorem fmod_nat (a b : Nat) : Int.fmod (a : Int) (b : Int) = ((a % b : Nat) : Int) := Int.fmod_eq_emod_of_nonneg _ (by omega)
def lowT (p q : Nat) : D := .tup [.int ((p / Nat.gcd p q : Nat) : Int), .int ((q / Nat.gcd p q : Nat) : Int)]
theorem lowest_ok (p q : Nat) (st : Sto) (h : 0 < q) (h2 : q < lcmTop) : s_lowest [.int p, .int q] st = .ok (lowT p q) st := by
  have h3 : Nat.gcd p q ≠ 0 := by have := Nat.gcd_pos_of_pos_right p h; omega
  have h4 : Nat.gcd p q < lcmTop := Nat.lt_of_le_of_lt (Nat.gcd_le_right p h) h2
  have h5 := fdiv_nat p (Nat.gcd p q)
  have h6 := fdiv_nat q (Nat.gcd p q)
  simp [s_lowest, fnS, eV, eC, Mm.e1, Mm.e2, eN, aN, aC, eCall, eTup, eLst, eIf, eCh, eAndT, eOrT, eNotT, bB, bAnd, bOr, bNot, bTru, tru, sSeq, sSet, sEx, sRet, sRetN, sNx, sNo, sBrk, sCt, sIf, sPar, sPar3, sAsg, tgN, tgNil, tgCons, tgTup, Mm.R.bind, Mm.R.of, Mm.R.st, oAdd, oSub, mul_i, oDiv, oMod, oPow, oCmpI, oLt, oLe, oGt, oGe, oIs, oIsN, oEq, oNe, eqF, b64_of, oIx, seqOf, lstOf, cellItems, sStore, eSl, eO, oLen, oInt, oListOf, oTupOf, oMax, oMin, oSum, oGcd, intsOf, oIsi, tyName, oNeg, eM1, eM0, isLst, oApp, oExt, oPopAt, oPop, fin_i, fin_b, fin_n, fin_s, fin_t2, at0, at1, at2, at3, at4, cut1, ix0, ix1, ix2, oDivG, h3, h4, lowT, -Int.natCast_ediv, h5, h6]
/-! the common multiple -/
def lcmF : Nat → Nat → Nat → Nat
  | 0, _, C => C
  | j + 1, a, C => lcmF j (a + 1) (Nat.lcm C a)
theorem lcm_loop (k : D) : ∀ (j a C : Nat) (x : Option D) (st : Sto), C * 64 ^ j < lcmTop → 1 ≤ a → a + j ≤ 64 → ∃ y, forL (fun _ => true) (tgN 2) L1_common_multiple (intsUp (a : Nat) j) [some k, some (.int (C : Nat)), x] st = .nx [some k, some (.int (lcmF j a C : Nat)), y] st
  | 0, a, C, x, st, _, _, _ => ⟨x, for_nil rfl⟩
  | j + 1, a, C, x, st, h, h1, h2 => by
    have hle : Nat.lcm C a ≤ C * 64 := Nat.le_trans (by
      by_cases h0 : C * a = 0
      · rcases Nat.mul_eq_zero.mp h0 with z | z <;> simp [z]
      · exact Nat.le_of_dvd (by omega) (Nat.lcm_dvd_mul _ _)) (Nat.mul_le_mul_left C (show a ≤ 64 by omega))
    have h3 : Nat.lcm C a * 64 ^ j < lcmTop := Nat.lt_of_le_of_lt (Nat.mul_le_mul_right _ hle) (by rw [Nat.pow_succ, Nat.mul_comm (64 ^ j), ← Nat.mul_assoc] at h; exact h)
    obtain ⟨y, hy⟩ := lcm_loop k j (a + 1) (Nat.lcm C a) (some (.int (a : Nat))) st h3 (by omega) (by omega)
    refine ⟨y, ?_⟩
    rw [up_succ]
    refine for_nx rfl rfl ?_ hy
    have c1 : C < lcmTop := Nat.lt_of_le_of_lt (Nat.le_mul_of_pos_right C (Nat.pow_pos (by decide))) h
    have c2 : a < lcmTop := Nat.lt_of_le_of_lt (show a ≤ 64 by omega) (by unfold lcmTop; decide +kernel)
    rw [L1_common_multiple_ap]
    simp [fnS, eV, eC, Mm.e1, Mm.e2, eN, aN, aC, eCall, eTup, eLst, eIf, eCh, eAndT, eOrT, eNotT, bB, bAnd, bOr, bNot, bTru, tru, sSeq, sSet, sEx, sRet, sRetN, sNx, sNo, sBrk, sCt, sIf, sPar, sPar3, sAsg, tgN, tgNil, tgCons, tgTup, Mm.R.bind, Mm.R.of, Mm.R.st, oAdd, oSub, mul_i, oDiv, oMod, oPow, oCmpI, oLt, oLe, oGt, oGe, oIs, oIsN, oEq, oNe, eqF, b64_of, oIx, seqOf, lstOf, cellItems, sStore, eSl, eO, oLen, oInt, oListOf, oTupOf, oMax, oMin, oSum, oGcd, intsOf, oIsi, tyName, oNeg, eM1, eM0, isLst, oApp, oExt, oPopAt, oPop, fin_i, fin_b, fin_n, fin_s, fin_t2, at0, at1, at2, at3, at4, cut1, ix0, ix1, ix2, oLcm, c1, c2]
def comm (k : Nat) : Nat := lcmF k (k + 1) 1
theorem comm_top (k : Nat) (hk : k ≤ 24) : 1 * 64 ^ k < lcmTop := Nat.lt_of_le_of_lt (show 1 * 64 ^ k ≤ 64 ^ 24 by rw [Nat.one_mul]; exact Nat.pow_le_pow_right (by decide) hk) (by unfold lcmTop; decide +kernel)
theorem comm_ok (k : Nat) (hk1 : 1 ≤ k) (hk : k ≤ 24) (st : Sto) : s_common_multiple [.int (k : Nat)] st = .ok (.int (comm k : Nat)) st := by
  obtain ⟨y, hy⟩ := lcm_loop (.int (k : Nat)) k (k + 1) 1 none st (comm_top k hk) (by omega) (by omega)
  have hb1 : bigR ((k : Int) + 1) = true := decide_eq_true (by omega)
  have hb2 : bigR (2 * (k : Int) + 1) = true := decide_eq_true (by omega)
  refine fn_flat (r := []) rfl ?_
  refine seq_nx (e1 := [some (.int (k : Nat)), some (.int (1 : Nat)), none]) (st1 := st) (by simp [fnS, eV, eC, Mm.e1, Mm.e2, eN, aN, aC, eCall, eTup, eLst, eIf, eCh, eAndT, eOrT, eNotT, bB, bAnd, bOr, bNot, bTru, tru, sSeq, sSet, sEx, sRet, sRetN, sNx, sNo, sBrk, sCt, sIf, sPar, sPar3, sAsg, tgN, tgNil, tgCons, tgTup, Mm.R.bind, Mm.R.of, Mm.R.st, oAdd, oSub, mul_i, oDiv, oMod, oPow, oCmpI, oLt, oLe, oGt, oGe, oIs, oIsN, oEq, oNe, eqF, b64_of, oIx, seqOf, lstOf, cellItems, sStore, eSl, eO, oLen, oInt, oListOf, oTupOf, oMax, oMin, oSum, oGcd, intsOf, oIsi, tyName, oNeg, eM1, eM0, isLst, oApp, oExt, oPopAt, oPop, fin_i, fin_b, fin_n, fin_s, fin_t2, at0, at1, at2, at3, at4, cut1, ix0, ix1, ix2]) ?_
  refine seq_nx (e1 := [some (.int (k : Nat)), some (.int (comm k : Nat)), y]) (st1 := st) ?_ (by simp [fnS, eV, eC, Mm.e1, Mm.e2, eN, aN, aC, eCall, eTup, eLst, eIf, eCh, eAndT, eOrT, eNotT, bB, bAnd, bOr, bNot, bTru, tru, sSeq, sSet, sEx, sRet, sRetN, sNx, sNo, sBrk, sCt, sIf, sPar, sPar3, sAsg, tgN, tgNil, tgCons, tgTup, Mm.R.bind, Mm.R.of, Mm.R.st, oAdd, oSub, mul_i, oDiv, oMod, oPow, oCmpI, oLt, oLe, oGt, oGe, oIs, oIsN, oEq, oNe, eqF, b64_of, oIx, seqOf, lstOf, cellItems, sStore, eSl, eO, oLen, oInt, oListOf, oTupOf, oMax, oMin, oSum, oGcd, intsOf, oIsi, tyName, oNeg, eM1, eM0, isLst, oApp, oExt, oPopAt, oPop, fin_i, fin_b, fin_n, fin_s, fin_t2, at0, at1, at2, at3, at4, cut1, ix0, ix1, ix2])
  have hm : oMul (.int 2) (.int (k : Nat)) st = some (.int (2 * (k : Int)), st) := mul_i (by rw [show b64 2 = true from rfl]; rfl) st
  simp only [sFor, iR2, aC, aN, eC, eV, Mm.e2, oAdd, hm, Mm.R.bind, Mm.R.of, List.getElem?_cons_succ, List.getElem?_cons_zero, hb1, hb2, Bool.and_self, if_true]
  rw [show (2 * (k : Int) + 1 - ((k : Int) + 1)).toNat = k by omega]
  exact hy
theorem lcmF_dvd : ∀ (j a C : Nat), C ∣ lcmF j a C ∧ ∀ t, a ≤ t → t < a + j → t ∣ lcmF j a C
  | 0, a, C => ⟨Nat.dvd_refl C, fun t h1 h2 => by omega⟩
  | j + 1, a, C => by
    have h := lcmF_dvd j (a + 1) (Nat.lcm C a)
    refine ⟨Nat.dvd_trans (Nat.dvd_lcm_left C a) h.1, fun t h1 h2 => ?_⟩
    by_cases ht : t = a
    · subst ht; exact Nat.dvd_trans (Nat.dvd_lcm_right C t) h.1
    · exact h.2 t (by omega) (by omega)
theorem lcmF_pos : ∀ (j a C : Nat), 0 < C → 1 ≤ a → 0 < lcmF j a C
  | 0, _, _, h, _ => h
  | j + 1, a, C, h, h1 => lcmF_pos j (a + 1) _ (Nat.lcm_pos h (by omega)) (by omega)
theorem lcmF_lt : ∀ (j a C : Nat), C * 64 ^ j < lcmTop → 1 ≤ a → a + j ≤ 64 → lcmF j a C < lcmTop
  | 0, a, C, h, _, _ => by simpa [lcmF] using h
  | j + 1, a, C, h, h1, h2 => by
    have hle : Nat.lcm C a ≤ C * 64 := Nat.le_trans (by
      by_cases h0 : C * a = 0
      · rcases Nat.mul_eq_zero.mp h0 with z | z <;> simp [z]
      · exact Nat.le_of_dvd (by omega) (Nat.lcm_dvd_mul _ _)) (Nat.mul_le_mul_left C (show a ≤ 64 by omega))
    exact lcmF_lt j (a + 1) _ (Nat.lt_of_le_of_lt (Nat.mul_le_mul_right _ hle) (by rw [Nat.pow_succ, Nat.mul_comm (64 ^ j), ← Nat.mul_assoc] at h; exact h)) (by omega) (by omega)
theorem comm_lt (k : Nat) (hk : k ≤ 24) : comm k < lcmTop := lcmF_lt k (k + 1) 1 (comm_top k hk) (by omega) (by omega)
theorem comm_pos (k : Nat) : 0 < comm k := lcmF_pos k (k + 1) 1 (by decide) (by omega)
theorem comm_dvd (k t : Nat) (h1 : 1 ≤ t) (h2 : t ≤ k) : (k + t) ∣ comm k := (lcmF_dvd k (k + 1) 1).2 (k + t) (by omega) (by omega)
end Gk12

namespace Gk12
open Mm
def nz (l : List Nat) : List Int := l.map fun (n : Nat) => (n : Int)
theorem cut_to (ns : List Int) (a : Nat) : cutD (ns.map D.int) none (some (a : Nat)) = (ns.take a).map .int := by
  simp only [cutD, HT.sIx_none, HT.sIx_nat, List.length_map, List.drop_zero, Nat.sub_zero, List.map_take]
  rw [← List.length_map (f := D.int), ← List.take_eq_take_min]
theorem cut_from (ns : List Int) (a : Nat) : cutD (ns.map D.int) (some (a : Nat)) none = (ns.drop a).map .int := by
  simp only [cutD, HT.sIx_none, HT.sIx_nat, List.length_map, List.map_drop]
  rw [List.take_of_length_le (by simp)]
  by_cases h : a ≤ ns.length
  · rw [Nat.min_eq_left h]
  · rw [Nat.min_eq_right (by omega), List.drop_eq_nil_of_le (by simp), List.drop_eq_nil_of_le (by simp; omega)]
theorem zipD_ints : ∀ a b : List Int, zipD (a.map .int) (b.map .int) = (a.zip b).map fun p => .tup [.int p.1, .int p.2]
  | [], _ => by simp [zipD]
  | _ :: _, [] => by simp [zipD]
  | x :: a, y :: b => by simp [zipD, zipD_ints a b]
theorem seqG_tup (st : Sto) (xs : List D) : seqG st (.tup xs) = some (xs, fun _ => true) := by simp [seqG]
/-- what a choice costs, times the common multiple -/
def cP (k C : Nat) (ws : List Nat) (x : Nat × List Int) : Nat := cN k C ((outO x.1 ws).zip (x.2.map Int.toNat))
def costF (k C : Nat) : D → D
  | .tup [.int w, .int t] => .int (Int.fdiv (w * 2 * C) (k + t))
  | d => d
theorem cost_sum (k C : Nat) : ∀ (os : List Nat) (l : List Int), (∀ x ∈ l, 1 ≤ x) → (((nz os).zip l).map fun p : Int × Int => Int.fdiv (p.1 * 2 * C) (k + p.2)).sum = ((cN k C (os.zip (l.map Int.toNat)) : Nat) : Int)
  | [], l, _ => by simp [nz, cN]
  | o :: os, [], _ => by simp [nz, cN]
  | o :: os, t :: l, h => by
    have ih := cost_sum k C os l (fun x hx => h x (by simp [hx]))
    have ht := h t (by simp)
    obtain ⟨u, rfl⟩ : ∃ u : Nat, (u : Int) = t := ⟨t.toNat, by omega⟩
    have e1 := fdiv_nat (o * 2 * C) (k + u)
    simp only [nz, List.map_cons, List.zip_cons_cons, List.sum_cons, cN, Int.toNat_natCast] at ih ⊢
    rw [ih]
    rw [show (o : Int) * 2 * (C : Int) = ((o * 2 * C : Nat) : Int) by simp, show (k : Int) + (u : Int) = ((k + u : Nat) : Int) by simp, e1]
    simp
theorem cost_ev (k C : Nat) (hk1 : 1 ≤ k) (hk : k ≤ 60) (os : List Nat) (ho : ∀ x ∈ os, x ≤ 1000) (l : List Int) (hl : l.length ≤ 50) (hp : ∀ x ∈ l, 1 ≤ x ∧ x ≤ k) (x1 x2 x4 x5 x8 x9 x10 : Option D) (st : Sto) :
    ∃ r, eN oSum (aC (eLc [9, 10] (iZp (eV 6) (eV 7)) (tgTup (tgCons (tgN 9) (tgCons (tgN 10) tgNil))) bYes E1_cheapest) aN) [some (.int (k : Nat)), x1, x2, some (.int (C : Nat)), x4, x5, some (.tup ((nz os).map .int)), some (.tup (l.map .int)), x8, x9, x10] st = .ok (.int ((cN k C (os.zip (l.map Int.toNat)) : Nat) : Int)) (st ++ r) := by
  have hs : iZp (eV 6) (eV 7) [some (.int (k : Nat)), x1, x2, some (.int (C : Nat)), x4, x5, some (.tup ((nz os).map .int)), some (.tup (l.map .int)), x8, x9, x10] st = .ok ⟨zipD ((nz os).map .int) (l.map .int), fun _ => true⟩ st := by
    simp only [iZp, eV, List.getElem?_cons_succ, List.getElem?_cons_zero, Mm.R.bind, seqG_tup, Bool.and_self]
  obtain ⟨r, h3⟩ := lc_map (own := [9, 10]) (t := tgTup (tgCons (tgN 9) (tgCons (tgN 10) tgNil))) (f := E1_cheapest) (costF k C) hs (fun acc r => rfl) (by rw [zipD_len]; simp; unfold lim; omega) (fun d hd => by
    rw [zipD_ints] at hd
    obtain ⟨p, hp1, rfl⟩ := List.mem_map.mp hd
    obtain ⟨w, t⟩ := p
    have hw := (List.of_mem_zip hp1).1
    have ht := hp t (List.of_mem_zip hp1).2
    obtain ⟨o, ho1, rfl⟩ := List.mem_map.mp hw
    have hb := ho o ho1
    refine ⟨[some (.int (k : Nat)), x1, x2, some (.int (C : Nat)), x4, x5, some (.tup ((nz os).map .int)), some (.tup (l.map .int)), x8, some (.int (o : Nat)), some (.int t)], rfl, fun acc r => ⟨r, ?_⟩⟩
    have m1 : b64 ((o : Int) * 2) = true := b64_of (by omega) (by omega)
    have m2 : b64 (2 : Int) = true := rfl
    have m3 : ((k : Int) + t) ≠ 0 := by omega
    have m4 : ((k : Int) + t).natAbs < 1073741824 := by omega
    rw [E1_cheapest_ap]
    generalize (nz os).map D.int = L1 at *
    generalize l.map D.int = L2 at *
    simp [fnS, eV, eC, Mm.e1, Mm.e2, eN, aN, aC, eCall, eTup, eLst, eIf, eCh, eAndT, eOrT, eNotT, bB, bAnd, bOr, bNot, bTru, tru, sSeq, sSet, sEx, sRet, sRetN, sNx, sNo, sBrk, sCt, sIf, sPar, sPar3, sAsg, tgN, tgNil, tgCons, tgTup, Mm.R.bind, Mm.R.of, Mm.R.st, oAdd, oSub, mul_i, oDiv, oMod, oPow, oCmpI, oLt, oLe, oGt, oGe, oIs, oIsN, oEq, oNe, eqF, b64_of, oIx, seqOf, lstOf, cellItems, sStore, eSl, eO, oLen, oInt, oListOf, oTupOf, oMax, oMin, oSum, oGcd, intsOf, oIsi, tyName, oNeg, eM1, eM0, isLst, oApp, oExt, oPopAt, oPop, fin_i, fin_b, fin_n, fin_s, fin_t2, at0, at1, at2, at3, at4, cut1, ix0, ix1, ix2, m1, m2, m3, m4, oMul, costF])
  refine ⟨Cell.lst (((((nz os).zip l).map fun p : Int × Int => Int.fdiv (p.1 * 2 * C) (k + p.2))).map .int) :: r, ?_⟩
  have e4 : (zipD ((nz os).map .int) (l.map .int)).map (costF k C) = (((nz os).zip l).map fun p : Int × Int => Int.fdiv (p.1 * 2 * C) (k + p.2)).map .int := by
    rw [zipD_ints, List.map_map, List.map_map]
    rfl
  rw [e4] at h3
  simp only [eN, aC, aN, h3, Mm.R.bind, oSum, seqOf, cellItems, app_get, intsOf_mapT, Option.bind, Option.map, Mm.R.of, cost_sum k C os l (fun x hx => (hp x hx).1)]
def ltP (k C : Nat) (ws : List Nat) (x y : Nat × List Int) : Bool := decide (cP k C ws x < cP k C ws y)
def leastD (k C : Nat) (ws : List Nat) : Option (Nat × List Int) → D
  | none => .non
  | some x => .tup [.int (cP k C ws x : Nat), .int (x.1 : Nat), .tup ((ins x.1 x.2).map .int)]
theorem cheap1 (k C : Nat) (hk1 : 1 ≤ k) (hk : k ≤ 60) (ws : List Nat) (ho : ∀ x ∈ ws, x ≤ 1000) (d : Nat) (b : Option (Nat × List Int)) (l : List Int) (hl : l.length ≤ 50) (hp : ∀ x ∈ l, 1 ≤ x ∧ x ≤ k) (x1 x2 x8 x9 x10 : Option D) (st : Sto) :
    ∃ y8 r, L1_cheapest [some (.int (k : Nat)), x1, x2, some (.int (C : Nat)), some (leastD k C ws b), some (.int (d : Nat)), some (.tup ((nz (outO d ws)).map .int)), some (.tup (l.map .int)), x8, x9, x10] st
      = .nx [some (.int (k : Nat)), x1, x2, some (.int (C : Nat)), some (leastD k C ws (bet (ltP k C ws) (d, l) b)), some (.int (d : Nat)), some (.tup ((nz (outO d ws)).map .int)), some (.tup (l.map .int)), y8, x9, x10] (st ++ r) := by
  obtain ⟨r, h1⟩ := cost_ev k C hk1 hk (outO d ws) (fun x hx => by
    rcases List.mem_append.mp hx with hx | hx
    · exact ho x (List.mem_of_mem_take hx)
    · exact ho x (List.mem_of_mem_drop hx)) l hl hp x1 x2 (some (leastD k C ws b)) (some (.int (d : Nat))) x8 x9 x10 st
  refine ⟨some (.int (cP k C ws (d, l) : Nat)), r, ?_⟩
  rw [L1_cheapest_ap]
  refine seq_nx (set_ok h1) ?_
  simp only [List.set]
  have c1 := cut_to l d
  have c2 := cut_from l d
  have l1 : (l.take d).length + 1 ≤ lim := by unfold lim; simp; omega
  have l2 : (l.take d).length + 1 + (l.drop d).length ≤ lim := by unfold lim; simp; omega
  have tup : ∀ (x4 x8 : Option D), eTup (aC (eV 8) (aC (eV 5) (aC (e2 oAdd (e2 oAdd (eSl (eV 7) none (some (eV 5))) (eTup (aC (eC (.int 0)) aN))) (eSl (eV 7) (some (eV 5)) none)) aN))) [some (.int (k : Nat)), x1, x2, some (.int (C : Nat)), x4, some (.int (d : Nat)), some (.tup ((nz (outO d ws)).map .int)), some (.tup (l.map .int)), some (.int (cP k C ws (d, l) : Nat)), x9, x10] (st ++ r) = .ok (leastD k C ws (some (d, l))) (st ++ r) := by
    intro x4 x8
    have e : ((ins d l).map D.int) = (l.take d).map .int ++ [.int 0] ++ (l.drop d).map .int := by simp [ins]
    have lt : ((l.take d).map D.int).length = (l.take d).length := by simp
    have ld : ((l.drop d).map D.int).length = (l.drop d).length := by simp
    rw [← lt] at l1 l2
    rw [← ld] at l2
    simp only [leastD, e]
    generalize (nz (outO d ws)).map D.int = L1 at *
    generalize l.map D.int = L2 at *
    generalize (l.take d).map D.int = L3 at *
    generalize (l.drop d).map D.int = L4 at *
    simp [fnS, eV, eC, Mm.e1, Mm.e2, eN, aN, aC, eCall, eTup, eLst, eIf, eCh, eAndT, eOrT, eNotT, bB, bAnd, bOr, bNot, bTru, tru, sSeq, sSet, sEx, sRet, sRetN, sNx, sNo, sBrk, sCt, sIf, sPar, sPar3, sAsg, tgN, tgNil, tgCons, tgTup, Mm.R.bind, Mm.R.of, Mm.R.st, oAdd, oSub, mul_i, oDiv, oMod, oPow, oCmpI, oLt, oLe, oGt, oGe, oIs, oIsN, oEq, oNe, eqF, b64_of, oIx, seqOf, lstOf, cellItems, sStore, eSl, eO, oLen, oInt, oListOf, oTupOf, oMax, oMin, oSum, oGcd, intsOf, oIsi, tyName, oNeg, eM1, eM0, isLst, oApp, oExt, oPopAt, oPop, fin_i, fin_b, fin_n, fin_s, fin_t2, at0, at1, at2, at3, at4, cut1, ix0, ix1, ix2, c1, c2, l1, l2]
  have hset := fun x8 => set_ok (i := 4) (tup (some (leastD k C ws b)) x8)
  simp only [List.set] at hset
  show sIf _ _ _ [some (.int (k : Nat)), x1, x2, some (.int (C : Nat)), some (leastD k C ws b), some (.int (d : Nat)), some (.tup ((nz (outO d ws)).map .int)), some (.tup (l.map .int)), some (.int (cP k C ws (d, l) : Nat)), x9, x10] (st ++ r) = _
  cases b with
  | none =>
    unfold sIf
    rw [or_t (by simp [fnS, eV, eC, Mm.e1, Mm.e2, eN, aN, aC, eCall, eTup, eLst, eIf, eCh, eAndT, eOrT, eNotT, bB, bAnd, bOr, bNot, bTru, tru, sSeq, sSet, sEx, sRet, sRetN, sNx, sNo, sBrk, sCt, sIf, sPar, sPar3, sAsg, tgN, tgNil, tgCons, tgTup, Mm.R.bind, Mm.R.of, Mm.R.st, oAdd, oSub, mul_i, oDiv, oMod, oPow, oCmpI, oLt, oLe, oGt, oGe, oIs, oIsN, oEq, oNe, eqF, b64_of, oIx, seqOf, lstOf, cellItems, sStore, eSl, eO, oLen, oInt, oListOf, oTupOf, oMax, oMin, oSum, oGcd, intsOf, oIsi, tyName, oNeg, eM1, eM0, isLst, oApp, oExt, oPopAt, oPop, fin_i, fin_b, fin_n, fin_s, fin_t2, at0, at1, at2, at3, at4, cut1, ix0, ix1, ix2, leastD])]
    exact hset x8
  | some y =>
    by_cases hlt : cP k C ws (d, l) < cP k C ws y
    · unfold sIf
      rw [or_f (r := .ok true (st ++ r)) (by simp [fnS, eV, eC, Mm.e1, Mm.e2, eN, aN, aC, eCall, eTup, eLst, eIf, eCh, eAndT, eOrT, eNotT, bB, bAnd, bOr, bNot, bTru, tru, sSeq, sSet, sEx, sRet, sRetN, sNx, sNo, sBrk, sCt, sIf, sPar, sPar3, sAsg, tgN, tgNil, tgCons, tgTup, Mm.R.bind, Mm.R.of, Mm.R.st, oAdd, oSub, mul_i, oDiv, oMod, oPow, oCmpI, oLt, oLe, oGt, oGe, oIs, oIsN, oEq, oNe, eqF, b64_of, oIx, seqOf, lstOf, cellItems, sStore, eSl, eO, oLen, oInt, oListOf, oTupOf, oMax, oMin, oSum, oGcd, intsOf, oIsi, tyName, oNeg, eM1, eM0, isLst, oApp, oExt, oPopAt, oPop, fin_i, fin_b, fin_n, fin_s, fin_t2, at0, at1, at2, at3, at4, cut1, ix0, ix1, ix2, leastD]) (by
        have : ((cP k C ws (d, l) : Nat) : Int) < ((cP k C ws y : Nat) : Int) := by omega
        simp only [leastD]
        generalize ((cP k C ws (d, l) : Nat) : Int) = A at *
        generalize ((cP k C ws y : Nat) : Int) = B at *
        simp [fnS, eV, eC, Mm.e1, Mm.e2, eN, aN, aC, eCall, eTup, eLst, eIf, eCh, eAndT, eOrT, eNotT, bB, bAnd, bOr, bNot, bTru, tru, sSeq, sSet, sEx, sRet, sRetN, sNx, sNo, sBrk, sCt, sIf, sPar, sPar3, sAsg, tgN, tgNil, tgCons, tgTup, Mm.R.bind, Mm.R.of, Mm.R.st, oAdd, oSub, mul_i, oDiv, oMod, oPow, oCmpI, oLt, oLe, oGt, oGe, oIs, oIsN, oEq, oNe, eqF, b64_of, oIx, seqOf, lstOf, cellItems, sStore, eSl, eO, oLen, oInt, oListOf, oTupOf, oMax, oMin, oSum, oGcd, intsOf, oIsi, tyName, oNeg, eM1, eM0, isLst, oApp, oExt, oPopAt, oPop, fin_i, fin_b, fin_n, fin_s, fin_t2, at0, at1, at2, at3, at4, cut1, ix0, ix1, ix2, this])]
      have := hset x8
      simp only [bet, ltP, hlt, decide_true, if_true]
      exact this
    · rw [if_no (or_ff (by simp [fnS, eV, eC, Mm.e1, Mm.e2, eN, aN, aC, eCall, eTup, eLst, eIf, eCh, eAndT, eOrT, eNotT, bB, bAnd, bOr, bNot, bTru, tru, sSeq, sSet, sEx, sRet, sRetN, sNx, sNo, sBrk, sCt, sIf, sPar, sPar3, sAsg, tgN, tgNil, tgCons, tgTup, Mm.R.bind, Mm.R.of, Mm.R.st, oAdd, oSub, mul_i, oDiv, oMod, oPow, oCmpI, oLt, oLe, oGt, oGe, oIs, oIsN, oEq, oNe, eqF, b64_of, oIx, seqOf, lstOf, cellItems, sStore, eSl, eO, oLen, oInt, oListOf, oTupOf, oMax, oMin, oSum, oGcd, intsOf, oIsi, tyName, oNeg, eM1, eM0, isLst, oApp, oExt, oPopAt, oPop, fin_i, fin_b, fin_n, fin_s, fin_t2, at0, at1, at2, at3, at4, cut1, ix0, ix1, ix2, leastD]) (by
        have : ¬ ((cP k C ws (d, l) : Nat) : Int) < ((cP k C ws y : Nat) : Int) := by omega
        simp only [leastD]
        generalize ((cP k C ws (d, l) : Nat) : Int) = A at *
        generalize ((cP k C ws y : Nat) : Int) = B at *
        simp [fnS, eV, eC, Mm.e1, Mm.e2, eN, aN, aC, eCall, eTup, eLst, eIf, eCh, eAndT, eOrT, eNotT, bB, bAnd, bOr, bNot, bTru, tru, sSeq, sSet, sEx, sRet, sRetN, sNx, sNo, sBrk, sCt, sIf, sPar, sPar3, sAsg, tgN, tgNil, tgCons, tgTup, Mm.R.bind, Mm.R.of, Mm.R.st, oAdd, oSub, mul_i, oDiv, oMod, oPow, oCmpI, oLt, oLe, oGt, oGe, oIs, oIsN, oEq, oNe, eqF, b64_of, oIx, seqOf, lstOf, cellItems, sStore, eSl, eO, oLen, oInt, oListOf, oTupOf, oMax, oMin, oSum, oGcd, intsOf, oIsi, tyName, oNeg, eM1, eM0, isLst, oApp, oExt, oPopAt, oPop, fin_i, fin_b, fin_n, fin_s, fin_t2, at0, at1, at2, at3, at4, cut1, ix0, ix1, ix2, this]))]
      simp only [bet, ltP, hlt, decide_false, Bool.false_eq_true, if_false]
end Gk12

namespace Gk12
open Mm
theorem cheap2 (k C : Nat) (hk1 : 1 ≤ k) (hk : k ≤ 60) (ws : List Nat) (ho : ∀ x ∈ ws, x ≤ 1000) (d : Nat) (x1 x2 : Option D) (st : Sto) (g : Sto → Bool) (hg : ∀ r, g (st ++ r) = true) : ∀ (ls : List (List Int)) (b : Option (Nat × List Int)) (x7 x8 x9 x10 : Option D) (r : Sto), (∀ l ∈ ls, l.length ≤ 50 ∧ ∀ x ∈ l, 1 ≤ x ∧ x ≤ (k : Int)) →
    ∃ y7 y8 r', forL g (tgN 7) L1_cheapest (encL ls) [some (.int (k : Nat)), x1, x2, some (.int (C : Nat)), some (leastD k C ws b), some (.int (d : Nat)), some (.tup ((nz (outO d ws)).map .int)), x7, x8, x9, x10] (st ++ r)
      = .nx [some (.int (k : Nat)), x1, x2, some (.int (C : Nat)), some (leastD k C ws (pk (ltP k C ws) d ls b)), some (.int (d : Nat)), some (.tup ((nz (outO d ws)).map .int)), y7, y8, x9, x10] (st ++ r')
  | [], b, x7, x8, x9, x10, r, _ => ⟨x7, x8, r, for_nil (hg r)⟩
  | l :: ls, b, x7, x8, x9, x10, r, hl => by
    obtain ⟨y8, r1, h1⟩ := cheap1 k C hk1 hk ws ho d b l (hl l (by simp)).1 (hl l (by simp)).2 x1 x2 x8 x9 x10 (st ++ r)
    rw [List.append_assoc] at h1
    obtain ⟨z7, z8, r2, h2⟩ := cheap2 k C hk1 hk ws ho d x1 x2 st g hg ls (bet (ltP k C ws) (d, l) b) (some (.tup (l.map .int))) y8 x9 x10 (r ++ r1) (fun x hx => hl x (by simp [hx]))
    exact ⟨z7, z8, r2, for_nx (e1 := [some (.int (k : Nat)), x1, x2, some (.int (C : Nat)), some (leastD k C ws b), some (.int (d : Nat)), some (.tup ((nz (outO d ws)).map .int)), some (.tup (l.map .int)), x8, x9, x10]) (hg r) rfl h1 h2⟩
theorem nz_take (ws : List Nat) (d : Nat) : (nz ws).take d = nz (ws.take d) := by simp [nz]
theorem nz_drop (ws : List Nat) (d : Nat) : (nz ws).drop d = nz (ws.drop d) := by simp [nz]
theorem cheap3 (k C : Nat) (hk1 : 1 ≤ k) (hk : k ≤ 60) (ws : List Nat) (ho : ∀ x ∈ ws, x ≤ 1000) (hw : ws.length ≤ 50) (st : Sto) (i : Nat) (ls : List (List Int)) (hi : st[i]? = some (.lst (encL ls))) (hl : ∀ l ∈ ls, l.length ≤ 50 ∧ ∀ x ∈ l, 1 ≤ x ∧ x ≤ (k : Int)) : ∀ (j d : Nat) (b : Option (Nat × List Int)) (x5 x6 x7 x8 x9 x10 : Option D) (r : Sto),
    ∃ y5 y6 y7 y8 r', forL (fun _ => true) (tgN 5) L2_cheapest (intsUp (d : Nat) j) [some (.int (k : Nat)), some (.tup ((nz ws).map .int)), some (.ref i), some (.int (C : Nat)), some (leastD k C ws b), x5, x6, x7, x8, x9, x10] (st ++ r)
      = .nx [some (.int (k : Nat)), some (.tup ((nz ws).map .int)), some (.ref i), some (.int (C : Nat)), some (leastD k C ws (pks (ltP k C ws) ls j d b)), y5, y6, y7, y8, x9, x10] (st ++ r')
  | 0, d, b, x5, x6, x7, x8, x9, x10, r => ⟨x5, x6, x7, x8, r, for_nil rfl⟩
  | j + 1, d, b, x5, x6, x7, x8, x9, x10, r => by
    have hil : i < st.length := (List.getElem?_eq_some_iff.mp hi).1
    have hi2 : (st ++ r)[i]? = some (.lst (encL ls)) := by rw [app_low hil]; exact hi
    obtain ⟨y7, y8, r1, h1⟩ := cheap2 k C hk1 hk ws ho d (some (.tup ((nz ws).map .int))) (some (.ref i)) st (fun q => decide (q[i]? = (st ++ r)[i]?)) (fun r' => by simp only [app_low hil, decide_true]) ls b x7 x8 x9 x10 r hl
    obtain ⟨z5, z6, z7, z8, r2, h2⟩ := cheap3 k C hk1 hk ws ho hw st i ls hi hl j (d + 1) (pk (ltP k C ws) d ls b) (some (.int (d : Nat))) (some (.tup ((nz (outO d ws)).map .int))) y7 y8 x9 x10 r1
    refine ⟨z5, z6, z7, z8, r2, ?_⟩
    rw [up_succ]
    refine for_nx (e1 := [some (.int (k : Nat)), some (.tup ((nz ws).map .int)), some (.ref i), some (.int (C : Nat)), some (leastD k C ws b), some (.int (d : Nat)), x6, x7, x8, x9, x10]) rfl rfl ?_ h2
    rw [L2_cheapest_ap]
    refine seq_nx (e1 := [some (.int (k : Nat)), some (.tup ((nz ws).map .int)), some (.ref i), some (.int (C : Nat)), some (leastD k C ws b), some (.int (d : Nat)), some (.tup ((nz (outO d ws)).map .int)), x7, x8, x9, x10]) (st1 := st ++ r) ?_ ?_
    · have c1 := cut_to (nz ws) d
      have c2 := cut_from (nz ws) (d + 1)
      rw [show ((d + 1 : Nat) : Int) = (d : Int) + 1 by omega] at c2
      have e : ((nz (outO d ws)).map D.int) = ((nz ws).take d).map .int ++ ((nz ws).drop (d + 1)).map .int := by rw [nz_take, nz_drop]; simp [nz, outO]
      have l1 : (((nz ws).take d).map D.int).length + (((nz ws).drop (d + 1)).map D.int).length ≤ lim := by simp [nz]; unfold lim; omega
      rw [e]
      generalize leastD k C ws b = B
      generalize ((nz ws).take d).map D.int = L1 at *
      generalize ((nz ws).drop (d + 1)).map D.int = L2 at *
      generalize (nz ws).map D.int = L at *
      simp [fnS, eV, eC, Mm.e1, Mm.e2, eN, aN, aC, eCall, eTup, eLst, eIf, eCh, eAndT, eOrT, eNotT, bB, bAnd, bOr, bNot, bTru, tru, sSeq, sSet, sEx, sRet, sRetN, sNx, sNo, sBrk, sCt, sIf, sPar, sPar3, sAsg, tgN, tgNil, tgCons, tgTup, Mm.R.bind, Mm.R.of, Mm.R.st, oAdd, oSub, mul_i, oDiv, oMod, oPow, oCmpI, oLt, oLe, oGt, oGe, oIs, oIsN, oEq, oNe, eqF, b64_of, oIx, seqOf, lstOf, cellItems, sStore, eSl, eO, oLen, oInt, oListOf, oTupOf, oMax, oMin, oSum, oGcd, intsOf, oIsi, tyName, oNeg, eM1, eM0, isLst, oApp, oExt, oPopAt, oPop, fin_i, fin_b, fin_n, fin_s, fin_t2, at0, at1, at2, at3, at4, cut1, ix0, ix1, ix2, c1, c2, l1]
    · unfold sFor
      rw [seq_new (a := eV 2) (xs := encL ls) (i := i) (s1 := st ++ r) rfl hi2]
      exact h1
theorem check_ok (ws : List Nat) (h1 : 1 ≤ ws.length) (h2 : ws.length ≤ 5) (ho : ∀ x ∈ ws, x ≤ 1000) (st : Sto) : s_check_weights [.tup ((nz ws).map .int)] st = .ok .non st := by
  have hw := wrong_any ((nz ws).map .int) 1 5 0 1000 st (by simp [nz]; omega) (by simp [nz]; omega) (noRf_ints _)
  rw [badAt_ints 0 1000 (nz ws) 0 (fun x hx => by obtain ⟨n, hn, rfl⟩ := List.mem_map.mp hx; have := ho n hn; omega)] at hw
  simp [s_check_weights, hw, fnS, eV, eC, Mm.e1, Mm.e2, eN, aN, aC, eCall, eTup, eLst, eIf, eCh, eAndT, eOrT, eNotT, bB, bAnd, bOr, bNot, bTru, tru, sSeq, sSet, sEx, sRet, sRetN, sNx, sNo, sBrk, sCt, sIf, sPar, sPar3, sAsg, tgN, tgNil, tgCons, tgTup, Mm.R.bind, Mm.R.of, Mm.R.st, oAdd, oSub, mul_i, oDiv, oMod, oPow, oCmpI, oLt, oLe, oGt, oGe, oIs, oIsN, oEq, oNe, eqF, b64_of, oIx, seqOf, lstOf, cellItems, sStore, eSl, eO, oLen, oInt, oListOf, oTupOf, oMax, oMin, oSum, oGcd, intsOf, oIsi, tyName, oNeg, eM1, eM0, isLst, oApp, oExt, oPopAt, oPop, fin_i, fin_b, fin_n, fin_s, fin_t2, at0, at1, at2, at3, at4, cut1, ix0, ix1, ix2, optD]
def askD (k : Nat) (ws : List Nat) (z : Nat × List Int) : D := .tup [lowT (cP k (comm k) ws z) (comm k), .int (z.1 : Nat), .tup ((ins z.1 z.2).map .int)]
theorem flat_ask (k : Nat) (ws : List Nat) (z : Nat × List Int) : flatD (askD k ws z) = true := by
  simp only [askD, lowT, flatD, flatDs, flat_ints, Bool.and_self]
theorem room_test (k m : Nat) (ws : List Nat) (hw : ws.length = m + 1) (x2 x3 x4 x5 x6 x7 x8 x9 x10 : Option D) (st : Sto) : bB (e2 oGt (e2 oSub (eN oLen (aC (eV 1) aN)) (eC (.int 1))) (e2 oDiv (e2 oAdd (eV 0) (eC (.int 1))) (eC (.int 2)))) [some (.int (k : Nat)), some (.tup ((nz ws).map .int)), x2, x3, x4, x5, x6, x7, x8, x9, x10] st = .ok (decide ((k + 1) / 2 < m)) st := by
  have hl : (((nz ws).map D.int).length : Int) = (m : Int) + 1 := by simp [nz]; omega
  have f1 : Int.fdiv ((k : Int) + 1) 2 = (((k + 1) / 2 : Nat) : Int) := by
    have := fdiv_nat (k + 1) 2
    simpa using this
  have hm : (m : Int) + 1 - 1 = (m : Int) := by omega
  generalize (nz ws).map D.int = L at *
  generalize (k + 1) / 2 = q at *
  by_cases h : q < m
  · have h2 : (q : Int) < (m : Int) := by omega
    simp [fnS, eV, eC, Mm.e1, Mm.e2, eN, aN, aC, eCall, eTup, eLst, eIf, eCh, eAndT, eOrT, eNotT, bB, bAnd, bOr, bNot, bTru, tru, sSeq, sSet, sEx, sRet, sRetN, sNx, sNo, sBrk, sCt, sIf, sPar, sPar3, sAsg, tgN, tgNil, tgCons, tgTup, Mm.R.bind, Mm.R.of, Mm.R.st, oAdd, oSub, mul_i, oDiv, oMod, oPow, oCmpI, oLt, oLe, oGt, oGe, oIs, oIsN, oEq, oNe, eqF, b64_of, oIx, seqOf, lstOf, cellItems, sStore, eSl, eO, oLen, oInt, oListOf, oTupOf, oMax, oMin, oSum, oGcd, intsOf, oIsi, tyName, oNeg, eM1, eM0, isLst, oApp, oExt, oPopAt, oPop, fin_i, fin_b, fin_n, fin_s, fin_t2, at0, at1, at2, at3, at4, cut1, ix0, ix1, ix2, hl, f1, hm, h, h2]
  · have h2 : ¬ (q : Int) < (m : Int) := by omega
    simp [fnS, eV, eC, Mm.e1, Mm.e2, eN, aN, aC, eCall, eTup, eLst, eIf, eCh, eAndT, eOrT, eNotT, bB, bAnd, bOr, bNot, bTru, tru, sSeq, sSet, sEx, sRet, sRetN, sNx, sNo, sBrk, sCt, sIf, sPar, sPar3, sAsg, tgN, tgNil, tgCons, tgTup, Mm.R.bind, Mm.R.of, Mm.R.st, oAdd, oSub, mul_i, oDiv, oMod, oPow, oCmpI, oLt, oLe, oGt, oGe, oIs, oIsN, oEq, oNe, eqF, b64_of, oIx, seqOf, lstOf, cellItems, sStore, eSl, eO, oLen, oInt, oListOf, oTupOf, oMax, oMin, oSum, oGcd, intsOf, oIsi, tyName, oNeg, eM1, eM0, isLst, oApp, oExt, oPopAt, oPop, fin_i, fin_b, fin_n, fin_s, fin_t2, at0, at1, at2, at3, at4, cut1, ix0, ix1, ix2, hl, f1, hm, h, h2]
theorem no_room (k m : Nat) (hk1 : 1 ≤ k) (hk : k ≤ 24) (ws : List Nat) (hw : ws.length = m + 1) (hm : m ≤ 4) (ho : ∀ x ∈ ws, x ≤ 1000) (hr : (k + 1) / 2 < m) (st : Sto) : s_cheapest [.int (k : Nat), .tup ((nz ws).map .int)] st = .ex ⟨"NoRoom", .int 0⟩ st := by
  have g1 := made_k_ok (k : Nat) st (by omega) (by omega)
  have g2 := check_ok ws (by omega) (by omega) ho st
  have g3 := room_test k m ws hw none none none none none none none none none st
  rw [show decide ((k + 1) / 2 < m) = true from decide_eq_true hr] at g3
  have g4 : ¬ (24 : Int) < (k : Int) := by omega
  unfold s_cheapest fnS
  rw [seq_nx (e1 := [some (.int (k : Nat)), some (.tup ((nz ws).map .int)), none, none, none, none, none, none, none, none, none]) (st1 := st) (by simp [fnS, eV, eC, Mm.e1, Mm.e2, eN, aN, aC, eCall, eTup, eLst, eIf, eCh, eAndT, eOrT, eNotT, bB, bAnd, bOr, bNot, bTru, tru, sSeq, sSet, sEx, sRet, sRetN, sNx, sNo, sBrk, sCt, sIf, sPar, sPar3, sAsg, tgN, tgNil, tgCons, tgTup, Mm.R.bind, Mm.R.of, Mm.R.st, oAdd, oSub, mul_i, oDiv, oMod, oPow, oCmpI, oLt, oLe, oGt, oGe, oIs, oIsN, oEq, oNe, eqF, b64_of, oIx, seqOf, lstOf, cellItems, sStore, eSl, eO, oLen, oInt, oListOf, oTupOf, oMax, oMin, oSum, oGcd, intsOf, oIsi, tyName, oNeg, eM1, eM0, isLst, oApp, oExt, oPopAt, oPop, fin_i, fin_b, fin_n, fin_s, fin_t2, at0, at1, at2, at3, at4, cut1, ix0, ix1, ix2, g1]) (seq_if (by simp [fnS, eV, eC, Mm.e1, Mm.e2, eN, aN, aC, eCall, eTup, eLst, eIf, eCh, eAndT, eOrT, eNotT, bB, bAnd, bOr, bNot, bTru, tru, sSeq, sSet, sEx, sRet, sRetN, sNx, sNo, sBrk, sCt, sIf, sPar, sPar3, sAsg, tgN, tgNil, tgCons, tgTup, Mm.R.bind, Mm.R.of, Mm.R.st, oAdd, oSub, mul_i, oDiv, oMod, oPow, oCmpI, oLt, oLe, oGt, oGe, oIs, oIsN, oEq, oNe, eqF, b64_of, oIx, seqOf, lstOf, cellItems, sStore, eSl, eO, oLen, oInt, oListOf, oTupOf, oMax, oMin, oSum, oGcd, intsOf, oIsi, tyName, oNeg, eM1, eM0, isLst, oApp, oExt, oPopAt, oPop, fin_i, fin_b, fin_n, fin_s, fin_t2, at0, at1, at2, at3, at4, cut1, ix0, ix1, ix2, g4]) (seq_nx (e1 := [some (.int (k : Nat)), some (.tup ((nz ws).map .int)), none, none, none, none, none, none, none, none, none]) (st1 := st) (by simp [fnS, eV, eC, Mm.e1, Mm.e2, eN, aN, aC, eCall, eTup, eLst, eIf, eCh, eAndT, eOrT, eNotT, bB, bAnd, bOr, bNot, bTru, tru, sSeq, sSet, sEx, sRet, sRetN, sNx, sNo, sBrk, sCt, sIf, sPar, sPar3, sAsg, tgN, tgNil, tgCons, tgTup, Mm.R.bind, Mm.R.of, Mm.R.st, oAdd, oSub, mul_i, oDiv, oMod, oPow, oCmpI, oLt, oLe, oGt, oGe, oIs, oIsN, oEq, oNe, eqF, b64_of, oIx, seqOf, lstOf, cellItems, sStore, eSl, eO, oLen, oInt, oListOf, oTupOf, oMax, oMin, oSum, oGcd, intsOf, oIsi, tyName, oNeg, eM1, eM0, isLst, oApp, oExt, oPopAt, oPop, fin_i, fin_b, fin_n, fin_s, fin_t2, at0, at1, at2, at3, at4, cut1, ix0, ix1, ix2, g2]) (seq_exc (x := ⟨"NoRoom", .int 0⟩) (e1 := [some (.int (k : Nat)), some (.tup ((nz ws).map .int)), none, none, none, none, none, none, none, none, none]) (st1 := st) (by unfold sIf; rw [g3]; simp [sRaise, aC, aN, eC, Mm.R.bind]))))]
theorem cheapest_ok (k m : Nat) (hk1 : 1 ≤ k) (hk : k ≤ 24) (ws : List Nat) (hw : ws.length = m + 1) (hm : m ≤ 4) (ho : ∀ x ∈ ws, x ≤ 1000) (hr : m ≤ (k + 1) / 2) (z : Nat × List Int) (hz : pks (ltP k (comm k) ws) (lotsL (k : Nat) m) (m + 1) 0 none = some z) (st : Sto) : s_cheapest [.int (k : Nat), .tup ((nz ws).map .int)] st = .ok (askD k ws z) st := by
  have g1 := made_k_ok (k : Nat) st (by omega) (by omega)
  have g2 := check_ok ws (by omega) (by omega) ho st
  have g3 := room_test k m ws hw none none none none none none none none none st
  rw [show decide ((k + 1) / 2 < m) = false from decide_eq_false (by omega)] at g3
  have g4 : ¬ (24 : Int) < (k : Int) := by omega
  have hcap : ∀ a, a < m → (lotsL (k : Int) a).length * (k : Int).toNat ≤ 80000 := fun a ha => by rw [Int.toNat_natCast]; exact lots_cap k (by omega) a (by omega)
  have g5 := fit_ok (k : Nat) m st (by omega) (by omega) hm hcap
  have g6 := comm_ok k hk1 hk (st ++ [.lst (encL (lotsL k m))])
  obtain ⟨y5, y6, y7, y8, r', g7⟩ := cheap3 k (comm k) hk1 (by omega) ws ho (by omega) (st ++ [.lst (encL (lotsL k m))]) st.length (lotsL k m) app_get (fun l hl => ⟨by rw [lotsL_mem k m l hl]; omega, lots_pos k m l hl⟩) (m + 1) 0 none none none none none none none []
  rw [hz, List.append_nil] at g7
  have g8 := lowest_ok (cP k (comm k) ws z) (comm k) (st ++ [.lst (encL (lotsL k m))] ++ r') (comm_pos k) (comm_lt k hk)
  have hl : (((nz ws).map D.int).length : Int) = ((m + 1 : Nat) : Int) := by simp [nz]; omega
  have hl1 : ((m + 1 : Nat) : Int) - 1 = (m : Int) := by omega
  have hb : bigR ((m + 1 : Nat) : Int) = true := decide_eq_true (by omega)
  refine fn_flat (r := [.lst (encL (lotsL k m))] ++ r') (flat_ask k ws z) ?_
  show _ = RS.ret (askD k ws z) (st ++ ([.lst (encL (lotsL k m))] ++ r'))
  rw [← List.append_assoc]
  simp only [List.map_cons, List.map_nil, List.length_cons, List.length_nil, List.cons_append, List.nil_append, show 11 - (0 + 1 + 1) = 9 from rfl, List.replicate]
  generalize hL : (nz ws).map D.int = L at *
  refine seq_nx (e1 := [some (.int (k : Nat)), some (.tup L), none, none, none, none, none, none, none, none, none]) (st1 := st) (by simp [fnS, eV, eC, Mm.e1, Mm.e2, eN, aN, aC, eCall, eTup, eLst, eIf, eCh, eAndT, eOrT, eNotT, bB, bAnd, bOr, bNot, bTru, tru, sSeq, sSet, sEx, sRet, sRetN, sNx, sNo, sBrk, sCt, sIf, sPar, sPar3, sAsg, tgN, tgNil, tgCons, tgTup, Mm.R.bind, Mm.R.of, Mm.R.st, oAdd, oSub, mul_i, oDiv, oMod, oPow, oCmpI, oLt, oLe, oGt, oGe, oIs, oIsN, oEq, oNe, eqF, b64_of, oIx, seqOf, lstOf, cellItems, sStore, eSl, eO, oLen, oInt, oListOf, oTupOf, oMax, oMin, oSum, oGcd, intsOf, oIsi, tyName, oNeg, eM1, eM0, isLst, oApp, oExt, oPopAt, oPop, fin_i, fin_b, fin_n, fin_s, fin_t2, at0, at1, at2, at3, at4, cut1, ix0, ix1, ix2, g1]) ?_
  refine seq_if (by simp [fnS, eV, eC, Mm.e1, Mm.e2, eN, aN, aC, eCall, eTup, eLst, eIf, eCh, eAndT, eOrT, eNotT, bB, bAnd, bOr, bNot, bTru, tru, sSeq, sSet, sEx, sRet, sRetN, sNx, sNo, sBrk, sCt, sIf, sPar, sPar3, sAsg, tgN, tgNil, tgCons, tgTup, Mm.R.bind, Mm.R.of, Mm.R.st, oAdd, oSub, mul_i, oDiv, oMod, oPow, oCmpI, oLt, oLe, oGt, oGe, oIs, oIsN, oEq, oNe, eqF, b64_of, oIx, seqOf, lstOf, cellItems, sStore, eSl, eO, oLen, oInt, oListOf, oTupOf, oMax, oMin, oSum, oGcd, intsOf, oIsi, tyName, oNeg, eM1, eM0, isLst, oApp, oExt, oPopAt, oPop, fin_i, fin_b, fin_n, fin_s, fin_t2, at0, at1, at2, at3, at4, cut1, ix0, ix1, ix2, g4]) ?_
  refine seq_nx (e1 := [some (.int (k : Nat)), some (.tup L), none, none, none, none, none, none, none, none, none]) (st1 := st) (by simp [fnS, eV, eC, Mm.e1, Mm.e2, eN, aN, aC, eCall, eTup, eLst, eIf, eCh, eAndT, eOrT, eNotT, bB, bAnd, bOr, bNot, bTru, tru, sSeq, sSet, sEx, sRet, sRetN, sNx, sNo, sBrk, sCt, sIf, sPar, sPar3, sAsg, tgN, tgNil, tgCons, tgTup, Mm.R.bind, Mm.R.of, Mm.R.st, oAdd, oSub, mul_i, oDiv, oMod, oPow, oCmpI, oLt, oLe, oGt, oGe, oIs, oIsN, oEq, oNe, eqF, b64_of, oIx, seqOf, lstOf, cellItems, sStore, eSl, eO, oLen, oInt, oListOf, oTupOf, oMax, oMin, oSum, oGcd, intsOf, oIsi, tyName, oNeg, eM1, eM0, isLst, oApp, oExt, oPopAt, oPop, fin_i, fin_b, fin_n, fin_s, fin_t2, at0, at1, at2, at3, at4, cut1, ix0, ix1, ix2, g2]) ?_
  refine seq_if g3 ?_
  refine seq_nx (e1 := [some (.int (k : Nat)), some (.tup L), some (.ref st.length), none, none, none, none, none, none, none, none]) (st1 := st ++ [.lst (encL (lotsL k m))]) (by simp [fnS, eV, eC, Mm.e1, Mm.e2, eN, aN, aC, eCall, eTup, eLst, eIf, eCh, eAndT, eOrT, eNotT, bB, bAnd, bOr, bNot, bTru, tru, sSeq, sSet, sEx, sRet, sRetN, sNx, sNo, sBrk, sCt, sIf, sPar, sPar3, sAsg, tgN, tgNil, tgCons, tgTup, Mm.R.bind, Mm.R.of, Mm.R.st, oAdd, oSub, mul_i, oDiv, oMod, oPow, oCmpI, oLt, oLe, oGt, oGe, oIs, oIsN, oEq, oNe, eqF, b64_of, oIx, seqOf, lstOf, cellItems, sStore, eSl, eO, oLen, oInt, oListOf, oTupOf, oMax, oMin, oSum, oGcd, intsOf, oIsi, tyName, oNeg, eM1, eM0, isLst, oApp, oExt, oPopAt, oPop, fin_i, fin_b, fin_n, fin_s, fin_t2, at0, at1, at2, at3, at4, cut1, ix0, ix1, ix2, hl, hl1, g5]) ?_
  refine seq_nx (e1 := [some (.int (k : Nat)), some (.tup L), some (.ref st.length), some (.int (comm k : Nat)), none, none, none, none, none, none, none]) (st1 := st ++ [.lst (encL (lotsL k m))]) (by simp [fnS, eV, eC, Mm.e1, Mm.e2, eN, aN, aC, eCall, eTup, eLst, eIf, eCh, eAndT, eOrT, eNotT, bB, bAnd, bOr, bNot, bTru, tru, sSeq, sSet, sEx, sRet, sRetN, sNx, sNo, sBrk, sCt, sIf, sPar, sPar3, sAsg, tgN, tgNil, tgCons, tgTup, Mm.R.bind, Mm.R.of, Mm.R.st, oAdd, oSub, mul_i, oDiv, oMod, oPow, oCmpI, oLt, oLe, oGt, oGe, oIs, oIsN, oEq, oNe, eqF, b64_of, oIx, seqOf, lstOf, cellItems, sStore, eSl, eO, oLen, oInt, oListOf, oTupOf, oMax, oMin, oSum, oGcd, intsOf, oIsi, tyName, oNeg, eM1, eM0, isLst, oApp, oExt, oPopAt, oPop, fin_i, fin_b, fin_n, fin_s, fin_t2, at0, at1, at2, at3, at4, cut1, ix0, ix1, ix2, g6]) ?_
  refine seq_nx (e1 := [some (.int (k : Nat)), some (.tup L), some (.ref st.length), some (.int (comm k : Nat)), some .non, none, none, none, none, none, none]) (st1 := st ++ [.lst (encL (lotsL k m))]) (by simp [fnS, eV, eC, Mm.e1, Mm.e2, eN, aN, aC, eCall, eTup, eLst, eIf, eCh, eAndT, eOrT, eNotT, bB, bAnd, bOr, bNot, bTru, tru, sSeq, sSet, sEx, sRet, sRetN, sNx, sNo, sBrk, sCt, sIf, sPar, sPar3, sAsg, tgN, tgNil, tgCons, tgTup, Mm.R.bind, Mm.R.of, Mm.R.st, oAdd, oSub, mul_i, oDiv, oMod, oPow, oCmpI, oLt, oLe, oGt, oGe, oIs, oIsN, oEq, oNe, eqF, b64_of, oIx, seqOf, lstOf, cellItems, sStore, eSl, eO, oLen, oInt, oListOf, oTupOf, oMax, oMin, oSum, oGcd, intsOf, oIsi, tyName, oNeg, eM1, eM0, isLst, oApp, oExt, oPopAt, oPop, fin_i, fin_b, fin_n, fin_s, fin_t2, at0, at1, at2, at3, at4, cut1, ix0, ix1, ix2]) ?_
  refine seq_nx (e1 := [some (.int (k : Nat)), some (.tup L), some (.ref st.length), some (.int (comm k : Nat)), some (leastD k (comm k) ws (some z)), y5, y6, y7, y8, none, none]) (st1 := st ++ [.lst (encL (lotsL k m))] ++ r') ?_ ?_
  · unfold sFor
    have e : iR1 (aC (eN oLen (aC (eV 1) aN)) aN) [some (.int (k : Nat)), some (.tup L), some (.ref st.length), some (.int (comm k : Nat)), some .non, none, none, none, none, none, none] (st ++ [.lst (encL (lotsL k m))]) = .ok ⟨intsUp 0 (m + 1), fun _ => true⟩ (st ++ [.lst (encL (lotsL k m))]) := by
      simp only [iR1, eN, aC, aN, eV, Mm.R.bind, List.getElem?_cons_succ, List.getElem?_cons_zero, oLen, seqOf, Option.map, Mm.R.of, hl, hb, if_true, Int.toNat_natCast]
    rw [e]
    exact g7
  refine seq_nx (e1 := [some (.int (k : Nat)), some (.tup L), some (.ref st.length), some (.int (comm k : Nat)), some (leastD k (comm k) ws (some z)), some (.int (z.1 : Nat)), y6, some (.tup ((ins z.1 z.2).map .int)), some (.int (cP k (comm k) ws z : Nat)), none, none]) (st1 := st ++ [.lst (encL (lotsL k m))] ++ r') (by simp [fnS, eV, eC, Mm.e1, Mm.e2, eN, aN, aC, eCall, eTup, eLst, eIf, eCh, eAndT, eOrT, eNotT, bB, bAnd, bOr, bNot, bTru, tru, sSeq, sSet, sEx, sRet, sRetN, sNx, sNo, sBrk, sCt, sIf, sPar, sPar3, sAsg, tgN, tgNil, tgCons, tgTup, Mm.R.bind, Mm.R.of, Mm.R.st, oAdd, oSub, mul_i, oDiv, oMod, oPow, oCmpI, oLt, oLe, oGt, oGe, oIs, oIsN, oEq, oNe, eqF, b64_of, oIx, seqOf, lstOf, cellItems, sStore, eSl, eO, oLen, oInt, oListOf, oTupOf, oMax, oMin, oSum, oGcd, intsOf, oIsi, tyName, oNeg, eM1, eM0, isLst, oApp, oExt, oPopAt, oPop, fin_i, fin_b, fin_n, fin_s, fin_t2, at0, at1, at2, at3, at4, cut1, ix0, ix1, ix2, leastD]) ?_
  unfold askD
  generalize (ins z.1 z.2).map D.int = L2 at *
  generalize leastD k (comm k) ws (some z) = B at *
  clear g7
  generalize st ++ [Cell.lst (encL (lotsL (k : Nat) m))] ++ r' = S9 at *
  simp [fnS, eV, eC, Mm.e1, Mm.e2, eN, aN, aC, eCall, eTup, eLst, eIf, eCh, eAndT, eOrT, eNotT, bB, bAnd, bOr, bNot, bTru, tru, sSeq, sSet, sEx, sRet, sRetN, sNx, sNo, sBrk, sCt, sIf, sPar, sPar3, sAsg, tgN, tgNil, tgCons, tgTup, Mm.R.bind, Mm.R.of, Mm.R.st, oAdd, oSub, mul_i, oDiv, oMod, oPow, oCmpI, oLt, oLe, oGt, oGe, oIs, oIsN, oEq, oNe, eqF, b64_of, oIx, seqOf, lstOf, cellItems, sStore, eSl, eO, oLen, oInt, oListOf, oTupOf, oMax, oMin, oSum, oGcd, intsOf, oIsi, tyName, oNeg, eM1, eM0, isLst, oApp, oExt, oPopAt, oPop, fin_i, fin_b, fin_n, fin_s, fin_t2, at0, at1, at2, at3, at4, cut1, ix0, ix1, ix2, g8]
end Gk12

namespace Gk12
open Mm
theorem row_gcd_ok (a b : Nat) (st : Sto) (hb : b < 1000000000) : s__law_row_gcd [.int a, .int b] st = .ok (.int (Nat.gcd a b : Nat)) st := by
  have key : whL C1__law_row_gcd W1__law_row_gcd whMost [some (.int a), some (.int b)] st = .nx [some (.int (Nat.gcd a b : Nat)), some (.int 0)] st := by
    refine whL_wp (fun n e s => ∃ a' b' : Nat, e = [some (.int a'), some (.int b')] ∧ s = st ∧ b' = n ∧ Nat.gcd a' b' = Nat.gcd a b) (fun r => r = .nx [some (.int (Nat.gcd a b : Nat)), some (.int 0)] st) ?_ whMost b _ _ hb ⟨a, b, rfl, rfl, rfl, rfl⟩
    rintro n e s ⟨a', b', rfl, rfl, rfl, hg⟩
    refine ⟨s, ?_⟩
    by_cases h0 : b' = 0
    · subst h0
      refine .inl ⟨by simp [C1__law_row_gcd_ap, fnS, eV, eC, Mm.e1, Mm.e2, eN, aN, aC, eCall, eTup, eLst, eIf, eCh, eAndT, eOrT, eNotT, bB, bAnd, bOr, bNot, bTru, tru, sSeq, sSet, sEx, sRet, sRetN, sNx, sNo, sBrk, sCt, sIf, sPar, sPar3, sAsg, tgN, tgNil, tgCons, tgTup, Mm.R.bind, Mm.R.of, Mm.R.st, oAdd, oSub, mul_i, oDiv, oMod, oPow, oCmpI, oLt, oLe, oGt, oGe, oIs, oIsN, oEq, oNe, eqF, b64_of, oIx, seqOf, lstOf, cellItems, sStore, eSl, eO, oLen, oInt, oListOf, oTupOf, oMax, oMin, oSum, oGcd, intsOf, oIsi, tyName, oNeg, eM1, eM0, isLst, oApp, oExt, oPopAt, oPop, fin_i, fin_b, fin_n, fin_s, fin_t2, at0, at1, at2, at3, at4, cut1, ix0, ix1, ix2], ?_⟩
      simp at hg
      simp [hg]
    · refine .inr ⟨by simp [C1__law_row_gcd_ap, fnS, eV, eC, Mm.e1, Mm.e2, eN, aN, aC, eCall, eTup, eLst, eIf, eCh, eAndT, eOrT, eNotT, bB, bAnd, bOr, bNot, bTru, tru, sSeq, sSet, sEx, sRet, sRetN, sNx, sNo, sBrk, sCt, sIf, sPar, sPar3, sAsg, tgN, tgNil, tgCons, tgTup, Mm.R.bind, Mm.R.of, Mm.R.st, oAdd, oSub, mul_i, oDiv, oMod, oPow, oCmpI, oLt, oLe, oGt, oGe, oIs, oIsN, oEq, oNe, eqF, b64_of, oIx, seqOf, lstOf, cellItems, sStore, eSl, eO, oLen, oInt, oListOf, oTupOf, oMax, oMin, oSum, oGcd, intsOf, oIsi, tyName, oNeg, eM1, eM0, isLst, oApp, oExt, oPopAt, oPop, fin_i, fin_b, fin_n, fin_s, fin_t2, at0, at1, at2, at3, at4, cut1, ix0, ix1, ix2, h0], ?_⟩
      have h1 := fmod_nat a' b'
      simp only [RSok, W1__law_row_gcd_ap, fnS, eV, eC, Mm.e1, Mm.e2, eN, aN, aC, eCall, eTup, eLst, eIf, eCh, eAndT, eOrT, eNotT, bB, bAnd, bOr, bNot, bTru, tru, sSeq, sSet, sEx, sRet, sRetN, sNx, sNo, sBrk, sCt, sIf, sPar, sPar3, sAsg, tgN, tgNil, tgCons, tgTup, Mm.R.bind, Mm.R.of, Mm.R.st, oAdd, oSub, mul_i, oDiv, oMod, oPow, oCmpI, oLt, oLe, oGt, oGe, oIs, oIsN, oEq, oNe, eqF, b64_of, oIx, seqOf, lstOf, cellItems, sStore, eSl, eO, oLen, oInt, oListOf, oTupOf, oMax, oMin, oSum, oGcd, intsOf, oIsi, tyName, oNeg, eM1, eM0, isLst, oApp, oExt, oPopAt, oPop, fin_i, fin_b, fin_n, fin_s, fin_t2, at0, at1, at2, at3, at4, cut1, ix0, ix1, ix2, List.length, List.getElem?_cons_zero, List.getElem?_cons_succ]
      simp [h0, List.set, h1, -Int.natCast_emod]
      refine ⟨a' % b', Nat.mod_lt _ (by omega), b', a' % b', ⟨rfl, rfl⟩, rfl, ?_⟩
      rw [← hg, Nat.gcd_comm a' b', Nat.gcd_rec b' a', Nat.gcd_comm]
  simp [s__law_row_gcd, sWh, fnS, eV, eC, Mm.e1, Mm.e2, eN, aN, aC, eCall, eTup, eLst, eIf, eCh, eAndT, eOrT, eNotT, bB, bAnd, bOr, bNot, bTru, tru, sSeq, sSet, sEx, sRet, sRetN, sNx, sNo, sBrk, sCt, sIf, sPar, sPar3, sAsg, tgN, tgNil, tgCons, tgTup, Mm.R.bind, Mm.R.of, Mm.R.st, oAdd, oSub, mul_i, oDiv, oMod, oPow, oCmpI, oLt, oLe, oGt, oGe, oIs, oIsN, oEq, oNe, eqF, b64_of, oIx, seqOf, lstOf, cellItems, sStore, eSl, eO, oLen, oInt, oListOf, oTupOf, oMax, oMin, oSum, oGcd, intsOf, oIsi, tyName, oNeg, eM1, eM0, isLst, oApp, oExt, oPopAt, oPop, fin_i, fin_b, fin_n, fin_s, fin_t2, at0, at1, at2, at3, at4, cut1, ix0, ix1, ix2, key]
theorem row_low_ok (p q : Nat) (st : Sto) (h : 0 < q) (hq : q < 1000000000) : s__law_row_low [.int p, .int q] st = .ok (lowT p q) st := by
  have h3 : Nat.gcd p q ≠ 0 := by have := Nat.gcd_pos_of_pos_right p h; omega
  have h4 : Nat.gcd p q < 1073741824 := by have := Nat.gcd_le_right p h; omega
  have h5 := fdiv_nat p (Nat.gcd p q)
  have h6 := fdiv_nat q (Nat.gcd p q)
  have h7 := row_gcd_ok p q st hq
  simp [s__law_row_low, fnS, eV, eC, Mm.e1, Mm.e2, eN, aN, aC, eCall, eTup, eLst, eIf, eCh, eAndT, eOrT, eNotT, bB, bAnd, bOr, bNot, bTru, tru, sSeq, sSet, sEx, sRet, sRetN, sNx, sNo, sBrk, sCt, sIf, sPar, sPar3, sAsg, tgN, tgNil, tgCons, tgTup, Mm.R.bind, Mm.R.of, Mm.R.st, oAdd, oSub, mul_i, oDiv, oMod, oPow, oCmpI, oLt, oLe, oGt, oGe, oIs, oIsN, oEq, oNe, eqF, b64_of, oIx, seqOf, lstOf, cellItems, sStore, eSl, eO, oLen, oInt, oListOf, oTupOf, oMax, oMin, oSum, oGcd, intsOf, oIsi, tyName, oNeg, eM1, eM0, isLst, oApp, oExt, oPopAt, oPop, fin_i, fin_b, fin_n, fin_s, fin_t2, at0, at1, at2, at3, at4, cut1, ix0, ix1, ix2, h7, h3, h4, lowT, -Int.natCast_ediv, h5, h6]
def fr0 (k : Nat) : List (Nat × Nat) → Nat × Nat → Nat × Nat
  | [], x => x
  | (w, t) :: r, (p, q) => if t = 0 then fr0 k r (p, q) else fr0 k r (p * (k + t) + 2 * w * q, q * (k + t))
theorem fr0_app (k : Nat) : ∀ (a b : List (Nat × Nat)) (x : Nat × Nat), fr0 k (a ++ b) x = fr0 k b (fr0 k a x)
  | [], b, x => rfl
  | (w, t) :: a, b, (p, q) => by
    simp only [List.cons_append, fr0]
    split
    · exact fr0_app k a b _
    · exact fr0_app k a b _
theorem fr0_fr (k : Nat) : ∀ (a : List (Nat × Nat)) (x : Nat × Nat), (∀ y ∈ a, 1 ≤ y.2) → fr0 k a x = fr k a x
  | [], _, _ => rfl
  | (w, t) :: a, (p, q), h => by
    have h1 := h (w, t) (by simp)
    rw [fr0, fr, if_neg (by simp only at h1; omega)]
    exact fr0_fr k a _ fun y hy => h y (by simp [hy])
/-- the row without dots takes no share -/
theorem fr0_out (k : Nat) : ∀ (d : Nat) (ws : List Nat) (l : List Nat) (x : Nat × Nat), d < ws.length → (∀ t ∈ l, 1 ≤ t) → ws.length = l.length + 1 → fr0 k (ws.zip (l.take d ++ [0] ++ l.drop d)) x = fr k ((ws.take d ++ ws.drop (d + 1)).zip l) x
  | _, [], l, x, h, _, _ => by simp at h
  | 0, w :: ws, l, (p, q), h, hl, _ => by
    simp only [List.take_zero, List.nil_append, List.drop_zero, List.singleton_append, List.zip_cons_cons, List.drop_succ_cons, fr0, if_true]
    exact fr0_fr k _ _ fun y hy => hl y.2 (List.of_mem_zip (show (y.1, y.2) ∈ ws.zip l from hy)).2
  | d + 1, w :: ws, [], x, h, _, hn => by simp only [List.length_cons, List.length_nil] at h hn; omega
  | d + 1, w :: ws, t :: l, (p, q), h, hl, hn => by
    have h1 := hl t (by simp)
    have ih := fr0_out k d ws l (p * (k + t) + 2 * w * q, q * (k + t)) (by simpa using h) (fun y hy => hl y (by simp [hy])) (by simpa using hn)
    simp only [List.take_succ_cons, List.cons_append, List.zip_cons_cons, List.drop_succ_cons, fr0, fr, show t ≠ 0 by omega, if_false]
    exact ih
def encP (L : List (Nat × Nat)) : List D := L.map fun p => .tup [.int (p.1 : Nat), .int (p.2 : Nat)]
theorem cost_loop (k : Nat) (hk : k ≤ 100) (x1 x2 : Option D) (st : Sto) (g : Sto → Bool) (hg : g st = true) : ∀ (L : List (Nat × Nat)) (p q : Nat) (x5 x6 : Option D), (∀ y ∈ L, y.1 ≤ 1000 ∧ y.2 ≤ 100) →
    ∃ y5 y6, forL g (tgTup (tgCons (tgN 5) (tgCons (tgN 6) tgNil))) L1__law_share_cost (encP L) [some (.int (k : Nat)), x1, x2, some (.int (p : Nat)), some (.int (q : Nat)), x5, x6] st = .nx [some (.int (k : Nat)), x1, x2, some (.int ((fr0 k L (p, q)).1 : Nat)), some (.int ((fr0 k L (p, q)).2 : Nat)), y5, y6] st
  | [], p, q, x5, x6, _ => ⟨x5, x6, for_nil hg⟩
  | (w, t) :: L, p, q, x5, x6, h => by
    have h1 := h (w, t) (by simp)
    simp only at h1
    by_cases h0 : t = 0
    · subst h0
      obtain ⟨y5, y6, ih⟩ := cost_loop k hk x1 x2 st g hg L p q (some (.int (w : Nat))) (some (.int (0 : Nat))) (fun y hy => h y (by simp [hy]))
      refine ⟨y5, y6, ?_⟩
      rw [fr0, if_pos rfl]
      refine for_nx hg rfl ?_ ih
      rw [L1__law_share_cost_ap]
      simp [fnS, eV, eC, Mm.e1, Mm.e2, eN, aN, aC, eCall, eTup, eLst, eIf, eCh, eAndT, eOrT, eNotT, bB, bAnd, bOr, bNot, bTru, tru, sSeq, sSet, sEx, sRet, sRetN, sNx, sNo, sBrk, sCt, sIf, sPar, sPar3, sAsg, tgN, tgNil, tgCons, tgTup, Mm.R.bind, Mm.R.of, Mm.R.st, oAdd, oSub, mul_i, oDiv, oMod, oPow, oCmpI, oLt, oLe, oGt, oGe, oIs, oIsN, oEq, oNe, eqF, b64_of, oIx, seqOf, lstOf, cellItems, sStore, eSl, eO, oLen, oInt, oListOf, oTupOf, oMax, oMin, oSum, oGcd, intsOf, oIsi, tyName, oNeg, eM1, eM0, isLst, oApp, oExt, oPopAt, oPop, fin_i, fin_b, fin_n, fin_s, fin_t2, at0, at1, at2, at3, at4, cut1, ix0, ix1, ix2]
    · obtain ⟨y5, y6, ih⟩ := cost_loop k hk x1 x2 st g hg L (p * (k + t) + 2 * w * q) (q * (k + t)) (some (.int (w : Nat))) (some (.int (t : Nat))) (fun y hy => h y (by simp [hy]))
      refine ⟨y5, y6, ?_⟩
      rw [fr0, if_neg h0]
      refine for_nx hg rfl ?_ ih
      rw [L1__law_share_cost_ap]
      have m1 : b64 ((k : Int) + (t : Int)) = true := b64_of (by omega) (by omega)
      have m2 : b64 (2 : Int) = true := rfl
      have m3 : b64 (2 * (w : Int)) = true := b64_of (by omega) (by omega)
      have m4 : (0 : Int) < (t : Int) := by omega
      simp [fnS, eV, eC, Mm.e1, Mm.e2, eN, aN, aC, eCall, eTup, eLst, eIf, eCh, eAndT, eOrT, eNotT, bB, bAnd, bOr, bNot, bTru, tru, sSeq, sSet, sEx, sRet, sRetN, sNx, sNo, sBrk, sCt, sIf, sPar, sPar3, sAsg, tgN, tgNil, tgCons, tgTup, Mm.R.bind, Mm.R.of, Mm.R.st, oAdd, oSub, mul_i, oDiv, oMod, oPow, oCmpI, oLt, oLe, oGt, oGe, oIs, oIsN, oEq, oNe, eqF, b64_of, oIx, seqOf, lstOf, cellItems, sStore, eSl, eO, oLen, oInt, oListOf, oTupOf, oMax, oMin, oSum, oGcd, intsOf, oIsi, tyName, oNeg, eM1, eM0, isLst, oApp, oExt, oPopAt, oPop, fin_i, fin_b, fin_n, fin_s, fin_t2, at0, at1, at2, at3, at4, cut1, ix0, ix1, ix2, oMul, m1, m2, m3, show 0 < t by omega]
def qL (k : Nat) (ws : List Nat) (x : Nat × List Int) : Nat × Nat := fr k ((outO x.1 ws).zip (x.2.map Int.toNat)) (0, 1)
theorem zip_enc : ∀ a b : List Nat, zipD ((nz a).map .int) ((nz b).map .int) = encP (a.zip b)
  | [], _ => by simp [zipD, encP, nz]
  | _ :: _, [] => by simp [zipD, encP, nz]
  | x :: a, y :: b => by
    have := zip_enc a b
    simp only [nz, encP] at this
    simp only [zipD, encP, nz, List.map_cons, List.zip_cons_cons, this]
theorem ins_nz (d : Nat) (l : List Int) (h : ∀ x ∈ l, 1 ≤ x) : ins d l = nz ((l.map Int.toNat).take d ++ [0] ++ (l.map Int.toNat).drop d) := by
  have e : ∀ l : List Int, (∀ x ∈ l, 1 ≤ x) → nz (l.map Int.toNat) = l := by
    intro l hl
    rw [nz, List.map_map]
    conv => rhs; rw [← List.map_id l]
    refine List.map_congr_left fun x hx => ?_
    have := hl x hx
    simp only [Function.comp_apply, id]
    omega
  have e1 := e (l.take d) fun x hx => h x (List.mem_of_mem_take hx)
  have e2 := e (l.drop d) fun x hx => h x (List.mem_of_mem_drop hx)
  rw [← List.map_take, ← List.map_drop]
  have : nz ((l.take d).map Int.toNat ++ [0] ++ (l.drop d).map Int.toNat) = nz ((l.take d).map Int.toNat) ++ [0] ++ nz ((l.drop d).map Int.toNat) := by simp [nz]
  rw [this, e1, e2, ins]
theorem share_cost_ok (k : Nat) (hk : k ≤ 24) (ws : List Nat) (ho : ∀ x ∈ ws, x ≤ 1000) (d : Nat) (l : List Int) (hd : d < ws.length) (hl : ws.length = l.length + 1) (hp : ∀ x ∈ l, 1 ≤ x ∧ x ≤ (k : Int)) (st : Sto) :
    s__law_share_cost [.int (k : Nat), .tup ((nz ws).map .int), .tup ((ins d l).map .int)] st = .ok (.tup [.int ((qL k ws (d, l)).1 : Nat), .int ((qL k ws (d, l)).2 : Nat)]) st := by
  have hz := zip_enc ws ((l.map Int.toNat).take d ++ [0] ++ (l.map Int.toNat).drop d)
  rw [← ins_nz d l (fun x hx => (hp x hx).1)] at hz
  have hf := fr0_out k d ws (l.map Int.toNat) (0, 1) hd (fun t ht => by obtain ⟨x, hx, rfl⟩ := List.mem_map.mp ht; have := hp x hx; omega) (by simpa using hl)
  obtain ⟨y5, y6, h1⟩ := cost_loop k (by omega) (some (.tup ((nz ws).map .int))) (some (.tup ((ins d l).map .int))) st (fun _ => true) rfl (ws.zip ((l.map Int.toNat).take d ++ [0] ++ (l.map Int.toNat).drop d)) 0 1 none none (fun y hy => by
    have h2 := List.of_mem_zip (show (y.1, y.2) ∈ _ from hy)
    refine ⟨ho _ h2.1, ?_⟩
    have h3 := h2.2
    rw [← List.map_take, ← List.map_drop] at h3
    simp only [List.append_assoc, List.mem_append, List.mem_singleton, List.mem_map] at h3
    rcases h3 with ⟨x, hx, hy⟩ | h3 | ⟨x, hx, hy⟩
    · have := hp x (List.mem_of_mem_take hx); omega
    · omega
    · have := hp x (List.mem_of_mem_drop hx); omega)
  rw [hf] at h1
  unfold qL
  simp only
  show _ = Mm.R.ok (D.tup [.int ((fr k ((ws.take d ++ ws.drop (d + 1)).zip (l.map Int.toNat)) (0, 1)).1 : Nat), .int ((fr k ((ws.take d ++ ws.drop (d + 1)).zip (l.map Int.toNat)) (0, 1)).2 : Nat)]) st
  generalize fr k ((ws.take d ++ ws.drop (d + 1)).zip (l.map Int.toNat)) (0, 1) = F at *
  rw [← hz] at h1
  refine fn_flat (r := []) rfl ?_
  refine seq_nx (e1 := [some (.int (k : Nat)), some (.tup ((nz ws).map .int)), some (.tup ((ins d l).map .int)), some (.int (0 : Nat)), some (.int (1 : Nat)), none, none]) (st1 := st) ?_ ?_
  · generalize (nz ws).map D.int = L1
    generalize (ins d l).map D.int = L2
    simp [fnS, eV, eC, Mm.e1, Mm.e2, eN, aN, aC, eCall, eTup, eLst, eIf, eCh, eAndT, eOrT, eNotT, bB, bAnd, bOr, bNot, bTru, tru, sSeq, sSet, sEx, sRet, sRetN, sNx, sNo, sBrk, sCt, sIf, sPar, sPar3, sAsg, tgN, tgNil, tgCons, tgTup, Mm.R.bind, Mm.R.of, Mm.R.st, oAdd, oSub, mul_i, oDiv, oMod, oPow, oCmpI, oLt, oLe, oGt, oGe, oIs, oIsN, oEq, oNe, eqF, b64_of, oIx, seqOf, lstOf, cellItems, sStore, eSl, eO, oLen, oInt, oListOf, oTupOf, oMax, oMin, oSum, oGcd, intsOf, oIsi, tyName, oNeg, eM1, eM0, isLst, oApp, oExt, oPopAt, oPop, fin_i, fin_b, fin_n, fin_s, fin_t2, at0, at1, at2, at3, at4, cut1, ix0, ix1, ix2]
  refine seq_nx (e1 := [some (.int (k : Nat)), some (.tup ((nz ws).map .int)), some (.tup ((ins d l).map .int)), some (.int (F.1 : Nat)), some (.int (F.2 : Nat)), y5, y6]) (st1 := st) ?_ ?_
  · unfold sFor
    have : iZp (eV 1) (eV 2) [some (.int (k : Nat)), some (.tup ((nz ws).map .int)), some (.tup ((ins d l).map .int)), some (.int (0 : Nat)), some (.int (1 : Nat)), none, none] st = .ok ⟨zipD ((nz ws).map .int) ((ins d l).map .int), fun _ => true⟩ st := by
      simp only [iZp, eV, List.getElem?_cons_succ, List.getElem?_cons_zero, Mm.R.bind, seqG_tup, Bool.and_self]
    rw [this]
    exact h1
  · generalize (nz ws).map D.int = L1
    generalize (ins d l).map D.int = L2
    simp [fnS, eV, eC, Mm.e1, Mm.e2, eN, aN, aC, eCall, eTup, eLst, eIf, eCh, eAndT, eOrT, eNotT, bB, bAnd, bOr, bNot, bTru, tru, sSeq, sSet, sEx, sRet, sRetN, sNx, sNo, sBrk, sCt, sIf, sPar, sPar3, sAsg, tgN, tgNil, tgCons, tgTup, Mm.R.bind, Mm.R.of, Mm.R.st, oAdd, oSub, mul_i, oDiv, oMod, oPow, oCmpI, oLt, oLe, oGt, oGe, oIs, oIsN, oEq, oNe, eqF, b64_of, oIx, seqOf, lstOf, cellItems, sStore, eSl, eO, oLen, oInt, oListOf, oTupOf, oMax, oMin, oSum, oGcd, intsOf, oIsi, tyName, oNeg, eM1, eM0, isLst, oApp, oExt, oPopAt, oPop, fin_i, fin_b, fin_n, fin_s, fin_t2, at0, at1, at2, at3, at4, cut1, ix0, ix1, ix2]
end Gk12

namespace Gk12
open Mm
def ltL (k : Nat) (ws : List Nat) (x y : Nat × List Int) : Bool := decide ((qL k ws x).1 * (qL k ws y).2 < (qL k ws y).1 * (qL k ws x).2)
def bestD (k : Nat) (ws : List Nat) : Option (Nat × List Int) → D
  | none => .non
  | some x => .tup [.tup [.int ((qL k ws x).1 : Nat), .int ((qL k ws x).2 : Nat)], .int (x.1 : Nat), .tup ((ins x.1 x.2).map .int)]
/-- choices that are asked -/
def Cho (k m : Nat) (x : Nat × List Int) : Prop := x.1 < m + 1 ∧ x.2.length = m ∧ ∀ y ∈ x.2, 1 ≤ y ∧ y ≤ (k : Int)
theorem qL_top {k m : Nat} (hk : k ≤ 24) (hm : m ≤ 4) {ws : List Nat} (ho : ∀ x ∈ ws, x ≤ 1000) {x : Nat × List Int} (h : Cho k m x) : (qL k ws x).2 < 1000000000 ∧ (qL k ws x).1 ≤ 2000 * 2048 ^ 4 := by
  have hlen : ((outO x.1 ws).zip (x.2.map Int.toNat)).length ≤ 4 := by
    rw [List.length_zip, List.length_map, h.2.1]
    omega
  have h1 := fr_top k hk ((outO x.1 ws).zip (x.2.map Int.toNat)) 0 1 1 0 (fun y hy => by
    have h2 := List.of_mem_zip (show (y.1, y.2) ∈ _ from hy)
    refine ⟨?_, ?_⟩
    · rcases List.mem_append.mp h2.1 with hx | hx
      · exact ho _ (List.mem_of_mem_take hx)
      · exact ho _ (List.mem_of_mem_drop hx)
    · obtain ⟨t, ht, hy⟩ := List.mem_map.mp h2.2
      have := h.2.2 t ht
      omega) (by decide) (by decide)
  have h2 : 48 ^ ((outO x.1 ws).zip (x.2.map Int.toNat)).length ≤ 48 ^ 4 := Nat.pow_le_pow_right (by decide) hlen
  have h3 : 2048 ^ ((outO x.1 ws).zip (x.2.map Int.toNat)).length ≤ 2048 ^ 4 := Nat.pow_le_pow_right (by decide) hlen
  exact ⟨Nat.lt_of_le_of_lt h1.1 (by omega), Nat.le_trans h1.2 (by omega)⟩
theorem due1 (k m : Nat) (hk : k ≤ 24) (hm : m ≤ 4) (ws : List Nat) (hw : ws.length = m + 1) (ho : ∀ x ∈ ws, x ≤ 1000) (b : Option (Nat × List Int)) (hb : ∀ y, b = some y → Cho k m y) (d : Nat) (l : List Int) (h : Cho k m (d, l)) (x3 x6 x7 : Option D) (st : Sto) :
    ∃ y6 y7, L1__law_share_due [some (.int (k : Nat)), some (.tup ((nz ws).map .int)), some (bestD k ws b), x3, some (.int (d : Nat)), some (.tup (l.map .int)), x6, x7] st
      = .nx [some (.int (k : Nat)), some (.tup ((nz ws).map .int)), some (bestD k ws (bet (ltL k ws) (d, l) b)), x3, some (.int (d : Nat)), some (.tup (l.map .int)), y6, y7] st := by
  have hd := h.1
  have hl := h.2.1
  simp only at hd hl
  have c1 := cut_to l d
  have c2 := cut_from l d
  have l1 : (l.take d).length + 1 ≤ lim := by unfold lim; simp; omega
  have l2 : (l.take d).length + 1 + (l.drop d).length ≤ lim := by unfold lim; simp; omega
  have e : ((ins d l).map D.int) = (l.take d).map .int ++ [.int 0] ++ (l.drop d).map .int := by simp [ins]
  have g1 := share_cost_ok k hk ws ho d l (by omega) (by omega) h.2.2 st
  refine ⟨some (.tup ((ins d l).map .int)), some (.tup [.int ((qL k ws (d, l)).1 : Nat), .int ((qL k ws (d, l)).2 : Nat)]), ?_⟩
  rw [L1__law_share_due_ap]
  have lt : ((l.take d).map D.int).length = (l.take d).length := by simp
  have ld : ((l.drop d).map D.int).length = (l.drop d).length := by simp
  rw [← lt] at l1 l2
  rw [← ld] at l2
  refine seq_nx (e1 := [some (.int (k : Nat)), some (.tup ((nz ws).map .int)), some (bestD k ws b), x3, some (.int (d : Nat)), some (.tup (l.map .int)), some (.tup ((ins d l).map .int)), x7]) (st1 := st) ?_ ?_
  · rw [e]
    generalize bestD k ws b = B
    generalize (nz ws).map D.int = L1 at *
    generalize l.map D.int = L2 at *
    generalize (l.take d).map D.int = L3 at *
    generalize (l.drop d).map D.int = L4 at *
    simp [fnS, eV, eC, Mm.e1, Mm.e2, eN, aN, aC, eCall, eTup, eLst, eIf, eCh, eAndT, eOrT, eNotT, bB, bAnd, bOr, bNot, bTru, tru, sSeq, sSet, sEx, sRet, sRetN, sNx, sNo, sBrk, sCt, sIf, sPar, sPar3, sAsg, tgN, tgNil, tgCons, tgTup, Mm.R.bind, Mm.R.of, Mm.R.st, oAdd, oSub, mul_i, oDiv, oMod, oPow, oCmpI, oLt, oLe, oGt, oGe, oIs, oIsN, oEq, oNe, eqF, b64_of, oIx, seqOf, lstOf, cellItems, sStore, eSl, eO, oLen, oInt, oListOf, oTupOf, oMax, oMin, oSum, oGcd, intsOf, oIsi, tyName, oNeg, eM1, eM0, isLst, oApp, oExt, oPopAt, oPop, fin_i, fin_b, fin_n, fin_s, fin_t2, at0, at1, at2, at3, at4, cut1, ix0, ix1, ix2, c1, c2, l1, l2]
  refine seq_nx (e1 := [some (.int (k : Nat)), some (.tup ((nz ws).map .int)), some (bestD k ws b), x3, some (.int (d : Nat)), some (.tup (l.map .int)), some (.tup ((ins d l).map .int)), some (.tup [.int ((qL k ws (d, l)).1 : Nat), .int ((qL k ws (d, l)).2 : Nat)])]) (st1 := st) ?_ ?_
  · generalize bestD k ws b = B
    generalize (nz ws).map D.int = L1 at *
    generalize l.map D.int = L2 at *
    generalize (ins d l).map D.int = L3 at *
    simp [fnS, eV, eC, Mm.e1, Mm.e2, eN, aN, aC, eCall, eTup, eLst, eIf, eCh, eAndT, eOrT, eNotT, bB, bAnd, bOr, bNot, bTru, tru, sSeq, sSet, sEx, sRet, sRetN, sNx, sNo, sBrk, sCt, sIf, sPar, sPar3, sAsg, tgN, tgNil, tgCons, tgTup, Mm.R.bind, Mm.R.of, Mm.R.st, oAdd, oSub, mul_i, oDiv, oMod, oPow, oCmpI, oLt, oLe, oGt, oGe, oIs, oIsN, oEq, oNe, eqF, b64_of, oIx, seqOf, lstOf, cellItems, sStore, eSl, eO, oLen, oInt, oListOf, oTupOf, oMax, oMin, oSum, oGcd, intsOf, oIsi, tyName, oNeg, eM1, eM0, isLst, oApp, oExt, oPopAt, oPop, fin_i, fin_b, fin_n, fin_s, fin_t2, at0, at1, at2, at3, at4, cut1, ix0, ix1, ix2, g1]
  have tup : eTup (aC (eV 7) (aC (eV 4) (aC (eV 6) aN))) [some (.int (k : Nat)), some (.tup ((nz ws).map .int)), some (bestD k ws b), x3, some (.int (d : Nat)), some (.tup (l.map .int)), some (.tup ((ins d l).map .int)), some (.tup [.int ((qL k ws (d, l)).1 : Nat), .int ((qL k ws (d, l)).2 : Nat)])] st = .ok (bestD k ws (some (d, l))) st := by
    simp only [bestD]
    simp only [eTup, aC, aN, eV, Mm.R.bind, List.getElem?_cons_succ, List.getElem?_cons_zero]
  have hset := set_ok (i := 2) tup
  simp only [List.set] at hset
  have t1 := qL_top hk hm ho h
  cases b with
  | none =>
    unfold sIf
    rw [or_t (by simp [fnS, eV, eC, Mm.e1, Mm.e2, eN, aN, aC, eCall, eTup, eLst, eIf, eCh, eAndT, eOrT, eNotT, bB, bAnd, bOr, bNot, bTru, tru, sSeq, sSet, sEx, sRet, sRetN, sNx, sNo, sBrk, sCt, sIf, sPar, sPar3, sAsg, tgN, tgNil, tgCons, tgTup, Mm.R.bind, Mm.R.of, Mm.R.st, oAdd, oSub, mul_i, oDiv, oMod, oPow, oCmpI, oLt, oLe, oGt, oGe, oIs, oIsN, oEq, oNe, eqF, b64_of, oIx, seqOf, lstOf, cellItems, sStore, eSl, eO, oLen, oInt, oListOf, oTupOf, oMax, oMin, oSum, oGcd, intsOf, oIsi, tyName, oNeg, eM1, eM0, isLst, oApp, oExt, oPopAt, oPop, fin_i, fin_b, fin_n, fin_s, fin_t2, at0, at1, at2, at3, at4, cut1, ix0, ix1, ix2, bestD])]
    exact hset
  | some y =>
    have t2 := qL_top hk hm ho (hb y rfl)
    have w0 : bB (e2 oIs (eV 2) (eC .non)) [some (.int (k : Nat)), some (.tup ((nz ws).map .int)), some (bestD k ws (some y)), x3, some (.int (d : Nat)), some (.tup (l.map .int)), some (.tup ((ins d l).map .int)), some (.tup [.int ((qL k ws (d, l)).1 : Nat), .int ((qL k ws (d, l)).2 : Nat)])] st = .ok false st := by simp [fnS, eV, eC, Mm.e1, Mm.e2, eN, aN, aC, eCall, eTup, eLst, eIf, eCh, eAndT, eOrT, eNotT, bB, bAnd, bOr, bNot, bTru, tru, sSeq, sSet, sEx, sRet, sRetN, sNx, sNo, sBrk, sCt, sIf, sPar, sPar3, sAsg, tgN, tgNil, tgCons, tgTup, Mm.R.bind, Mm.R.of, Mm.R.st, oAdd, oSub, mul_i, oDiv, oMod, oPow, oCmpI, oLt, oLe, oGt, oGe, oIs, oIsN, oEq, oNe, eqF, b64_of, oIx, seqOf, lstOf, cellItems, sStore, eSl, eO, oLen, oInt, oListOf, oTupOf, oMax, oMin, oSum, oGcd, intsOf, oIsi, tyName, oNeg, eM1, eM0, isLst, oApp, oExt, oPopAt, oPop, fin_i, fin_b, fin_n, fin_s, fin_t2, at0, at1, at2, at3, at4, cut1, ix0, ix1, ix2, bestD]
    have w1 : bB (e2 oLt (e2 oMul (e2 oIx (eV 7) (eC (.int 0))) (e2 oIx (e2 oIx (eV 2) (eC (.int 0))) (eC (.int 1)))) (e2 oMul (e2 oIx (e2 oIx (eV 2) (eC (.int 0))) (eC (.int 0))) (e2 oIx (eV 7) (eC (.int 1))))) [some (.int (k : Nat)), some (.tup ((nz ws).map .int)), some (bestD k ws (some y)), x3, some (.int (d : Nat)), some (.tup (l.map .int)), some (.tup ((ins d l).map .int)), some (.tup [.int ((qL k ws (d, l)).1 : Nat), .int ((qL k ws (d, l)).2 : Nat)])] st = .ok (ltL k ws (d, l) y) st := by
      simp only [bestD]
      have m1 : b64 ((qL k ws (d, l)).2 : Int) = true := b64_nat (Nat.le_of_lt t1.1)
      have m2 : b64 ((qL k ws y).2 : Int) = true := b64_nat (Nat.le_of_lt t2.1)
      unfold ltL
      have e1 : (decide ((qL k ws (d, l)).1 * (qL k ws y).2 < (qL k ws y).1 * (qL k ws (d, l)).2)) = decide (((qL k ws (d, l)).1 : Int) * ((qL k ws y).2 : Int) < ((qL k ws y).1 : Int) * ((qL k ws (d, l)).2 : Int)) := by
        rw [Bool.eq_iff_iff]
        simp only [decide_eq_true_eq]
        rw [← Int.natCast_mul, ← Int.natCast_mul, Int.ofNat_lt]
      rw [e1]
      generalize ((qL k ws (d, l)).1 : Int) = A1 at *
      generalize ((qL k ws (d, l)).2 : Int) = A2 at *
      generalize ((qL k ws y).1 : Int) = B1 at *
      generalize ((qL k ws y).2 : Int) = B2 at *
      simp [fnS, eV, eC, Mm.e1, Mm.e2, eN, aN, aC, eCall, eTup, eLst, eIf, eCh, eAndT, eOrT, eNotT, bB, bAnd, bOr, bNot, bTru, tru, sSeq, sSet, sEx, sRet, sRetN, sNx, sNo, sBrk, sCt, sIf, sPar, sPar3, sAsg, tgN, tgNil, tgCons, tgTup, Mm.R.bind, Mm.R.of, Mm.R.st, oAdd, oSub, mul_i, oDiv, oMod, oPow, oCmpI, oLt, oLe, oGt, oGe, oIs, oIsN, oEq, oNe, eqF, b64_of, oIx, seqOf, lstOf, cellItems, sStore, eSl, eO, oLen, oInt, oListOf, oTupOf, oMax, oMin, oSum, oGcd, intsOf, oIsi, tyName, oNeg, eM1, eM0, isLst, oApp, oExt, oPopAt, oPop, fin_i, fin_b, fin_n, fin_s, fin_t2, at0, at1, at2, at3, at4, cut1, ix0, ix1, ix2, oMul, m1, m2]
    by_cases hlt : ltL k ws (d, l) y = true
    · unfold sIf
      rw [or_f (r := .ok true st) w0 (by rw [w1, hlt])]
      simp only [bet, hlt, if_true]
      exact hset
    · have hf : ltL k ws (d, l) y = false := by simpa using hlt
      rw [if_no (or_ff w0 (by rw [w1, hf]))]
      simp only [bet, hf, Bool.false_eq_true, if_false]
theorem bet_cho {k m : Nat} {lt : Nat × List Int → Nat × List Int → Bool} {b : Option (Nat × List Int)} (hb : ∀ y, b = some y → Cho k m y) {x : Nat × List Int} (h : Cho k m x) : ∀ y, bet lt x b = some y → Cho k m y := by
  intro y hy
  cases b with
  | none => simp only [bet] at hy; cases hy; exact h
  | some z =>
    simp only [bet] at hy
    split at hy
    · cases hy; exact h
    · cases hy; exact hb _ rfl
theorem pk_cho {k m : Nat} {lt : Nat × List Int → Nat × List Int → Bool} (d : Nat) : ∀ (ls : List (List Int)) (b : Option (Nat × List Int)), (∀ y, b = some y → Cho k m y) → (∀ l ∈ ls, Cho k m (d, l)) → ∀ y, pk lt d ls b = some y → Cho k m y
  | [], b, hb, _ => hb
  | l :: r, b, hb, h => by
    simp only [pk]
    exact pk_cho d r _ (bet_cho hb (h l (by simp))) fun x hx => h x (by simp [hx])
theorem due2 (k m : Nat) (hk : k ≤ 24) (hm : m ≤ 4) (ws : List Nat) (hw : ws.length = m + 1) (ho : ∀ x ∈ ws, x ≤ 1000) (d : Nat) (x3 : Option D) (st : Sto) (g : Sto → Bool) (hg : g st = true) : ∀ (ls : List (List Int)) (b : Option (Nat × List Int)) (x5 x6 x7 : Option D), (∀ y, b = some y → Cho k m y) → (∀ l ∈ ls, Cho k m (d, l)) →
    ∃ y5 y6 y7, forL g (tgN 5) L1__law_share_due (encL ls) [some (.int (k : Nat)), some (.tup ((nz ws).map .int)), some (bestD k ws b), x3, some (.int (d : Nat)), x5, x6, x7] st
      = .nx [some (.int (k : Nat)), some (.tup ((nz ws).map .int)), some (bestD k ws (pk (ltL k ws) d ls b)), x3, some (.int (d : Nat)), y5, y6, y7] st
  | [], b, x5, x6, x7, _, _ => ⟨x5, x6, x7, for_nil hg⟩
  | l :: ls, b, x5, x6, x7, hb, h => by
    obtain ⟨y6, y7, h1⟩ := due1 k m hk hm ws hw ho b hb d l (h l (by simp)) x3 x6 x7 st
    obtain ⟨z5, z6, z7, h2⟩ := due2 k m hk hm ws hw ho d x3 st g hg ls (bet (ltL k ws) (d, l) b) (some (.tup (l.map .int))) y6 y7 (bet_cho hb (h l (by simp))) (fun x hx => h x (by simp [hx]))
    exact ⟨z5, z6, z7, for_nx (e1 := [some (.int (k : Nat)), some (.tup ((nz ws).map .int)), some (bestD k ws b), x3, some (.int (d : Nat)), some (.tup (l.map .int)), x6, x7]) hg rfl h1 h2⟩
theorem due3 (k m : Nat) (hk : k ≤ 24) (hm : m ≤ 4) (ws : List Nat) (hw : ws.length = m + 1) (ho : ∀ x ∈ ws, x ≤ 1000) (st : Sto) (i : Nat) (ls : List (List Int)) (hi : st[i]? = some (.lst (encL ls))) : ∀ (j d : Nat) (b : Option (Nat × List Int)) (x4 x5 x6 x7 : Option D), (∀ y, b = some y → Cho k m y) → (∀ e, e < d + j → ∀ l ∈ ls, Cho k m (e, l)) →
    ∃ y4 y5 y6 y7, forL (fun _ => true) (tgN 4) L2__law_share_due (intsUp (d : Nat) j) [some (.int (k : Nat)), some (.tup ((nz ws).map .int)), some (bestD k ws b), some (.ref i), x4, x5, x6, x7] st
      = .nx [some (.int (k : Nat)), some (.tup ((nz ws).map .int)), some (bestD k ws (pks (ltL k ws) ls j d b)), some (.ref i), y4, y5, y6, y7] st
  | 0, d, b, x4, x5, x6, x7, _, _ => ⟨x4, x5, x6, x7, for_nil rfl⟩
  | j + 1, d, b, x4, x5, x6, x7, hb, h => by
    obtain ⟨y5, y6, y7, h1⟩ := due2 k m hk hm ws hw ho d (some (.ref i)) st (fun q => decide (q[i]? = st[i]?)) (by simp) ls b x5 x6 x7 hb (h d (by omega))
    obtain ⟨z4, z5, z6, z7, h2⟩ := due3 k m hk hm ws hw ho st i ls hi j (d + 1) (pk (ltL k ws) d ls b) (some (.int (d : Nat))) y5 y6 y7 (pk_cho d ls b hb (h d (by omega))) (fun e he => h e (by omega))
    refine ⟨z4, z5, z6, z7, ?_⟩
    rw [up_succ]
    refine for_nx (e1 := [some (.int (k : Nat)), some (.tup ((nz ws).map .int)), some (bestD k ws b), some (.ref i), some (.int (d : Nat)), x5, x6, x7]) rfl rfl ?_ h2
    rw [L2__law_share_due_ap]
    unfold sFor
    rw [seq_new (a := eV 3) (xs := encL ls) (i := i) (s1 := st) rfl hi]
    exact h1
def dueD (k : Nat) (ws : List Nat) : Option (Nat × List Int) → D
  | none => .non
  | some z => .tup [lowT (qL k ws z).1 (qL k ws z).2, .int (z.1 : Nat), .tup ((ins z.1 z.2).map .int)]
theorem flat_due (k : Nat) (ws : List Nat) (z : Option (Nat × List Int)) : flatD (dueD k ws z) = true := by
  cases z <;> simp only [dueD, lowT, flatD, flatDs, flat_ints, Bool.and_self]
theorem lots_cho (k m : Nat) (d : Nat) (hd : d < m + 1) : ∀ l ∈ lotsL (k : Int) m, Cho k m (d, l) := fun l hl => ⟨hd, lotsL_mem k m l hl, lots_pos k m l hl⟩
theorem due_ok (k m : Nat) (hk1 : 1 ≤ k) (hk : k ≤ 24) (hm : m ≤ 4) (ws : List Nat) (hw : ws.length = m + 1) (ho : ∀ x ∈ ws, x ≤ 1000) (st : Sto) : s__law_share_due [.int (k : Nat), .tup ((nz ws).map .int)] st = .ok (dueD k ws (pks (ltL k ws) (lotsL (k : Nat) m) (m + 1) 0 none)) st := by
  have hcap : ∀ a, a < m → (lotsL (k : Int) a).length * (k : Int).toNat ≤ 80000 := fun a ha => by rw [Int.toNat_natCast]; exact lots_cap k (by omega) a (by omega)
  have g1 := lots_ok (k : Nat) m st (by omega) (by omega) hm hcap
  obtain ⟨y4, y5, y6, y7, g2⟩ := due3 k m hk hm ws hw ho (st ++ [.lst (encL (lotsL k m))]) st.length (lotsL k m) app_get (m + 1) 0 none none none none none (fun y hy => by cases hy) (fun e he => lots_cho k m e (by omega))
  have hcho : ∀ z, pks (ltL k ws) (lotsL (k : Nat) m) (m + 1) 0 none = some z → Cho k m z := (pks_same (lt := ltL k ws) (lt' := ltL k ws) (Cho k m) (fun _ _ _ _ => rfl) (lotsL (k : Nat) m) (m + 1) 0 none (fun i hi => lots_cho k m i (by omega)) (fun y hy => by cases hy)).2
  have hl : (((nz ws).map D.int).length : Int) = ((m + 1 : Nat) : Int) := by simp [nz]; omega
  have hl1 : ((m + 1 : Nat) : Int) - 1 = (m : Int) := by omega
  have hb : bigR ((m + 1 : Nat) : Int) = true := decide_eq_true (by omega)
  generalize pks (ltL k ws) (lotsL (k : Nat) m) (m + 1) 0 none = z at *
  refine fn_flat (r := [.lst (encL (lotsL k m))]) (flat_due k ws z) ?_
  simp only [List.map_cons, List.map_nil, List.length_cons, List.length_nil, List.cons_append, List.nil_append, show 8 - (0 + 1 + 1) = 6 from rfl, List.replicate]
  generalize (nz ws).map D.int = L at *
  refine seq_nx (e1 := [some (.int (k : Nat)), some (.tup L), some .non, some (.ref st.length), none, none, none, none]) (st1 := st ++ [.lst (encL (lotsL k m))]) (by simp [fnS, eV, eC, Mm.e1, Mm.e2, eN, aN, aC, eCall, eTup, eLst, eIf, eCh, eAndT, eOrT, eNotT, bB, bAnd, bOr, bNot, bTru, tru, sSeq, sSet, sEx, sRet, sRetN, sNx, sNo, sBrk, sCt, sIf, sPar, sPar3, sAsg, tgN, tgNil, tgCons, tgTup, Mm.R.bind, Mm.R.of, Mm.R.st, oAdd, oSub, mul_i, oDiv, oMod, oPow, oCmpI, oLt, oLe, oGt, oGe, oIs, oIsN, oEq, oNe, eqF, b64_of, oIx, seqOf, lstOf, cellItems, sStore, eSl, eO, oLen, oInt, oListOf, oTupOf, oMax, oMin, oSum, oGcd, intsOf, oIsi, tyName, oNeg, eM1, eM0, isLst, oApp, oExt, oPopAt, oPop, fin_i, fin_b, fin_n, fin_s, fin_t2, at0, at1, at2, at3, at4, cut1, ix0, ix1, ix2, hl, hl1, g1]) ?_
  refine seq_nx (e1 := [some (.int (k : Nat)), some (.tup L), some (bestD k ws z), some (.ref st.length), y4, y5, y6, y7]) (st1 := st ++ [.lst (encL (lotsL k m))]) ?_ ?_
  · unfold sFor
    have e : iR1 (aC (eN oLen (aC (eV 1) aN)) aN) [some (.int (k : Nat)), some (.tup L), some .non, some (.ref st.length), none, none, none, none] (st ++ [.lst (encL (lotsL k m))]) = .ok ⟨intsUp 0 (m + 1), fun _ => true⟩ (st ++ [.lst (encL (lotsL k m))]) := by
      simp only [iR1, eN, aC, aN, eV, Mm.R.bind, List.getElem?_cons_succ, List.getElem?_cons_zero, oLen, seqOf, Option.map, Mm.R.of, hl, hb, if_true, Int.toNat_natCast]
    rw [e]
    exact g2
  generalize st ++ [Cell.lst (encL (lotsL (k : Nat) m))] = S9 at *
  clear g2
  cases z with
  | none => simp [fnS, eV, eC, Mm.e1, Mm.e2, eN, aN, aC, eCall, eTup, eLst, eIf, eCh, eAndT, eOrT, eNotT, bB, bAnd, bOr, bNot, bTru, tru, sSeq, sSet, sEx, sRet, sRetN, sNx, sNo, sBrk, sCt, sIf, sPar, sPar3, sAsg, tgN, tgNil, tgCons, tgTup, Mm.R.bind, Mm.R.of, Mm.R.st, oAdd, oSub, mul_i, oDiv, oMod, oPow, oCmpI, oLt, oLe, oGt, oGe, oIs, oIsN, oEq, oNe, eqF, b64_of, oIx, seqOf, lstOf, cellItems, sStore, eSl, eO, oLen, oInt, oListOf, oTupOf, oMax, oMin, oSum, oGcd, intsOf, oIsi, tyName, oNeg, eM1, eM0, isLst, oApp, oExt, oPopAt, oPop, fin_i, fin_b, fin_n, fin_s, fin_t2, at0, at1, at2, at3, at4, cut1, ix0, ix1, ix2, bestD, dueD]
  | some z =>
    have t1 := qL_top hk hm ho (hcho z rfl)
    have h0 : 0 < (qL k ws z).2 := fr_pos k hk1 _ 0 1 (by decide)
    have g4 := row_low_ok (qL k ws z).1 (qL k ws z).2 S9 h0 t1.1
    simp only [bestD, dueD]
    generalize (ins z.1 z.2).map D.int = L2 at *
    generalize lowT (qL k ws z).1 (qL k ws z).2 = W at *
    simp [fnS, eV, eC, Mm.e1, Mm.e2, eN, aN, aC, eCall, eTup, eLst, eIf, eCh, eAndT, eOrT, eNotT, bB, bAnd, bOr, bNot, bTru, tru, sSeq, sSet, sEx, sRet, sRetN, sNx, sNo, sBrk, sCt, sIf, sPar, sPar3, sAsg, tgN, tgNil, tgCons, tgTup, Mm.R.bind, Mm.R.of, Mm.R.st, oAdd, oSub, mul_i, oDiv, oMod, oPow, oCmpI, oLt, oLe, oGt, oGe, oIs, oIsN, oEq, oNe, eqF, b64_of, oIx, seqOf, lstOf, cellItems, sStore, eSl, eO, oLen, oInt, oListOf, oTupOf, oMax, oMin, oSum, oGcd, intsOf, oIsi, tyName, oNeg, eM1, eM0, isLst, oApp, oExt, oPopAt, oPop, fin_i, fin_b, fin_n, fin_s, fin_t2, at0, at1, at2, at3, at4, cut1, ix0, ix1, ix2, g4]
end Gk12

namespace Gk12
open Mm
theorem lots_low (k : Int) : ∀ n : Nat, ∀ l ∈ lotsL k (n + 1), mx0 l + n ≤ l.sum ∧ 1 ≤ mx0 l ∧ 0 ≤ sp k l
  | n, l, h => by
    have hf := h
    rw [← lots_fit, List.mem_filter] at hf
    have hs := of_decide_eq_true hf.2
    obtain ⟨m, hm, hl⟩ := List.mem_flatMap.mp hf.1
    obtain ⟨t, ht, rfl⟩ := List.mem_map.mp hl
    have h1 := (List.mem_range'_1.mp ht).1
    rw [mx0_app, List.sum_append, List.sum_cons, List.sum_nil]
    refine ⟨?_, ?_, hs⟩
    · cases n with
      | zero =>
        have := List.mem_singleton.mp hm
        subst this
        show (if (0 : Int) < t then (t : Int) else 0) + ((0 : Nat) : Int) ≤ 0 + ((t : Int) + 0)
        split <;> omega
      | succ n =>
        have ih := lots_low k n m hm
        split <;> omega
    · cases n with
      | zero =>
        have := List.mem_singleton.mp hm
        subst this
        show 1 ≤ (if (0 : Int) < t then (t : Int) else 0)
        split <;> omega
      | succ n =>
        have ih := lots_low k n m hm
        split <;> omega
theorem lots_few (k m : Nat) (h : (k + 1) / 2 < m) : lotsL (k : Int) m = [] := by
  cases m with
  | zero => omega
  | succ n =>
    cases hL : lotsL (k : Int) (n + 1) with
    | nil => rfl
    | cons l r =>
      exfalso
      have h1 := lots_low k n l (by rw [hL]; simp)
      have h2 := h1.2.2
      unfold sp at h2
      omega
theorem lots_ones (k : Nat) : ∀ m : Nat, m ≤ (k + 1) / 2 → List.replicate m (1 : Int) ∈ lotsL (k : Int) m
  | 0, _ => List.mem_singleton.mpr rfl
  | n + 1, h => by
    have ih := lots_ones k n (by omega)
    rw [← lots_fit, List.mem_filter]
    have e : List.replicate (n + 1) (1 : Int) = List.replicate n 1 ++ [1] := List.replicate_succ'
    refine ⟨?_, ?_⟩
    · rw [e]
      exact List.mem_flatMap.mpr ⟨_, ih, List.mem_map.mpr ⟨1, List.mem_range'_1.mpr ⟨by decide, by rw [Int.toNat_natCast]; omega⟩, rfl⟩⟩
    · refine decide_eq_true ?_
      unfold sp
      rw [mx0_rep, sum_rep1]
      omega
theorem lots_some (k m : Nat) (h : m ≤ (k + 1) / 2) : lotsL (k : Int) m ≠ [] := fun z => by
  have := lots_ones k m h
  rw [z] at this
  cases this
theorem exact_z (k m : Nat) (hk1 : 1 ≤ k) (ws : List Nat) (x : Nat × List Int) (h : Cho k m x) : (qL k ws x).1 * comm k = (qL k ws x).2 * cP k (comm k) ws x := by
  have := fr_exact k (comm k) hk1 ((outO x.1 ws).zip (x.2.map Int.toNat)) 0 1 (fun y hy => by
    obtain ⟨t, ht, hy⟩ := List.mem_map.mp (List.of_mem_zip (show (y.1, y.2) ∈ _ from hy)).2
    have h2 := h.2.2 t ht
    exact comm_dvd k y.2 (by omega) (by omega))
  rw [Nat.mul_one, Nat.zero_mul, Nat.zero_add, Nat.one_mul] at this
  exact this
theorem lt_lt (k m : Nat) (hk1 : 1 ≤ k) (ws : List Nat) (x y : Nat × List Int) (hx : Cho k m x) (hy : Cho k m y) : ltP k (comm k) ws x y = ltL k ws x y := by
  have h := lt_same (comm k) (qL k ws x).1 (qL k ws x).2 (cP k (comm k) ws x) (qL k ws y).1 (qL k ws y).2 (cP k (comm k) ws y) (comm_pos k) (fr_pos k hk1 _ 0 1 (by decide)) (fr_pos k hk1 _ 0 1 (by decide)) (exact_z k m hk1 ws x hx) (exact_z k m hk1 ws y hy)
  unfold ltP ltL
  rw [Bool.eq_iff_iff, decide_eq_true_eq, decide_eq_true_eq]
  exact h.symm
theorem ask_due (k m : Nat) (hk1 : 1 ≤ k) (ws : List Nat) (x : Nat × List Int) (h : Cho k m x) : askD k ws x = dueD k ws (some x) := by
  have e := exact_z k m hk1 ws x h
  have h2 := low_same (cP k (comm k) ws x) (comm k) (qL k ws x).1 (qL k ws x).2 (comm_pos k) (fr_pos k hk1 _ 0 1 (by decide)) (by rw [e, Nat.mul_comm])
  simp only [askD, dueD, lowT, h2.1, h2.2]
theorem hear_nr (d : D) (st : Sto) : goC mtab ⟨"NoRoom", d⟩ [none, none] st hl__law_kind_heard = .ret (.tup [.str "no room", d]) st := by
  have h1 : mtab "NoRoom" "BadK" = some false := by decide +kernel
  have h2 : mtab "NoRoom" "BadRow" = some false := by decide +kernel
  have h3 : mtab "NoRoom" "BadRows" = some false := by decide +kernel
  have h4 : mtab "NoRoom" "BadView" = some false := by decide +kernel
  have h5 : mtab "NoRoom" "BadTs" = some false := by decide +kernel
  have h6 : mtab "NoRoom" "BadMany" = some false := by decide +kernel
  have h7 : mtab "NoRoom" "BadWeights" = some false := by decide +kernel
  have h8 : mtab "NoRoom" "NoDots" = some false := by decide +kernel
  have h9 : mtab "NoRoom" "NoFit" = some false := by decide +kernel
  have h10 : mtab "NoRoom" "NoRoom" = some true := by decide +kernel
  simp [hl__law_kind_heard, goC, h1, h2, h3, h4, h5, h6, h7, h8, h9, h10, hasE, dropR]
theorem hear_w (d : D) (st : Sto) : goC mtab ⟨"BadWeights", d⟩ [none, none] st hl__law_kind_heard = .ret (.tup [.str "weights", d]) st := by
  have h1 : mtab "BadWeights" "BadK" = some false := by decide +kernel
  have h2 : mtab "BadWeights" "BadRow" = some false := by decide +kernel
  have h3 : mtab "BadWeights" "BadRows" = some false := by decide +kernel
  have h4 : mtab "BadWeights" "BadView" = some false := by decide +kernel
  have h5 : mtab "BadWeights" "BadTs" = some false := by decide +kernel
  have h6 : mtab "BadWeights" "BadMany" = some false := by decide +kernel
  have h7 : mtab "BadWeights" "BadWeights" = some true := by decide +kernel
  simp [hl__law_kind_heard, goC, h1, h2, h3, h4, h5, h6, h7, hasE, dropR]
theorem hear_k (d : D) (st : Sto) : goC mtab ⟨"BadK", d⟩ [none, none] st hl__law_kind_heard = .ret (.tup [.str "k", d]) st := by
  have h1 : mtab "BadK" "BadK" = some true := by decide +kernel
  simp [hl__law_kind_heard, goC, h1, hasE, dropR]
theorem in_names : mnames.contains "BadK" = true ∧ mnames.contains "BadWeights" = true ∧ mnames.contains "NoRoom" = true := by decide +kernel
theorem heard_ex {fb : EX} {e : Mm.Env} {st st1 : Sto} {x : Exn} {d : D} (h : fb e st = .ex x st1) (hn : mnames.contains x.cls = true) (hg : goC mtab x [none, none] st1 hl__law_kind_heard = .ret d st1) : eHeard "is" 2 mtab mnames hl__law_kind_heard fb e st = .ok d st1 := by
  unfold eHeard
  rw [h]
  simp only [hn, if_true]
  rw [show List.replicate 2 (none : Option D) = [none, none] from rfl, hg]
theorem heard_ok {fb : EX} {e : Mm.Env} {st st1 : Sto} {d : D} (h : fb e st = .ok d st1) : eHeard "is" 2 mtab mnames hl__law_kind_heard fb e st = .ok (.tup [.str "is", d]) st1 := by
  unfold eHeard
  rw [h]
theorem heard_k {fb : EX} {e : Mm.Env} {st : Sto} {d : D} (h : fb e st = .ex ⟨"BadK", d⟩ st) : eHeard "is" 2 mtab mnames hl__law_kind_heard fb e st = .ok (.tup [.str "k", d]) st := heard_ex h in_names.1 (hear_k _ _)
theorem heard_w {fb : EX} {e : Mm.Env} {st : Sto} {d : D} (h : fb e st = .ex ⟨"BadWeights", d⟩ st) : eHeard "is" 2 mtab mnames hl__law_kind_heard fb e st = .ok (.tup [.str "weights", d]) st := heard_ex h in_names.2.1 (hear_w _ _)
theorem heard_nr {fb : EX} {e : Mm.Env} {st : Sto} {d : D} (h : fb e st = .ex ⟨"NoRoom", d⟩ st) : eHeard "is" 2 mtab mnames hl__law_kind_heard fb e st = .ok (.tup [.str "no room", d]) st := heard_ex h in_names.2.2 (hear_nr _ _)
theorem nat_small {n : Nat} (h : n ≤ 100000000000000000000) : ((n : Int)).natAbs < 10 ^ 60 := Nat.lt_of_le_of_lt (by simpa using h) (by decide +kernel)
/-- what is told of a choice can be shown -/
theorem due_repr (k m : Nat) (hk : k ≤ 24) (hm : m ≤ 4) (ws : List Nat) (ho : ∀ x ∈ ws, x ≤ 1000) (x : Nat × List Int) (h : Cho k m x) : ∃ s, ∀ st : Sto, oRepr [.tup [.str "is", dueD k ws (some x)]] st = some (.str s, st) := by
  have t := qL_top hk hm ho h
  have b1 : (qL k ws x).1 / Nat.gcd (qL k ws x).1 (qL k ws x).2 ≤ 100000000000000000000 := Nat.le_trans (Nat.div_le_self _ _) (by have := t.2; omega)
  have b2 : (qL k ws x).2 / Nat.gcd (qL k ws x).1 (qL k ws x).2 ≤ 100000000000000000000 := Nat.le_trans (Nat.div_le_self _ _) (by have := t.1; omega)
  have b3 : x.1 ≤ 100000000000000000000 := by have := h.1; omega
  have n1 := nat_small b1
  have n2 := nat_small b2
  have n3 := nat_small b3
  have hi : ∀ y ∈ ins x.1 x.2, y.natAbs < 10 ^ 60 := by
    intro y hy
    have : 0 ≤ y ∧ y ≤ 24 := by
      simp only [ins, List.append_assoc, List.mem_append, List.mem_singleton] at hy
      rcases hy with hy | hy | hy
      · have := h.2.2 y (List.mem_of_mem_take hy); omega
      · omega
      · have := h.2.2 y (List.mem_of_mem_drop hy); omega
    exact Nat.lt_of_le_of_lt (show y.natAbs ≤ 24 by omega) (by decide +kernel)
  have hl : (ins x.1 x.2).length ≤ 10 := by
    simp [ins, h.2.1]
    omega
  refine ⟨_, fun st => repr_ok (p := .tuple [.str "is", .tuple [.tuple [.int ((qL k ws x).1 / Nat.gcd (qL k ws x).1 (qL k ws x).2 : Nat), .int ((qL k ws x).2 / Nat.gcd (qL k ws x).1 (qL k ws x).2 : Nat)], .int (x.1 : Nat), .tuple ((ins x.1 x.2).map .int)]]) ?_ ?_ ?_ ?_⟩
  · simp only [pyS, dueD, lowT, py, pys, pys_ints, Option.map, Option.bind]
  · have h1 : okP (.str "is") = true := by decide +kernel
    have h2 := okPs_ints (ins x.1 x.2) hi
    simp only [okP, okPs, n1, n2, n3, h2, decide_true, Bool.and_true]
    exact (Bool.and_self _).trans h1
  · have := dep_ints (ins x.1 x.2)
    simp only [PySem.PyData.depth, PySem.PyData.depthAll, this]
    decide
  · have h1 : PySem.PyData.bulk (.str "is") = 2 := by decide +kernel
    have h2 := bulk_ints (ins x.1 x.2)
    simp only [PySem.PyData.bulk, PySem.PyData.bulkAll] at h1 h2 ⊢
    omega
theorem right_ok (k m : Nat) (hk1 : 1 ≤ k) (hk : k ≤ 24) (hm : m ≤ 4) (ws : List Nat) (hw : ws.length = m + 1) (ho : ∀ x ∈ ws, x ≤ 1000) (st : Sto) : s__law_share_right [.int (k : Nat), .tup ((nz ws).map .int)] st = .ok (.bl true) st := by
  have g1 := due_ok k m hk1 hk hm ws hw ho
  by_cases hr : m ≤ (k + 1) / 2
  · have hs := pks_same (lt := ltP k (comm k) ws) (lt' := ltL k ws) (Cho k m) (fun x y hx hy => lt_lt k m hk1 ws x y hx hy) (lotsL (k : Nat) m) (m + 1) 0 none (fun i hi => lots_cho k m i (by omega)) (fun y hy => by cases hy)
    obtain ⟨z, hz⟩ := pks_start (ltP k (comm k) ws) (lotsL (k : Nat) m) (m + 1) 0 (lots_some k m hr) (by omega)
    have hc := hs.2 z hz
    have g2 := cheapest_ok k m hk1 hk ws hw hm ho hr z hz
    rw [← hs.1, hz] at g1
    rw [ask_due k m hk1 ws z hc] at g2
    obtain ⟨s, g3⟩ := due_repr k m hk hm ws ho z hc
    have g4 : ∃ a b c, dueD k ws (some z) = .tup [a, b, c] := ⟨_, _, _, rfl⟩
    obtain ⟨a, b, c, e⟩ := g4
    have hfl := flat_due k ws (some z)
    rw [e] at g1 g2 g3 hfl
    refine fn_flat (r := []) rfl ?_
    generalize (nz ws).map D.int = L at *
    refine seq_nx (e1 := [some (.int (k : Nat)), some (.tup L), some (.tup [a, b, c]), none]) (st1 := st) (by simp [fnS, eV, eC, Mm.e1, Mm.e2, eN, aN, aC, eCall, eTup, eLst, eIf, eCh, eAndT, eOrT, eNotT, bB, bAnd, bOr, bNot, bTru, tru, sSeq, sSet, sEx, sRet, sRetN, sNx, sNo, sBrk, sCt, sIf, sPar, sPar3, sAsg, tgN, tgNil, tgCons, tgTup, Mm.R.bind, Mm.R.of, Mm.R.st, oAdd, oSub, mul_i, oDiv, oMod, oPow, oCmpI, oLt, oLe, oGt, oGe, oIs, oIsN, oEq, oNe, eqF, b64_of, oIx, seqOf, lstOf, cellItems, sStore, eSl, eO, oLen, oInt, oListOf, oTupOf, oMax, oMin, oSum, oGcd, intsOf, oIsi, tyName, oNeg, eM1, eM0, isLst, oApp, oExt, oPopAt, oPop, fin_i, fin_b, fin_n, fin_s, fin_t2, at0, at1, at2, at3, at4, cut1, ix0, ix1, ix2, g1]) ?_
    refine seq_nx (e1 := [some (.int (k : Nat)), some (.tup L), some (.tup [a, b, c]), some (.tup [.str "is", .tup [a, b, c]])]) (st1 := st) ?_ ?_
    · refine set_ok (e := [some (.int (k : Nat)), some (.tup L), some (.tup [a, b, c]), none]) (heard_ok ?_)
      simp [fnS, eV, eC, Mm.e1, Mm.e2, eN, aN, aC, eCall, eTup, eLst, eIf, eCh, eAndT, eOrT, eNotT, bB, bAnd, bOr, bNot, bTru, tru, sSeq, sSet, sEx, sRet, sRetN, sNx, sNo, sBrk, sCt, sIf, sPar, sPar3, sAsg, tgN, tgNil, tgCons, tgTup, Mm.R.bind, Mm.R.of, Mm.R.st, oAdd, oSub, mul_i, oDiv, oMod, oPow, oCmpI, oLt, oLe, oGt, oGe, oIs, oIsN, oEq, oNe, eqF, b64_of, oIx, seqOf, lstOf, cellItems, sStore, eSl, eO, oLen, oInt, oListOf, oTupOf, oMax, oMin, oSum, oGcd, intsOf, oIsi, tyName, oNeg, eM1, eM0, isLst, oApp, oExt, oPopAt, oPop, fin_i, fin_b, fin_n, fin_s, fin_t2, at0, at1, at2, at3, at4, cut1, ix0, ix1, ix2, g2]
    · simp [fnS, eV, eC, Mm.e1, Mm.e2, eN, aN, aC, eCall, eTup, eLst, eIf, eCh, eAndT, eOrT, eNotT, bB, bAnd, bOr, bNot, bTru, tru, sSeq, sSet, sEx, sRet, sRetN, sNx, sNo, sBrk, sCt, sIf, sPar, sPar3, sAsg, tgN, tgNil, tgCons, tgTup, Mm.R.bind, Mm.R.of, Mm.R.st, oAdd, oSub, mul_i, oDiv, oMod, oPow, oCmpI, oLt, oLe, oGt, oGe, oIs, oIsN, oEq, oNe, eqF, b64_of, oIx, seqOf, lstOf, cellItems, sStore, eSl, eO, oLen, oInt, oListOf, oTupOf, oMax, oMin, oSum, oGcd, intsOf, oIsi, tyName, oNeg, eM1, eM0, isLst, oApp, oExt, oPopAt, oPop, fin_i, fin_b, fin_n, fin_s, fin_t2, at0, at1, at2, at3, at4, cut1, ix0, ix1, ix2, g3]
  · have he := lots_few k m (by omega)
    have g2 := no_room k m hk1 hk ws hw hm ho (by omega)
    have g5 : ∀ st, s__law_share_due [.int (k : Nat), .tup ((nz ws).map .int)] st = .ok .non st := fun st => by
      rw [g1 st, he, pks_nil]
      rfl
    have g3 : ∃ s, ∀ st : Sto, oRepr [.tup [.str "no room", .int 0]] st = some (.str s, st) := ⟨_, fun st => repr_ok (p := .tuple [.str "no room", .int 0]) rfl (by decide +kernel) (by decide +kernel) (by decide +kernel)⟩
    obtain ⟨s, g3⟩ := g3
    refine fn_flat (r := []) rfl ?_
    generalize (nz ws).map D.int = L at *
    refine seq_nx (e1 := [some (.int (k : Nat)), some (.tup L), some .non, none]) (st1 := st) (by simp [fnS, eV, eC, Mm.e1, Mm.e2, eN, aN, aC, eCall, eTup, eLst, eIf, eCh, eAndT, eOrT, eNotT, bB, bAnd, bOr, bNot, bTru, tru, sSeq, sSet, sEx, sRet, sRetN, sNx, sNo, sBrk, sCt, sIf, sPar, sPar3, sAsg, tgN, tgNil, tgCons, tgTup, Mm.R.bind, Mm.R.of, Mm.R.st, oAdd, oSub, mul_i, oDiv, oMod, oPow, oCmpI, oLt, oLe, oGt, oGe, oIs, oIsN, oEq, oNe, eqF, b64_of, oIx, seqOf, lstOf, cellItems, sStore, eSl, eO, oLen, oInt, oListOf, oTupOf, oMax, oMin, oSum, oGcd, intsOf, oIsi, tyName, oNeg, eM1, eM0, isLst, oApp, oExt, oPopAt, oPop, fin_i, fin_b, fin_n, fin_s, fin_t2, at0, at1, at2, at3, at4, cut1, ix0, ix1, ix2, g5]) ?_
    refine seq_nx (e1 := [some (.int (k : Nat)), some (.tup L), some .non, some (.tup [.str "no room", .int 0])]) (st1 := st) ?_ ?_
    · refine set_ok (e := [some (.int (k : Nat)), some (.tup L), some .non, none]) (heard_nr ?_)
      simp [fnS, eV, eC, Mm.e1, Mm.e2, eN, aN, aC, eCall, eTup, eLst, eIf, eCh, eAndT, eOrT, eNotT, bB, bAnd, bOr, bNot, bTru, tru, sSeq, sSet, sEx, sRet, sRetN, sNx, sNo, sBrk, sCt, sIf, sPar, sPar3, sAsg, tgN, tgNil, tgCons, tgTup, Mm.R.bind, Mm.R.of, Mm.R.st, oAdd, oSub, mul_i, oDiv, oMod, oPow, oCmpI, oLt, oLe, oGt, oGe, oIs, oIsN, oEq, oNe, eqF, b64_of, oIx, seqOf, lstOf, cellItems, sStore, eSl, eO, oLen, oInt, oListOf, oTupOf, oMax, oMin, oSum, oGcd, intsOf, oIsi, tyName, oNeg, eM1, eM0, isLst, oApp, oExt, oPopAt, oPop, fin_i, fin_b, fin_n, fin_s, fin_t2, at0, at1, at2, at3, at4, cut1, ix0, ix1, ix2, g2]
    · simp [fnS, eV, eC, Mm.e1, Mm.e2, eN, aN, aC, eCall, eTup, eLst, eIf, eCh, eAndT, eOrT, eNotT, bB, bAnd, bOr, bNot, bTru, tru, sSeq, sSet, sEx, sRet, sRetN, sNx, sNo, sBrk, sCt, sIf, sPar, sPar3, sAsg, tgN, tgNil, tgCons, tgTup, Mm.R.bind, Mm.R.of, Mm.R.st, oAdd, oSub, mul_i, oDiv, oMod, oPow, oCmpI, oLt, oLe, oGt, oGe, oIs, oIsN, oEq, oNe, eqF, b64_of, oIx, seqOf, lstOf, cellItems, sStore, eSl, eO, oLen, oInt, oListOf, oTupOf, oMax, oMin, oSum, oGcd, intsOf, oIsi, tyName, oNeg, eM1, eM0, isLst, oApp, oExt, oPopAt, oPop, fin_i, fin_b, fin_n, fin_s, fin_t2, at0, at1, at2, at3, at4, cut1, ix0, ix1, ix2, g3]
end Gk12

namespace Gk12
open Mm
/-- a thing that is no tuple of weights, and why -/
def BadW (x : D) : Prop := ∃ (thing : D) (w : Int), x = .tup [thing, .int w] ∧ flatD thing = true ∧ w.natAbs ≤ 100 ∧ ∀ st, s_check_weights [thing] st = .ex ⟨"BadWeights", .int w⟩ st
theorem wrong_no (d : D) (a b lo hi : Int) (st : Sto) (h : isRf d = false) (h2 : ∀ xs, d ≠ .tup xs) : s_wrong_at [d, .int a, .int b, .int lo, .int hi] st = .ok (.int (-1)) st := by
  cases d with
  | tup xs => exact absurd rfl (h2 xs)
  | ref i => cases h
  | non => simp [s_wrong_at, fnS, eV, eC, Mm.e1, Mm.e2, eN, aN, aC, eCall, eTup, eLst, eIf, eCh, eAndT, eOrT, eNotT, bB, bAnd, bOr, bNot, bTru, tru, sSeq, sSet, sEx, sRet, sRetN, sNx, sNo, sBrk, sCt, sIf, sPar, sPar3, sAsg, tgN, tgNil, tgCons, tgTup, Mm.R.bind, Mm.R.of, Mm.R.st, oAdd, oSub, mul_i, oDiv, oMod, oPow, oCmpI, oLt, oLe, oGt, oGe, oIs, oIsN, oEq, oNe, eqF, b64_of, oIx, seqOf, lstOf, cellItems, sStore, eSl, eO, oLen, oInt, oListOf, oTupOf, oMax, oMin, oSum, oGcd, intsOf, oIsi, tyName, oNeg, eM1, eM0, isLst, oApp, oExt, oPopAt, oPop, fin_i, fin_b, fin_n, fin_s, fin_t2, at0, at1, at2, at3, at4, cut1, ix0, ix1, ix2, kit_non_tup]
  | bl b => simp [s_wrong_at, fnS, eV, eC, Mm.e1, Mm.e2, eN, aN, aC, eCall, eTup, eLst, eIf, eCh, eAndT, eOrT, eNotT, bB, bAnd, bOr, bNot, bTru, tru, sSeq, sSet, sEx, sRet, sRetN, sNx, sNo, sBrk, sCt, sIf, sPar, sPar3, sAsg, tgN, tgNil, tgCons, tgTup, Mm.R.bind, Mm.R.of, Mm.R.st, oAdd, oSub, mul_i, oDiv, oMod, oPow, oCmpI, oLt, oLe, oGt, oGe, oIs, oIsN, oEq, oNe, eqF, b64_of, oIx, seqOf, lstOf, cellItems, sStore, eSl, eO, oLen, oInt, oListOf, oTupOf, oMax, oMin, oSum, oGcd, intsOf, oIsi, tyName, oNeg, eM1, eM0, isLst, oApp, oExt, oPopAt, oPop, fin_i, fin_b, fin_n, fin_s, fin_t2, at0, at1, at2, at3, at4, cut1, ix0, ix1, ix2, kit_bool_tup]
  | int b => simp [s_wrong_at, fnS, eV, eC, Mm.e1, Mm.e2, eN, aN, aC, eCall, eTup, eLst, eIf, eCh, eAndT, eOrT, eNotT, bB, bAnd, bOr, bNot, bTru, tru, sSeq, sSet, sEx, sRet, sRetN, sNx, sNo, sBrk, sCt, sIf, sPar, sPar3, sAsg, tgN, tgNil, tgCons, tgTup, Mm.R.bind, Mm.R.of, Mm.R.st, oAdd, oSub, mul_i, oDiv, oMod, oPow, oCmpI, oLt, oLe, oGt, oGe, oIs, oIsN, oEq, oNe, eqF, b64_of, oIx, seqOf, lstOf, cellItems, sStore, eSl, eO, oLen, oInt, oListOf, oTupOf, oMax, oMin, oSum, oGcd, intsOf, oIsi, tyName, oNeg, eM1, eM0, isLst, oApp, oExt, oPopAt, oPop, fin_i, fin_b, fin_n, fin_s, fin_t2, at0, at1, at2, at3, at4, cut1, ix0, ix1, ix2, kit_int_tup]
  | str b => simp [s_wrong_at, fnS, eV, eC, Mm.e1, Mm.e2, eN, aN, aC, eCall, eTup, eLst, eIf, eCh, eAndT, eOrT, eNotT, bB, bAnd, bOr, bNot, bTru, tru, sSeq, sSet, sEx, sRet, sRetN, sNx, sNo, sBrk, sCt, sIf, sPar, sPar3, sAsg, tgN, tgNil, tgCons, tgTup, Mm.R.bind, Mm.R.of, Mm.R.st, oAdd, oSub, mul_i, oDiv, oMod, oPow, oCmpI, oLt, oLe, oGt, oGe, oIs, oIsN, oEq, oNe, eqF, b64_of, oIx, seqOf, lstOf, cellItems, sStore, eSl, eO, oLen, oInt, oListOf, oTupOf, oMax, oMin, oSum, oGcd, intsOf, oIsi, tyName, oNeg, eM1, eM0, isLst, oApp, oExt, oPopAt, oPop, fin_i, fin_b, fin_n, fin_s, fin_t2, at0, at1, at2, at3, at4, cut1, ix0, ix1, ix2, kit_str_tup]
theorem check_no (d : D) (h : isRf d = false) (h2 : ∀ xs, d ≠ .tup xs) (st : Sto) : s_check_weights [d] st = .ex ⟨"BadWeights", .int (-1)⟩ st := by
  simp [s_check_weights, wrong_no d 1 5 0 1000 st h h2, fnS, eV, eC, Mm.e1, Mm.e2, eN, aN, aC, eCall, eTup, eLst, eIf, eCh, eAndT, eOrT, eNotT, bB, bAnd, bOr, bNot, bTru, tru, sSeq, sSet, sEx, sRet, sRetN, sNx, sNo, sBrk, sCt, sIf, sPar, sPar3, sAsg, tgN, tgNil, tgCons, tgTup, Mm.R.bind, Mm.R.of, Mm.R.st, oAdd, oSub, mul_i, oDiv, oMod, oPow, oCmpI, oLt, oLe, oGt, oGe, oIs, oIsN, oEq, oNe, eqF, b64_of, oIx, seqOf, lstOf, cellItems, sStore, eSl, eO, oLen, oInt, oListOf, oTupOf, oMax, oMin, oSum, oGcd, intsOf, oIsi, tyName, oNeg, eM1, eM0, isLst, oApp, oExt, oPopAt, oPop, fin_i, fin_b, fin_n, fin_s, fin_t2, at0, at1, at2, at3, at4, cut1, ix0, ix1, ix2, sRaise]
theorem check_len (xs : List D) (st : Sto) (h : ¬ (1 ≤ xs.length ∧ xs.length ≤ 5)) : s_check_weights [.tup xs] st = .ex ⟨"BadWeights", .int (-1)⟩ st := by
  have hw := wrong_len xs 1 5 0 1000 st (by omega)
  simp [s_check_weights, hw, fnS, eV, eC, Mm.e1, Mm.e2, eN, aN, aC, eCall, eTup, eLst, eIf, eCh, eAndT, eOrT, eNotT, bB, bAnd, bOr, bNot, bTru, tru, sSeq, sSet, sEx, sRet, sRetN, sNx, sNo, sBrk, sCt, sIf, sPar, sPar3, sAsg, tgN, tgNil, tgCons, tgTup, Mm.R.bind, Mm.R.of, Mm.R.st, oAdd, oSub, mul_i, oDiv, oMod, oPow, oCmpI, oLt, oLe, oGt, oGe, oIs, oIsN, oEq, oNe, eqF, b64_of, oIx, seqOf, lstOf, cellItems, sStore, eSl, eO, oLen, oInt, oListOf, oTupOf, oMax, oMin, oSum, oGcd, intsOf, oIsi, tyName, oNeg, eM1, eM0, isLst, oApp, oExt, oPopAt, oPop, fin_i, fin_b, fin_n, fin_s, fin_t2, at0, at1, at2, at3, at4, cut1, ix0, ix1, ix2, sRaise]
theorem check_bad (xs : List D) (i : Nat) (st : Sto) (h1 : 1 ≤ xs.length) (h2 : xs.length ≤ 5) (h : ∀ x ∈ xs, isRf x = false) (hb : badAt 0 1000 xs 0 = some i) : s_check_weights [.tup xs] st = .ex ⟨"BadWeights", .int (i : Nat)⟩ st := by
  have hw := wrong_any xs 1 5 0 1000 st (by omega) (by omega) h
  rw [hb] at hw
  simp [s_check_weights, hw, fnS, eV, eC, Mm.e1, Mm.e2, eN, aN, aC, eCall, eTup, eLst, eIf, eCh, eAndT, eOrT, eNotT, bB, bAnd, bOr, bNot, bTru, tru, sSeq, sSet, sEx, sRet, sRetN, sNx, sNo, sBrk, sCt, sIf, sPar, sPar3, sAsg, tgN, tgNil, tgCons, tgTup, Mm.R.bind, Mm.R.of, Mm.R.st, oAdd, oSub, mul_i, oDiv, oMod, oPow, oCmpI, oLt, oLe, oGt, oGe, oIs, oIsN, oEq, oNe, eqF, b64_of, oIx, seqOf, lstOf, cellItems, sStore, eSl, eO, oLen, oInt, oListOf, oTupOf, oMax, oMin, oSum, oGcd, intsOf, oIsi, tyName, oNeg, eM1, eM0, isLst, oApp, oExt, oPopAt, oPop, fin_i, fin_b, fin_n, fin_s, fin_t2, at0, at1, at2, at3, at4, cut1, ix0, ix1, ix2, sRaise, optD]
theorem badAt_app (lo hi : Int) (odd : D) (ho : inB odd lo hi = false) (t : List D) : ∀ (ns : List Int) (i : Nat), (∀ x ∈ ns, lo ≤ x ∧ x ≤ hi) → badAt lo hi (ns.map D.int ++ odd :: t) i = some (i + ns.length)
  | [], i, _ => by simp [badAt, ho]
  | n :: r, i, h => by
    have h1 := h n (by simp)
    have h2 := badAt_app lo hi odd ho t r (i + 1) (fun x hx => h x (by simp [hx]))
    simp only [List.map_cons, List.cons_append, badAt, inB, h1.1, h1.2, decide_true, Bool.and_self, if_true, h2, List.length_cons]
    congr 1; omega
theorem flat_app : ∀ (xs ys : List D), flatDs xs = true → flatDs ys = true → flatDs (xs ++ ys) = true
  | [], ys, _, h => h
  | x :: xs, ys, h1, h2 => by
    simp only [flatDs, Bool.and_eq_true] at h1
    simp only [List.cons_append, flatDs, h1.1, flat_app xs ys h1.2 h2, Bool.and_self]
theorem flat_rep (d : D) (h : flatD d = true) : ∀ n, flatDs (List.replicate n d) = true
  | 0 => rfl
  | n + 1 => by simp only [List.replicate_succ, flatDs, h, flat_rep d h n, Bool.and_self]
theorem rf_flat {d : D} (h : flatD d = true) : isRf d = false := by cases d <;> first | rfl | cases h
theorem rfs_flat : ∀ {xs : List D}, flatDs xs = true → ∀ x ∈ xs, isRf x = false
  | [], _, x, hx => by cases hx
  | y :: r, h, x, hx => by
    simp only [flatDs, Bool.and_eq_true] at h
    rcases List.mem_cons.mp hx with rfl | hx
    · exact rf_flat h.1
    · exact rfs_flat h.2 x hx
theorem badW_flat : ∀ {xs : List D}, (∀ x ∈ xs, BadW x) → flatDs xs = true
  | [], _ => rfl
  | y :: r, h => by
    obtain ⟨t, w, rfl, h1, _, _⟩ := h y (by simp)
    simp only [flatDs, flatD, h1, badW_flat (xs := r) (fun x hx => h x (List.mem_cons_of_mem _ hx)), Bool.and_self]
def odds : List D := [.int (-1), .int 1001, .bl true, .non, .str "1", .tup [.int 1]]
theorem odds_bad : ∀ d ∈ odds, flatD d = true ∧ inB d 0 1000 = false := by
  intro d hd
  simp only [odds, List.mem_cons, List.not_mem_nil, or_false] at hd
  rcases hd with rfl | rfl | rfl | rfl | rfl | rfl <;> decide
/-- what a turn puts in -/
def oddT (ts : List Int) (at' : Nat) (d : D) : List D := (ts.take at').map .int ++ d :: List.replicate (ts.length - 1 - at') .non
theorem odd_pair (ts : List Int) (at' : Nat) (d : D) (h1 : at' < ts.length) (h2 : ts.length ≤ 5) (h : ∀ x ∈ ts, 0 ≤ x ∧ x ≤ 1000) (hd : flatD d = true) (hb : inB d 0 1000 = false) : BadW (.tup [.tup (oddT ts at' d), .int (at' : Nat)]) := by
  have hf : flatDs (oddT ts at' d) = true := flat_app _ _ (flat_ints _) (by simp only [flatDs, hd, flat_rep .non rfl, Bool.and_self])
  refine ⟨_, _, rfl, hf, by omega, fun st => ?_⟩
  have hl : (oddT ts at' d).length = ts.length := by simp [oddT]; omega
  have e : badAt 0 1000 (oddT ts at' d) 0 = some at' := by
    have := badAt_app 0 1000 d hb (List.replicate (ts.length - 1 - at') .non) (ts.take at') 0 (fun x hx => h x (List.mem_of_mem_take hx))
    rw [List.length_take, Nat.min_eq_left (by omega), Nat.zero_add] at this
    exact this
  exact check_bad _ at' st (by omega) (by omega) (rfs_flat hf) e
theorem times_non (n : Nat) (h : n ≤ 8) (st : Sto) : oMul (.tup [.non]) (.int (n : Nat)) st = some (.tup (List.replicate n .non), st) := by
  by_cases h1 : n = 1
  · subst h1; rfl
  by_cases h0 : n = 0
  · subst h0; rfl
  have e : ¬ ((n : Nat) : Int) = 1 := by omega
  have e0 : ¬ ((n : Nat) : Int) = 0 := by omega
  have e2 : (2 : Int) ≤ n := by omega
  have e3 : n ≤ lim := by unfold lim; omega
  have : (List.replicate n [D.non]).flatten = List.replicate n .non := by
    clear h h1 h0 e e0 e2 e3
    induction n with
    | zero => rfl
    | succ n ih => simp [List.replicate_succ, ih]
  simp [oMul, e, e0, e2, e3, this]
theorem cut_take (ns : List Int) (a : Nat) (h : a ≤ ns.length) : cutD (ns.map D.int) none (some (a : Nat)) = (ns.take a).map .int := by
  simp only [cutD, HT.sIx_none, HT.sIx_nat, List.length_map, List.drop_zero, Nat.sub_zero, Nat.min_eq_left h, List.map_take]
/-- the list of the pairs stands where it was made -/
def Pn (ts : List Int) (st : Sto) (n : Nat) (s : Sto) : Prop := ∃ xs r, s = st ++ .lst xs :: r ∧ xs.length = n ∧ ∀ x ∈ xs, BadW x
theorem nots_turn (k : D) (x2 x6 x7 : Option D) (ts : List Int) (st : Sto) (at' n : Nat) (d : D) (h1 : at' < ts.length) (h2 : ts.length ≤ 5) (h : ∀ x ∈ ts, 0 ≤ x ∧ x ≤ 1000) (hd : flatD d = true) (hb : inB d 0 1000 = false) (hn : n < 1000) (x3 : Option D) (s : Sto) (hs : Pn ts st n s) :
    ∃ s2, L2__law_share_refused [some k, some (.tup (ts.map .int)), x2, some (.ref st.length), some (.int (at' : Nat)), some d, x6, x7] s = .nx [some k, some (.tup (ts.map .int)), x2, some (.ref st.length), some (.int (at' : Nat)), some d, x6, x7] s2 ∧ Pn ts st (n + 1) s2 ∧ ∀ i, i ≠ st.length → s2[i]? = s[i]? := by
  obtain ⟨xs, r, rfl, hx, hp⟩ := hs
  have c1 := cut_take ts at' (by omega)
  have c2 : ∀ st, oMul (.tup [.non]) (.int ((ts.length : Int) - 1 - (at' : Nat))) st = some (.tup (List.replicate (ts.length - 1 - at') .non), st) := fun st => by
    have := times_non (ts.length - 1 - at') (by omega) st
    rw [show ((ts.length : Int) - 1 - (at' : Nat)) = ((ts.length - 1 - at' : Nat) : Int) by omega]
    exact this
  have l1 : (List.take at' ts).length + 1 ≤ lim := by unfold lim; simp; omega
  have l2 : min at' ts.length + 1 ≤ lim := by unfold lim; omega
  have l3 : min at' ts.length + 1 + (ts.length - 1 - at') ≤ lim := by unfold lim; omega
  have l4 : xs.length < lim := by unfold lim; omega
  refine ⟨st ++ .lst (xs ++ [.tup [.tup (oddT ts at' d), .int (at' : Nat)]]) :: r, ?_, ⟨_, _, rfl, by simp [hx], fun x hx => ?_⟩, fun i hi => ?_⟩
  · simp only [L2__law_share_refused_ap]
    simp [fnS, eV, eC, Mm.e1, Mm.e2, eN, aN, aC, eCall, eTup, eLst, eIf, eCh, eAndT, eOrT, eNotT, bB, bAnd, bOr, bNot, bTru, tru, sSeq, sSet, sEx, sRet, sRetN, sNx, sNo, sBrk, sCt, sIf, sPar, sPar3, sAsg, tgN, tgNil, tgCons, tgTup, Mm.R.bind, Mm.R.of, Mm.R.st, oAdd, oSub, mul_i, oDiv, oMod, oPow, oCmpI, oLt, oLe, oGt, oGe, oIs, oIsN, oEq, oNe, eqF, b64_of, oIx, seqOf, lstOf, cellItems, sStore, eSl, eO, oLen, oInt, oListOf, oTupOf, oMax, oMin, oSum, oGcd, intsOf, oIsi, tyName, oNeg, eM1, eM0, isLst, oApp, oExt, oPopAt, oPop, fin_i, fin_b, fin_n, fin_s, fin_t2, at0, at1, at2, at3, at4, cut1, ix0, ix1, ix2, c1, c2, l2, l3, l4, oddT]
  · rcases List.mem_append.mp hx with hx | hx
    · exact hp x hx
    · rw [List.mem_singleton.mp hx]
      exact odd_pair ts at' d h1 h2 h hd hb
  · by_cases hl : i < st.length
    · rw [List.getElem?_append_left hl, List.getElem?_append_left hl]
    · rw [List.getElem?_append_right (by omega), List.getElem?_append_right (by omega)]
      rw [show i - st.length = (i - st.length - 1) + 1 by omega]
      rfl
theorem nots_row (k : D) (x2 x6 x7 : Option D) (ts : List Int) (st : Sto) (at' : Nat) (h1 : at' < ts.length) (h2 : ts.length ≤ 5) (h : ∀ x ∈ ts, 0 ≤ x ∧ x ≤ 1000) (x3 : Option D) (n : Nat) (hn : n + 6 < 1000) (s : Sto) (hs : Pn ts st n s) :
    ∃ y s2, L3__law_share_refused [some k, some (.tup (ts.map .int)), x2, some (.ref st.length), some (.int (at' : Nat)), x3, x6, x7] s = .nx [some k, some (.tup (ts.map .int)), x2, some (.ref st.length), some (.int (at' : Nat)), y, x6, x7] s2 ∧ Pn ts st (n + 6) s2 := by
  have hl : st.length < s.length := by
    obtain ⟨xs, r, rfl, _⟩ := hs
    simp
  have hs0 : Pn ts st n (s ++ [.lst odds]) := by
    obtain ⟨xs, r, rfl, hx, hp⟩ := hs
    exact ⟨xs, r ++ [.lst odds], by simp, hx, hp⟩
  have key : ∀ (ds : List D) (n : Nat) (x : Option D) (s2 : Sto), (∀ d ∈ ds, flatD d = true ∧ inB d 0 1000 = false) → n + ds.length < 1000 → Pn ts st n s2 → s2[s.length]? = some (.lst odds) →
      ∃ y s3, forL (fun q => decide (q[s.length]? = some (.lst odds))) (tgN 5) L2__law_share_refused ds [some k, some (.tup (ts.map .int)), x2, some (.ref st.length), some (.int (at' : Nat)), x, x6, x7] s2 = .nx [some k, some (.tup (ts.map .int)), x2, some (.ref st.length), some (.int (at' : Nat)), y, x6, x7] s3 ∧ Pn ts st (n + ds.length) s3 := by
    intro ds
    induction ds with
    | nil => intro n x s2 _ _ q1 q2; exact ⟨x, s2, for_nil (by simp [q2]), q1⟩
    | cons d r ih =>
      intro n x s2 g1 g2 q1 q2
      obtain ⟨b1, b2⟩ := g1 d (by simp)
      simp only [List.length_cons] at g2
      obtain ⟨s3, k1, k2, k3⟩ := nots_turn k x2 x6 x7 ts st at' n d h1 h2 h b1 b2 (by omega) none s2 q1
      obtain ⟨y, s4, k4, k5⟩ := ih (n + 1) (some d) s3 (fun d' hd => g1 d' (by simp [hd])) (by omega) k2 (by rw [k3 _ (by omega)]; exact q2)
      refine ⟨y, s4, for_nx (by simp [q2]) rfl k1 k4, ?_⟩
      rw [show n + (d :: r).length = n + 1 + r.length by simp; omega]
      exact k5
  obtain ⟨y, s3, k1, k2⟩ := key odds n x3 (s ++ [.lst odds]) odds_bad (by simpa [odds] using hn) hs0 (by simp)
  refine ⟨y, s3, ?_, k2⟩
  simp only [L3__law_share_refused_ap]
  unfold sFor
  have e : (iSeq (eLst (aC (e1 oNeg (eC (.int 1))) (aC (eC (.int 1001)) (aC (eC (.bl true)) (aC (eC .non) (aC (eC (.str "1")) (aC (eTup (aC (eC (.int 1)) aN)) aN)))))))) [some k, some (.tup (ts.map .int)), x2, some (.ref st.length), some (.int (at' : Nat)), x3, x6, x7] s = .ok ⟨odds, fun q => decide (q[s.length]? = some (.lst odds))⟩ (s ++ [.lst odds]) := by
    simp [iSeq, fnS, eV, eC, Mm.e1, Mm.e2, eN, aN, aC, eCall, eTup, eLst, eIf, eCh, eAndT, eOrT, eNotT, bB, bAnd, bOr, bNot, bTru, tru, sSeq, sSet, sEx, sRet, sRetN, sNx, sNo, sBrk, sCt, sIf, sPar, sPar3, sAsg, tgN, tgNil, tgCons, tgTup, Mm.R.bind, Mm.R.of, Mm.R.st, oAdd, oSub, mul_i, oDiv, oMod, oPow, oCmpI, oLt, oLe, oGt, oGe, oIs, oIsN, oEq, oNe, eqF, b64_of, oIx, seqOf, lstOf, cellItems, sStore, eSl, eO, oLen, oInt, oListOf, oTupOf, oMax, oMin, oSum, oGcd, intsOf, oIsi, tyName, oNeg, eM1, eM0, isLst, oApp, oExt, oPopAt, oPop, fin_i, fin_b, fin_n, fin_s, fin_t2, at0, at1, at2, at3, at4, cut1, ix0, ix1, ix2, odds]
    rfl
  rw [e]
  exact k1

end Gk12

namespace Gk12
open Mm
def firstW : List D := [.tup [.non, .int (-1)], .tup [.tup [], .int (-1)], .tup [.tup (List.replicate 6 (.int 1)), .int (-1)], .tup [.int 3, .int (-1)], .tup [.str "1", .int (-1)]]
theorem firstW_bad : ∀ x ∈ firstW, BadW x := by
  intro x hx
  simp only [firstW, List.mem_cons, List.not_mem_nil, or_false] at hx
  rcases hx with rfl | rfl | rfl | rfl | rfl
  · exact ⟨_, _, rfl, rfl, by decide, fun st => check_no _ rfl (by intro xs q; cases q) st⟩
  · exact ⟨_, _, rfl, rfl, by decide, fun st => check_len _ st (by decide)⟩
  · exact ⟨_, _, rfl, rfl, by decide, fun st => check_len _ st (by decide)⟩
  · exact ⟨_, _, rfl, rfl, by decide, fun st => check_no _ rfl (by intro xs q; cases q) st⟩
  · exact ⟨_, _, rfl, rfl, by decide, fun st => check_no _ rfl (by intro xs q; cases q) st⟩
theorem cases_loop (k : D) (x2 x6 x7 : Option D) (ts : List Int) (st : Sto) (h2 : ts.length ≤ 5) (h : ∀ x ∈ ts, 0 ≤ x ∧ x ≤ 1000) : ∀ (j a n : Nat) (x4 x5 : Option D) (s : Sto), a + j = ts.length → n + 6 * j < 900 → Pn ts st n s →
      ∃ y z s3 m, forL (fun _ => true) (tgN 4) L3__law_share_refused (intsUp (a : Nat) j) [some k, some (.tup (ts.map .int)), x2, some (.ref st.length), x4, x5, x6, x7] s = .nx [some k, some (.tup (ts.map .int)), x2, some (.ref st.length), y, z, x6, x7] s3 ∧ Pn ts st m s3
  | 0, a, n, x4, x5, s, _, _, q => ⟨x4, x5, s, n, for_nil rfl, q⟩
  | j + 1, a, n, x4, x5, s, g1, g2, q => by
    obtain ⟨y, s2, k1, k2⟩ := nots_row k x2 x6 x7 ts st a (by omega) h2 h x5 n (by omega) s q
    obtain ⟨y', z', s3, m, k3, k4⟩ := cases_loop k x2 x6 x7 ts st h2 h j (a + 1) (n + 6) (some (.int (a : Nat))) y s2 (by omega) (by omega) k2
    rw [up_succ]
    exact ⟨y', z', s3, m, for_nx (d := .int (a : Nat)) rfl rfl k1 k3, k4⟩
theorem cheap_bk (d x : D) (h : isRf d = false) (h2 : inB d 1 60 = false) (st : Sto) : s_cheapest [d, x] st = .ex ⟨"BadK", .int 0⟩ st := by
  simp [s_cheapest, fnS, eV, eC, Mm.e1, Mm.e2, eN, aN, aC, eCall, eTup, eLst, eIf, eCh, eAndT, eOrT, eNotT, bB, bAnd, bOr, bNot, bTru, tru, sSeq, sSet, sEx, sRet, sRetN, sNx, sNo, sBrk, sCt, sIf, sPar, sPar3, sAsg, tgN, tgNil, tgCons, tgTup, Mm.R.bind, Mm.R.of, Mm.R.st, oAdd, oSub, mul_i, oDiv, oMod, oPow, oCmpI, oLt, oLe, oGt, oGe, oIs, oIsN, oEq, oNe, eqF, b64_of, oIx, seqOf, lstOf, cellItems, sStore, eSl, eO, oLen, oInt, oListOf, oTupOf, oMax, oMin, oSum, oGcd, intsOf, oIsi, tyName, oNeg, eM1, eM0, isLst, oApp, oExt, oPopAt, oPop, fin_i, fin_b, fin_n, fin_s, fin_t2, at0, at1, at2, at3, at4, cut1, ix0, ix1, ix2, made_k_bad d h h2]
theorem cheap_bg (k : Int) (x : D) (h : 24 < k) (h2 : k ≤ 60) (st : Sto) : s_cheapest [.int k, x] st = .ex ⟨"BadK", .int 0⟩ st := by
  simp [s_cheapest, fnS, eV, eC, Mm.e1, Mm.e2, eN, aN, aC, eCall, eTup, eLst, eIf, eCh, eAndT, eOrT, eNotT, bB, bAnd, bOr, bNot, bTru, tru, sSeq, sSet, sEx, sRet, sRetN, sNx, sNo, sBrk, sCt, sIf, sPar, sPar3, sAsg, tgN, tgNil, tgCons, tgTup, Mm.R.bind, Mm.R.of, Mm.R.st, oAdd, oSub, mul_i, oDiv, oMod, oPow, oCmpI, oLt, oLe, oGt, oGe, oIs, oIsN, oEq, oNe, eqF, b64_of, oIx, seqOf, lstOf, cellItems, sStore, eSl, eO, oLen, oInt, oListOf, oTupOf, oMax, oMin, oSum, oGcd, intsOf, oIsi, tyName, oNeg, eM1, eM0, isLst, oApp, oExt, oPopAt, oPop, fin_i, fin_b, fin_n, fin_s, fin_t2, at0, at1, at2, at3, at4, cut1, ix0, ix1, ix2, made_k_int k _ (by omega) h2, h, sRaise]
theorem cheap_bw (k : Int) (d : D) (w : Int) (hk : 1 ≤ k) (hk2 : k ≤ 24) (h : ∀ st, s_check_weights [d] st = .ex ⟨"BadWeights", .int w⟩ st) (st : Sto) : s_cheapest [.int k, d] st = .ex ⟨"BadWeights", .int w⟩ st := by
  have h3 : ¬ (24 : Int) < k := by omega
  simp [s_cheapest, fnS, eV, eC, Mm.e1, Mm.e2, eN, aN, aC, eCall, eTup, eLst, eIf, eCh, eAndT, eOrT, eNotT, bB, bAnd, bOr, bNot, bTru, tru, sSeq, sSet, sEx, sRet, sRetN, sNx, sNo, sBrk, sCt, sIf, sPar, sPar3, sAsg, tgN, tgNil, tgCons, tgTup, Mm.R.bind, Mm.R.of, Mm.R.st, oAdd, oSub, mul_i, oDiv, oMod, oPow, oCmpI, oLt, oLe, oGt, oGe, oIs, oIsN, oEq, oNe, eqF, b64_of, oIx, seqOf, lstOf, cellItems, sStore, eSl, eO, oLen, oInt, oListOf, oTupOf, oMax, oMin, oSum, oGcd, intsOf, oIsi, tyName, oNeg, eM1, eM0, isLst, oApp, oExt, oPopAt, oPop, fin_i, fin_b, fin_n, fin_s, fin_t2, at0, at1, at2, at3, at4, cut1, ix0, ix1, ix2, made_k_int k _ hk (by omega), h, h3]
theorem ne_kT {fa : EX} {e : Mm.Env} {st : Sto} (h : fa e st = .ok kT st) : sIf (bB (Mm.e2 oNe fa (eTup (aC (eC (.str "k")) (aC (eC (.int 0)) aN))))) (sRet (eC (.bl false))) sNx e st = .nx e st := by
  have h9 : eqF st (.tup [.str "k", .int 0]) (.tup [.str "k", .int 0]) = some true := eqF_kT st
  refine if_no ?_
  simp only [bB, Mm.e2, h, Mm.R.bind, eTup, aC, aN, eC, oNe, kT, h9, Option.map, Mm.R.of]
  rfl
def Er (k : Int) (L : List D) (e : Mm.Env) : Prop := ∃ a, e = [some (.int k), some (.tup L), a, none, none, none, none, none]
theorem loop_k (k : Int) (L : List D) (d : D) (h : ∀ st, s_cheapest [d, .non] st = .ex ⟨"BadK", .int 0⟩ st) (e : Mm.Env) (st : Sto) (he : Er k L e) :
    ∃ e1 e2 r, tgN 2 d e = some e1 ∧ L1__law_share_refused e1 st = .nx e2 (st ++ r) ∧ Er k L e2 := by
  obtain ⟨a, rfl⟩ := he
  refine ⟨_, [some (.int k), some (.tup L), some d, none, none, none, none, none], [], rfl, ?_, ⟨_, rfl⟩⟩
  simp only [L1__law_share_refused_ap, List.set, List.append_nil]
  exact ne_kT (heard_k (by simp [fnS, eV, eC, Mm.e1, Mm.e2, eN, aN, aC, eCall, eTup, eLst, eIf, eCh, eAndT, eOrT, eNotT, bB, bAnd, bOr, bNot, bTru, tru, sSeq, sSet, sEx, sRet, sRetN, sNx, sNo, sBrk, sCt, sIf, sPar, sPar3, sAsg, tgN, tgNil, tgCons, tgTup, Mm.R.bind, Mm.R.of, Mm.R.st, oAdd, oSub, mul_i, oDiv, oMod, oPow, oCmpI, oLt, oLe, oGt, oGe, oIs, oIsN, oEq, oNe, eqF, b64_of, oIx, seqOf, lstOf, cellItems, sStore, eSl, eO, oLen, oInt, oListOf, oTupOf, oMax, oMin, oSum, oGcd, intsOf, oIsi, tyName, oNeg, eM1, eM0, isLst, oApp, oExt, oPopAt, oPop, fin_i, fin_b, fin_n, fin_s, fin_t2, at0, at1, at2, at3, at4, cut1, ix0, ix1, ix2, h]))
def badK : List D := noK ++ [.int 25, .int 60]
theorem badK_bad : ∀ d ∈ badK, ∀ st, s_cheapest [d, .non] st = .ex ⟨"BadK", .int 0⟩ st := by
  intro d hd st
  rcases List.mem_append.mp hd with hd | hd
  · exact cheap_bk d _ (noK_bad d hd).1 (noK_bad d hd).2 st
  · simp only [List.mem_cons, List.not_mem_nil, or_false] at hd
    rcases hd with rfl | rfl
    · exact cheap_bg 25 _ (by decide) (by decide) st
    · exact cheap_bg 60 _ (by decide) (by decide) st
theorem bad_src (k : Int) (L : List D) (st : Sto) : iSeq (e2 oAdd (eCall s__law_kind_no_k aN) (eLst (aC (eC (.int 25)) (aC (eC (.int 60)) aN)))) [some (.int k), some (.tup L), none, none, none, none, none, none] st = .ok ⟨badK, fun q => decide (q[st.length + 2]? = (st ++ [Cell.lst noK, Cell.lst [.int 25, .int 60], Cell.lst badK])[st.length + 2]?)⟩ (st ++ [Cell.lst noK, Cell.lst [.int 25, .int 60], Cell.lst badK]) := by
  refine seq_new (i := st.length + 2) ?_ ?_
  · have n1 := no_k_ok st
    have l1 : noK.length + 2 ≤ lim := by unfold lim; decide
    simp only [e2, eCall, aN, Mm.R.bind, n1, eLst, aC, eC]
    simp [fnS, eV, eC, Mm.e1, Mm.e2, eN, aN, aC, eCall, eTup, eLst, eIf, eCh, eAndT, eOrT, eNotT, bB, bAnd, bOr, bNot, bTru, tru, sSeq, sSet, sEx, sRet, sRetN, sNx, sNo, sBrk, sCt, sIf, sPar, sPar3, sAsg, tgN, tgNil, tgCons, tgTup, Mm.R.bind, Mm.R.of, Mm.R.st, oAdd, oSub, mul_i, oDiv, oMod, oPow, oCmpI, oLt, oLe, oGt, oGe, oIs, oIsN, oEq, oNe, eqF, b64_of, oIx, seqOf, lstOf, cellItems, sStore, eSl, eO, oLen, oInt, oListOf, oTupOf, oMax, oMin, oSum, oGcd, intsOf, oIsi, tyName, oNeg, eM1, eM0, isLst, oApp, oExt, oPopAt, oPop, fin_i, fin_b, fin_n, fin_s, fin_t2, at0, at1, at2, at3, at4, cut1, ix0, ix1, ix2, l1, badK, List.getElem?_append_right]
  · simp [List.getElem?_append_right]
theorem w_told (w : Int) (hw : w.natAbs ≤ 100) : ∃ s, ∀ st : Sto, oRepr [.tup [.str "weights", .int w]] st = some (.str s, st) := by
  have h1 : okP (.str "weights") = true := by decide +kernel
  have h2 : w.natAbs < 10 ^ 60 := Nat.lt_of_le_of_lt hw (by decide +kernel)
  have h3 : PySem.PyData.bulk (.str "weights") = 7 := by decide +kernel
  refine ⟨_, fun st => repr_ok (p := .tuple [.str "weights", .int w]) rfl ?_ (by simp only [PySem.PyData.depth, PySem.PyData.depthAll]; decide) ?_⟩
  · simp only [okP, okPs, h2, decide_true, Bool.and_true]
    exact h1
  · simp only [PySem.PyData.bulk, PySem.PyData.bulkAll] at h3 ⊢
    omega
theorem test_w (k : Int) (hk : 1 ≤ k) (hk2 : k ≤ 24) (x1 x2 x3 x4 x5 : Option D) (d : D) (w : Int) (hw : w.natAbs ≤ 100) (h : ∀ st, s_check_weights [d] st = .ex ⟨"BadWeights", .int w⟩ st) (st : Sto) : I1__law_share_refused [some (.int k), x1, x2, x3, x4, x5, some d, some (.int w)] st = .ok false st := by
  obtain ⟨s, g⟩ := w_told w hw
  rw [I1__law_share_refused_ap]
  have h1 : ∀ e : Mm.Env, e[0]? = some (some (.int k)) → e[6]? = some (some d) → eHeard "is" 2 mtab mnames hl__law_kind_heard (eCall s_cheapest (aC (eV 0) (aC (eV 6) aN))) e st = .ok (.tup [.str "weights", .int w]) st := fun e q1 q2 => heard_w (by simp [eCall, aC, aN, eV, q1, q2, Mm.R.bind, cheap_bw k d w hk hk2 h])
  simp only [bB, Mm.e2, eN, aC, aN, h1 [some (.int k), x1, x2, x3, x4, x5, some d, some (.int w)] rfl rfl, Mm.R.bind, Mm.R.of, g, eTup, eC, eV, List.getElem?_cons_succ, List.getElem?_cons_zero]
  simp [fnS, eV, eC, Mm.e1, Mm.e2, eN, aN, aC, eCall, eTup, eLst, eIf, eCh, eAndT, eOrT, eNotT, bB, bAnd, bOr, bNot, bTru, tru, sSeq, sSet, sEx, sRet, sRetN, sNx, sNo, sBrk, sCt, sIf, sPar, sPar3, sAsg, tgN, tgNil, tgCons, tgTup, Mm.R.bind, Mm.R.of, Mm.R.st, oAdd, oSub, mul_i, oDiv, oMod, oPow, oCmpI, oLt, oLe, oGt, oGe, oIs, oIsN, oEq, oNe, eqF, b64_of, oIx, seqOf, lstOf, cellItems, sStore, eSl, eO, oLen, oInt, oListOf, oTupOf, oMax, oMin, oSum, oGcd, intsOf, oIsi, tyName, oNeg, eM1, eM0, isLst, oApp, oExt, oPopAt, oPop, fin_i, fin_b, fin_n, fin_s, fin_t2, at0, at1, at2, at3, at4, cut1, ix0, ix1, ix2]
theorem refused_ok (k : Int) (ws : List Int) (hk : 1 ≤ k) (hk2 : k ≤ 24) (h1 : 1 ≤ ws.length) (h2 : ws.length ≤ 5) (h : ∀ x ∈ ws, 0 ≤ x ∧ x ≤ 1000) (st : Sto) : s__law_share_refused [.int k, .tup (ws.map .int)] st = .ok (.bl true) st := by
  obtain ⟨v1, r1, k1, a, rfl⟩ := for_new (src := iSeq (e2 oAdd (eCall s__law_kind_no_k aN) (eLst (aC (eC (.int 25)) (aC (eC (.int 60)) aN))))) (t := tgN 2) (body := L1__law_share_refused) (e := [some (.int k), some (.tup (ws.map .int)), none, none, none, none, none, none]) (st := st) (s1 := st ++ [Cell.lst noK, Cell.lst [.int 25, .int 60], Cell.lst badK]) (xs := badK) (i := st.length + 2) (Er k (ws.map .int))
    (bad_src k (ws.map .int) st) (by simp) ⟨_, rfl⟩ (fun d hd e st he => loop_k k (ws.map .int) d (badK_bad d hd) e st he)
  generalize hS : st ++ [Cell.lst noK, Cell.lst [.int 25, .int 60], Cell.lst badK] ++ r1 = S at *
  obtain ⟨y, z, s3, m, k2, xs, r3, rfl, _, k3⟩ := cases_loop (.int k) a none none ws S h2 h ws.length 0 5 none none (S ++ [.lst firstW]) (by omega) (by omega) ⟨firstW, [], rfl, rfl, firstW_bad⟩
  have hcl : S.length < (S ++ Cell.lst xs :: r3).length := by simp
  have hce : (S ++ Cell.lst xs :: r3)[S.length]? = some (.lst xs) := app_get
  have k4 := lc_empty (own := [6, 7]) (src := iSeq (eV 3)) (t := tgTup (tgCons (tgN 6) (tgCons (tgN 7) tgNil))) (c := I1__law_share_refused) (f := E1__law_share_refused) (e := [some (.int k), some (.tup (ws.map .int)), a, some (.ref S.length), y, z, none, none]) (st := S ++ Cell.lst xs :: r3) (seq_new (a := eV 3) rfl hce) (by simp only [app_low hcl, decide_true]) (fun d hd => by
    obtain ⟨thing, w, rfl, _, hw, hb⟩ := k3 d hd
    exact ⟨[some (.int k), some (.tup (ws.map .int)), a, some (.ref S.length), y, z, some thing, some (.int w)], rfl, test_w k hk hk2 _ _ _ _ _ thing w hw hb _⟩)
  have k5 := eq_nil (xs := []) (ps := []) k4 (by simp) rfl shaped_nil
  subst hS
  refine fn_flat (r := [Cell.lst noK, Cell.lst [.int 25, .int 60], Cell.lst badK] ++ r1 ++ (Cell.lst xs :: r3) ++ [Cell.lst []] ++ [Cell.lst []]) rfl ?_
  simp only [← List.append_assoc] at *
  generalize st ++ [Cell.lst noK, Cell.lst [.int 25, .int 60], Cell.lst badK] ++ r1 = S at *
  refine seq_nx k1 ?_
  have m6 : oMul (.tup [.int 1]) (.int 6) S = some (.tup (List.replicate 6 (.int 1)), S) := by simp [oMul, lim, List.replicate]
  refine seq_nx (e1 := [some (.int k), some (.tup (ws.map .int)), a, some (.ref S.length), none, none, none, none]) (st1 := S ++ [.lst firstW]) (by simp [fnS, eV, eC, Mm.e1, Mm.e2, eN, aN, aC, eCall, eTup, eLst, eIf, eCh, eAndT, eOrT, eNotT, bB, bAnd, bOr, bNot, bTru, tru, sSeq, sSet, sEx, sRet, sRetN, sNx, sNo, sBrk, sCt, sIf, sPar, sPar3, sAsg, tgN, tgNil, tgCons, tgTup, Mm.R.bind, Mm.R.of, Mm.R.st, oAdd, oSub, mul_i, oDiv, oMod, oPow, oCmpI, oLt, oLe, oGt, oGe, oIs, oIsN, oEq, oNe, eqF, b64_of, oIx, seqOf, lstOf, cellItems, sStore, eSl, eO, oLen, oInt, oListOf, oTupOf, oMax, oMin, oSum, oGcd, intsOf, oIsi, tyName, oNeg, eM1, eM0, isLst, oApp, oExt, oPopAt, oPop, fin_i, fin_b, fin_n, fin_s, fin_t2, at0, at1, at2, at3, at4, cut1, ix0, ix1, ix2, firstW, m6]) ?_
  refine seq_nx (e1 := [some (.int k), some (.tup (ws.map .int)), a, some (.ref S.length), y, z, none, none]) (st1 := S ++ Cell.lst xs :: r3) ?_ (ret_ok k5)
  unfold sFor
  have e : (iR1 (aC (eN oLen (aC (eV 1) aN)) aN)) [some (.int k), some (.tup (ws.map .int)), a, some (.ref S.length), none, none, none, none] (S ++ [.lst firstW]) = .ok ⟨intsUp 0 ws.length, fun _ => true⟩ (S ++ [.lst firstW]) := by
    have hb : bigR (ws.length : Int) = true := decide_eq_true (by omega)
    simp [iR1, fnS, eV, eC, Mm.e1, Mm.e2, eN, aN, aC, eCall, eTup, eLst, eIf, eCh, eAndT, eOrT, eNotT, bB, bAnd, bOr, bNot, bTru, tru, sSeq, sSet, sEx, sRet, sRetN, sNx, sNo, sBrk, sCt, sIf, sPar, sPar3, sAsg, tgN, tgNil, tgCons, tgTup, Mm.R.bind, Mm.R.of, Mm.R.st, oAdd, oSub, mul_i, oDiv, oMod, oPow, oCmpI, oLt, oLe, oGt, oGe, oIs, oIsN, oEq, oNe, eqF, b64_of, oIx, seqOf, lstOf, cellItems, sStore, eSl, eO, oLen, oInt, oListOf, oTupOf, oMax, oMin, oSum, oGcd, intsOf, oIsi, tyName, oNeg, eM1, eM0, isLst, oApp, oExt, oPopAt, oPop, fin_i, fin_b, fin_n, fin_s, fin_t2, at0, at1, at2, at3, at4, cut1, ix0, ix1, ix2, hb]
  rw [e]
  exact k2
end Gk12

namespace Gk12
open Mm
theorem dw_loop (top : Int) (ht : 1 ≤ top) (ht2 : top ≤ 1001) (sl : Nat) (f : EX) (e : Mm.Env) (hsl : sl < e.length) (hf : ∀ (a : D) (s : Sto), f (e.set sl (some a)) s = s__law_draw [.ref 3, .int top] s) (rest : Sto) (hr : lowS (4 + rest.length) rest = true) : ∀ (j a : Nat) (acc : List Int) (s : Sto), acc.length + j ≤ 100 → (∀ x ∈ acc, 0 ≤ x ∧ x < top) → Pst (rest ++ [Cell.lst (acc.map .int)]) s →
    ∃ (ms : List Int) (s2 : Sto), lcL (fun _ => true) (tgN sl) bYes f (4 + rest.length) e (intsUp (a : Nat) j) s = .ok s2 ∧ ms.length = acc.length + j ∧ (∀ x ∈ ms, 0 ≤ x ∧ x < top) ∧ Pst (rest ++ [Cell.lst (ms.map .int)]) s2
  | 0, a, acc, s, _, q1, q2 => ⟨acc, s, by simp [intsUp, lcL], rfl, q1, q2⟩
  | j + 1, a, acc, s, q0, q1, q2 => by
    have hlow : lowS (4 + (rest ++ [Cell.lst (acc.map D.int)]).length) (rest ++ [Cell.lst (acc.map D.int)]) = true := by
      have := lowS_push hr (flat_ints acc)
      simpa [Nat.add_assoc] using this
    obtain ⟨v, s1, p1, p2, p3, p4⟩ := draw_ok (many := top) q2 hlow ht (by omega)
    have hg := pst_last p4
    have q3 := pst_set (c2 := Cell.lst ((acc ++ [v]).map .int)) p4
    obtain ⟨ms, s2, k1, k2, k3, k4⟩ := dw_loop top ht ht2 sl f e hsl hf rest hr j (a + 1) (acc ++ [v]) _ (by simp; omega) (fun x hx => by
      rcases List.mem_append.mp hx with hx | hx
      · exact q1 x hx
      · have := List.mem_singleton.mp hx; omega) q3
    refine ⟨ms, s2, ?_, by rw [k2]; simp; omega, k3, k4⟩
    rw [up_succ, lcL, if_pos rfl]
    have hl : acc.length < lim := by unfold lim; omega
    have he : f (e.set sl (some (.int (a : Nat)))) s = .ok (.int v) s1 := by rw [hf]; exact p1
    simp only [tgN, hsl, if_true, bYes, he, lstOf, hg, List.length_map, hl]
    rw [show acc.map D.int ++ [.int v] = (acc ++ [v]).map .int by simp]
    exact k1
/-- tuple([draw(top) for turn in ..]) -/
theorem dw_tup (top : Int) (ht : 1 ≤ top) (ht2 : top ≤ 1001) (n : Nat) (hn : n ≤ 50) (src : IX) (f : EX) (e : Mm.Env) (st s1 : Sto) (rest : Sto) (hs : src e st = .ok ⟨intsUp 0 n, fun _ => true⟩ s1) (hp : Pst rest s1) (hr : lowS (4 + rest.length) rest = true) (hsl : 8 < e.length) (hf : ∀ (a : D) (s : Sto), f ((wipeE e [8]).set 8 (some a)) s = s__law_draw [.ref 3, .int top] s) :
    ∃ (ms : List Int) (s2 : Sto), eN oTupOf (aC (eLc [8] src (tgN 8) bYes f) aN) e st = .ok (.tup (ms.map .int)) s2 ∧ ms.length = n ∧ (∀ x ∈ ms, 0 ≤ x ∧ x < top) ∧ Pst (rest ++ [Cell.lst (ms.map .int)]) s2 ∧ lowS (4 + (rest ++ [Cell.lst (ms.map .int)]).length) (rest ++ [Cell.lst (ms.map .int)]) = true := by
  have q0 : Pst (rest ++ [Cell.lst (([] : List Int).map .int)]) (s1 ++ [Cell.lst []]) := pst_push hp [Cell.lst []]
  obtain ⟨ms, s2, k1, k2, k3, k4⟩ := dw_loop top ht ht2 8 f (wipeE e [8]) (by simpa [wipeE] using hsl) hf rest hr n 0 [] (s1 ++ [Cell.lst []]) (by simp; omega) (fun x hx => by cases hx) q0
  have hl : s1.length = 4 + rest.length := pst_len hp
  have hg := pst_last k4
  refine ⟨ms, s2, ?_, by simpa using k2, k3, k4, ?_⟩
  · have e1 : eLc [8] src (tgN 8) bYes f e st = .ok (.ref (4 + rest.length)) s2 := by
      unfold eLc
      rw [hs]
      simp only [hl]
      rw [show intsUp 0 n = intsUp ((0 : Nat) : Int) n from rfl, k1]
    simp only [eN, aC, aN, e1, Mm.R.bind, oTupOf, seqOf, hg]
    have : ms.length ≤ lim := by rw [k2]; unfold lim; simp; omega
    simp [cellItems, Mm.R.of, this]
  · have := lowS_push hr (flat_ints ms)
    simpa [Nat.add_assoc] using this
theorem nz_back (ms : List Int) (h : ∀ x ∈ ms, 0 ≤ x) : nz (ms.map Int.toNat) = ms := by
  rw [nz, List.map_map]
  conv => rhs; rw [← List.map_id ms]
  refine List.map_congr_left fun x hx => ?_
  have := h x hx
  simp only [Function.comp_apply, id]
  omega
theorem right_i (k : Int) (hk1 : 1 ≤ k) (hk : k ≤ 24) (ms : List Int) (h1 : 1 ≤ ms.length) (h2 : ms.length ≤ 5) (h : ∀ x ∈ ms, 0 ≤ x ∧ x ≤ 1000) (st : Sto) : s__law_share_right [.int k, .tup (ms.map .int)] st = .ok (.bl true) st := by
  have := right_ok k.toNat (ms.length - 1) (by omega) (by omega) (by omega) (ms.map Int.toNat) (by simp; omega) (fun x hx => by obtain ⟨y, hy, rfl⟩ := List.mem_map.mp hx; have := h y hy; omega) st
  rw [nz_back ms (fun x hx => (h x hx).1), show ((k.toNat : Nat) : Int) = k by omega] at this
  exact this
theorem law_lits (st : Sto) : bOr (bB (e2 oNe (eCall s_cheapest (aC (eC (.int 6)) (aC (eTup (aC (eC (.int 1)) (aC (eC (.int 1)) (aC (eC (.int 4)) aN)))) aN))) (eTup (aC (eTup (aC (eC (.int 17)) (aC (eC (.int 35)) aN))) (aC (eC (.int 2)) (aC (eTup (aC (eC (.int 1)) (aC (eC (.int 4)) (aC (eC (.int 0)) aN)))) aN)))))) (bB (e2 oNe (eCall s_cheapest (aC (eC (.int 24)) (aC (eTup (aC (eC (.int 7)) aN)) aN))) (eTup (aC (eTup (aC (eC (.int 0)) (aC (eC (.int 1)) aN))) (aC (eC (.int 0)) (aC (eTup (aC (eC (.int 0)) aN)) aN)))))) [some (.ref 0), none, none, none, none, none, none, none, none] st = .ok false st := by
  have c1 : s_cheapest [.int 6, .tup [.int 1, .int 1, .int 4]] st = .ok (.tup [.tup [.int 17, .int 35], .int 2, .tup [.int 1, .int 4, .int 0]]) st := by
    have hz : pks (ltP 6 (comm 6) [1, 1, 4]) (lotsL (6 : Nat) 2) 3 0 none = some (2, [1, 4]) := by decide +kernel
    have := cheapest_ok 6 2 (by decide) (by decide) [1, 1, 4] rfl (by decide) (by decide) (by decide) (2, [1, 4]) hz st
    have e : askD 6 [1, 1, 4] (2, [1, 4]) = .tup [.tup [.int 17, .int 35], .int 2, .tup [.int 1, .int 4, .int 0]] := by
      have e1 : cP 6 (comm 6) [1, 1, 4] (2, [1, 4]) / Nat.gcd (cP 6 (comm 6) [1, 1, 4] (2, [1, 4])) (comm 6) = 17 := by decide +kernel
      have e2 : comm 6 / Nat.gcd (cP 6 (comm 6) [1, 1, 4] (2, [1, 4])) (comm 6) = 35 := by decide +kernel
      simp only [askD, lowT, e1, e2]
      rfl
    rw [e] at this
    exact this
  have c2 : s_cheapest [.int 24, .tup [.int 7]] st = .ok (.tup [.tup [.int 0, .int 1], .int 0, .tup [.int 0]]) st := by
    have hz : pks (ltP 24 (comm 24) [7]) (lotsL (24 : Nat) 0) 1 0 none = some (0, []) := by decide +kernel
    have := cheapest_ok 24 0 (by decide) (by decide) [7] rfl (by decide) (by decide) (by decide) (0, []) hz st
    have e : askD 24 [7] (0, []) = .tup [.tup [.int 0, .int 1], .int 0, .tup [.int 0]] := by
      have e1 : cP 24 (comm 24) [7] (0, []) / Nat.gcd (cP 24 (comm 24) [7] (0, [])) (comm 24) = 0 := by decide +kernel
      have e2 : comm 24 / Nat.gcd (cP 24 (comm 24) [7] (0, [])) (comm 24) = 1 := by decide +kernel
      simp only [askD, lowT, e1, e2]
      rfl
    rw [e] at this
    exact this
  have q1 : eqF st (.tup [.tup [.int 17, .int 35], .int 2, .tup [.int 1, .int 4, .int 0]]) (.tup [.tup [.int 17, .int 35], .int 2, .tup [.int 1, .int 4, .int 0]]) = some true := eqF_tup (p := [.tuple [.int 17, .int 35], .int 2, .tuple [.int 1, .int 4, .int 0]]) (q := [.tuple [.int 17, .int 35], .int 2, .tuple [.int 1, .int 4, .int 0]]) rfl rfl (by decide +kernel) (by decide +kernel) (by decide +kernel)
  have q2 : eqF st (.tup [.tup [.int 0, .int 1], .int 0, .tup [.int 0]]) (.tup [.tup [.int 0, .int 1], .int 0, .tup [.int 0]]) = some true := eqF_tup (p := [.tuple [.int 0, .int 1], .int 0, .tuple [.int 0]]) (q := [.tuple [.int 0, .int 1], .int 0, .tuple [.int 0]]) rfl rfl (by decide +kernel) (by decide +kernel) (by decide +kernel)
  refine or_ff ?_ ?_
  · simp only [bB, Mm.e2, eCall, eTup, aC, aN, eC, Mm.R.bind, c1, oNe, q1]
    rfl
  · simp only [bB, Mm.e2, eCall, eTup, aC, aN, eC, Mm.R.bind, c2, oNe, q2]
    rfl
theorem law_true (ns : List Int) (h : ns.length ≤ 63) : ∃ st', s_law [.ref 0] [.ro (ns.map D.int)] = .ok (.bl true) st' := by
  obtain ⟨st1, p1, q1⟩ := pool_ok ns h
  obtain ⟨r1, st2, p2, a2, b2, q2⟩ := draw_ok (many := 4) q1 rfl (by decide) (by decide)
  obtain ⟨m, hm⟩ : ∃ m : Nat, (m : Int) = 1 + r1 := ⟨(1 + r1).toNat, by omega⟩
  have hkk : ∃ (k : Int) (s3 : Sto), e2 oAdd (eC (.int 1)) (eCall s__law_draw (aC (eV 1) (aC (eIf (bAnd (bB (e2 oLt (eV 2) (eC (.int 4)))) (bB (e2 oEq (eCall s__law_draw (aC (eV 1) (aC (eC (.int 4)) aN))) (eC (.int 0))))) (eC (.int 24)) (eC (.int 9))) aN))) [some (.ref 0), some (.ref 3), some (.int (m : Nat)), none, none, none, none, none, none] st2 = .ok (.int k) s3 ∧ 1 ≤ k ∧ k ≤ 24 ∧ Pst [] s3 := by
    by_cases h4 : (m : Int) < 4
    · obtain ⟨r2, st3, p3, a3, b3, q3⟩ := draw_ok (many := 4) q2 rfl (by decide) (by decide)
      by_cases h0 : r2 = 0
      · obtain ⟨r3, st4, p4, a4, b4, q4⟩ := draw_ok (many := 24) q3 rfl (by decide) (by decide)
        exact ⟨1 + r3, st4, by generalize (m : Int) = M at *; simp [fnS, eV, eC, Mm.e1, Mm.e2, eN, aN, aC, eCall, eTup, eLst, eIf, eCh, eAndT, eOrT, eNotT, bB, bAnd, bOr, bNot, bTru, tru, sSeq, sSet, sEx, sRet, sRetN, sNx, sNo, sBrk, sCt, sIf, sPar, sPar3, sAsg, tgN, tgNil, tgCons, tgTup, Mm.R.bind, Mm.R.of, Mm.R.st, oAdd, oSub, mul_i, oDiv, oMod, oPow, oCmpI, oLt, oLe, oGt, oGe, oIs, oIsN, oEq, oNe, eqF, b64_of, oIx, seqOf, lstOf, cellItems, sStore, eSl, eO, oLen, oInt, oListOf, oTupOf, oMax, oMin, oSum, oGcd, intsOf, oIsi, tyName, oNeg, eM1, eM0, isLst, oApp, oExt, oPopAt, oPop, fin_i, fin_b, fin_n, fin_s, fin_t2, at0, at1, at2, at3, at4, cut1, ix0, ix1, ix2, h4, p3, h0, p4], by omega, by omega, q4⟩
      · obtain ⟨r3, st4, p4, a4, b4, q4⟩ := draw_ok (many := 9) q3 rfl (by decide) (by decide)
        exact ⟨1 + r3, st4, by generalize (m : Int) = M at *; simp [fnS, eV, eC, Mm.e1, Mm.e2, eN, aN, aC, eCall, eTup, eLst, eIf, eCh, eAndT, eOrT, eNotT, bB, bAnd, bOr, bNot, bTru, tru, sSeq, sSet, sEx, sRet, sRetN, sNx, sNo, sBrk, sCt, sIf, sPar, sPar3, sAsg, tgN, tgNil, tgCons, tgTup, Mm.R.bind, Mm.R.of, Mm.R.st, oAdd, oSub, mul_i, oDiv, oMod, oPow, oCmpI, oLt, oLe, oGt, oGe, oIs, oIsN, oEq, oNe, eqF, b64_of, oIx, seqOf, lstOf, cellItems, sStore, eSl, eO, oLen, oInt, oListOf, oTupOf, oMax, oMin, oSum, oGcd, intsOf, oIsi, tyName, oNeg, eM1, eM0, isLst, oApp, oExt, oPopAt, oPop, fin_i, fin_b, fin_n, fin_s, fin_t2, at0, at1, at2, at3, at4, cut1, ix0, ix1, ix2, h4, p3, h0, p4], by omega, by omega, q4⟩
    · obtain ⟨r3, st4, p4, a4, b4, q4⟩ := draw_ok (many := 9) q2 rfl (by decide) (by decide)
      exact ⟨1 + r3, st4, by generalize (m : Int) = M at *; simp [fnS, eV, eC, Mm.e1, Mm.e2, eN, aN, aC, eCall, eTup, eLst, eIf, eCh, eAndT, eOrT, eNotT, bB, bAnd, bOr, bNot, bTru, tru, sSeq, sSet, sEx, sRet, sRetN, sNx, sNo, sBrk, sCt, sIf, sPar, sPar3, sAsg, tgN, tgNil, tgCons, tgTup, Mm.R.bind, Mm.R.of, Mm.R.st, oAdd, oSub, mul_i, oDiv, oMod, oPow, oCmpI, oLt, oLe, oGt, oGe, oIs, oIsN, oEq, oNe, eqF, b64_of, oIx, seqOf, lstOf, cellItems, sStore, eSl, eO, oLen, oInt, oListOf, oTupOf, oMax, oMin, oSum, oGcd, intsOf, oIsi, tyName, oNeg, eM1, eM0, isLst, oApp, oExt, oPopAt, oPop, fin_i, fin_b, fin_n, fin_s, fin_t2, at0, at1, at2, at3, at4, cut1, ix0, ix1, ix2, h4, p4], by omega, by omega, q4⟩
  obtain ⟨k, s3, p3, k1, k2, q3⟩ := hkk
  have q3' : Pst ([] ++ [Cell.lst [.int 2, .int 5, .int 1001]]) (s3 ++ [Cell.lst [.int 2, .int 5, .int 1001]]) := pst_push q3 _
  obtain ⟨r5, s5, p5, a5, b5, q5⟩ := draw_ok (many := 3) q3' rfl (by decide) (by decide)
  have hg5 := pst_last q5
  have htop : ∃ top : Int, L2.atI ([.int 2, .int 5, .int 1001] : List D) r5 = some (.int top) ∧ 1 ≤ top ∧ top ≤ 1001 := by
    have : r5 = 0 ∨ r5 = 1 ∨ r5 = 2 := by omega
    rcases this with rfl | rfl | rfl
    · exact ⟨2, rfl, by decide, by decide⟩
    · exact ⟨5, rfl, by decide, by decide⟩
    · exact ⟨1001, rfl, by decide, by decide⟩
  obtain ⟨top, t1, t2, t3⟩ := htop
  have hl3 : s3.length = 4 := pst_len q3
  have hbm : bigR (m : Int) = true := decide_eq_true (by omega)
  obtain ⟨ws, s6, p6, w1, w2, q6, l6⟩ := dw_tup top t2 t3 m (by omega) (iR1 (aC (eV 2) aN)) E1_law [some (.ref 0), some (.ref 3), some (.int (m : Nat)), some (.int k), some (.int top), none, none, none, none] s5 s5 _
    (by simp only [iR1, aC, aN, eV, Mm.R.bind, List.getElem?_cons_succ, List.getElem?_cons_zero, hbm, if_true, Int.toNat_natCast]) q5 rfl (by simp) (fun a s => by rw [E1_law_ap]; simp [fnS, eV, eC, Mm.e1, Mm.e2, eN, aN, aC, eCall, eTup, eLst, eIf, eCh, eAndT, eOrT, eNotT, bB, bAnd, bOr, bNot, bTru, tru, sSeq, sSet, sEx, sRet, sRetN, sNx, sNo, sBrk, sCt, sIf, sPar, sPar3, sAsg, tgN, tgNil, tgCons, tgTup, Mm.R.bind, Mm.R.of, Mm.R.st, oAdd, oSub, mul_i, oDiv, oMod, oPow, oCmpI, oLt, oLe, oGt, oGe, oIs, oIsN, oEq, oNe, eqF, b64_of, oIx, seqOf, lstOf, cellItems, sStore, eSl, eO, oLen, oInt, oListOf, oTupOf, oMax, oMin, oSum, oGcd, intsOf, oIsi, tyName, oNeg, eM1, eM0, isLst, oApp, oExt, oPopAt, oPop, fin_i, fin_b, fin_n, fin_s, fin_t2, at0, at1, at2, at3, at4, cut1, ix0, ix1, ix2, wipeE])
  have g1 := right_i k k1 k2 ws (by omega) (by omega) (fun x hx => by have := w2 x hx; omega)
  have g2 := refused_ok k ws k1 k2 (by omega) (by omega) (fun x hx => by have := w2 x hx; omega)
  obtain ⟨r7, s7, p7, a7, b7, q7⟩ := draw_ok (many := 16) q6 l6 (by decide) (by decide)
  suffices hfin : ∃ s9, (sSeq (sIf (bB (e2 oEq (eCall s__law_draw (aC (eV 1) (aC (eC (.int 16)) aN))) (eC (.int 7)))) (sSeq (sSet 6 (eN oTupOf (aC (eLc [8] (iR1 (aC (e2 oAdd (eC (.int 4)) (eCall s__law_draw (aC (eV 1) (aC (eC (.int 2)) aN)))) aN)) (tgN 8) bYes E2_law) aN)))
    (sRet (eCall s__law_share_right (aC (e2 oAdd (eC (.int 15)) (eCall s__law_draw (aC (eV 1) (aC (eC (.int 10)) aN)))) (aC (eV 6) aN))))) sNx)
    (sSeq (sSet 7 (eN oTupOf (aC (eLc [8] (iR1 (aC (eC (.int 5)) aN)) (tgN 8) bYes E3_law) aN)))
    (sRet (eCall s__law_share_right (aC (e2 oAdd (eC (.int 1)) (eCall s__law_draw (aC (eV 1) (aC (eIf (bB (e2 oEq (eCall s__law_draw (aC (eV 1) (aC (eC (.int 12)) aN))) (eC (.int 0)))) (eC (.int 14)) (eC (.int 10))) aN)))) (aC (eV 7) aN)))))) [some (.ref 0), some (.ref 3), some (.int (m : Nat)), some (.int k), some (.int top), some (.tup (ws.map .int)), none, none, none] s6 = .ret (.bl true) s9 by
    obtain ⟨s9, h9⟩ := hfin
    obtain ⟨st', hs⟩ := fin_bool [Cell.ro (ns.map D.int)] s9 true
    refine ⟨st', ?_⟩
    unfold s_law
    refine fn_ret (d := .bl true) (st' := s9) ?_ hs
    refine seq_if (law_lits _) ?_
    refine seq_nx (e1 := [some (.ref 0), some (.ref 3), none, none, none, none, none, none, none]) (st1 := st1) (by simp [fnS, eV, eC, Mm.e1, Mm.e2, eN, aN, aC, eCall, eTup, eLst, eIf, eCh, eAndT, eOrT, eNotT, bB, bAnd, bOr, bNot, bTru, tru, sSeq, sSet, sEx, sRet, sRetN, sNx, sNo, sBrk, sCt, sIf, sPar, sPar3, sAsg, tgN, tgNil, tgCons, tgTup, Mm.R.bind, Mm.R.of, Mm.R.st, oAdd, oSub, mul_i, oDiv, oMod, oPow, oCmpI, oLt, oLe, oGt, oGe, oIs, oIsN, oEq, oNe, eqF, b64_of, oIx, seqOf, lstOf, cellItems, sStore, eSl, eO, oLen, oInt, oListOf, oTupOf, oMax, oMin, oSum, oGcd, intsOf, oIsi, tyName, oNeg, eM1, eM0, isLst, oApp, oExt, oPopAt, oPop, fin_i, fin_b, fin_n, fin_s, fin_t2, at0, at1, at2, at3, at4, cut1, ix0, ix1, ix2, p1]) ?_
    refine seq_nx (e1 := [some (.ref 0), some (.ref 3), some (.int (m : Nat)), none, none, none, none, none, none]) (st1 := st2) (by simp [fnS, eV, eC, Mm.e1, Mm.e2, eN, aN, aC, eCall, eTup, eLst, eIf, eCh, eAndT, eOrT, eNotT, bB, bAnd, bOr, bNot, bTru, tru, sSeq, sSet, sEx, sRet, sRetN, sNx, sNo, sBrk, sCt, sIf, sPar, sPar3, sAsg, tgN, tgNil, tgCons, tgTup, Mm.R.bind, Mm.R.of, Mm.R.st, oAdd, oSub, mul_i, oDiv, oMod, oPow, oCmpI, oLt, oLe, oGt, oGe, oIs, oIsN, oEq, oNe, eqF, b64_of, oIx, seqOf, lstOf, cellItems, sStore, eSl, eO, oLen, oInt, oListOf, oTupOf, oMax, oMin, oSum, oGcd, intsOf, oIsi, tyName, oNeg, eM1, eM0, isLst, oApp, oExt, oPopAt, oPop, fin_i, fin_b, fin_n, fin_s, fin_t2, at0, at1, at2, at3, at4, cut1, ix0, ix1, ix2, p2, hm]) ?_
    refine seq_nx (e1 := [some (.ref 0), some (.ref 3), some (.int (m : Nat)), some (.int k), none, none, none, none, none]) (st1 := s3) (set_ok p3) ?_
    refine seq_nx (e1 := [some (.ref 0), some (.ref 3), some (.int (m : Nat)), some (.int k), some (.int top), none, none, none, none]) (st1 := s5) ?_ ?_
    · have hg5' : s5[4]? = some (Cell.lst [.int 2, .int 5, .int 1001]) := hg5
      simp [fnS, eV, eC, Mm.e1, Mm.e2, eN, aN, aC, eCall, eTup, eLst, eIf, eCh, eAndT, eOrT, eNotT, bB, bAnd, bOr, bNot, bTru, tru, sSeq, sSet, sEx, sRet, sRetN, sNx, sNo, sBrk, sCt, sIf, sPar, sPar3, sAsg, tgN, tgNil, tgCons, tgTup, Mm.R.bind, Mm.R.of, Mm.R.st, oAdd, oSub, mul_i, oDiv, oMod, oPow, oCmpI, oLt, oLe, oGt, oGe, oIs, oIsN, oEq, oNe, eqF, b64_of, oIx, seqOf, lstOf, cellItems, sStore, eSl, eO, oLen, oInt, oListOf, oTupOf, oMax, oMin, oSum, oGcd, intsOf, oIsi, tyName, oNeg, eM1, eM0, isLst, oApp, oExt, oPopAt, oPop, fin_i, fin_b, fin_n, fin_s, fin_t2, at0, at1, at2, at3, at4, cut1, ix0, ix1, ix2, hl3, p5, hg5', t1]
    refine seq_nx (e1 := [some (.ref 0), some (.ref 3), some (.int (m : Nat)), some (.int k), some (.int top), some (.tup (ws.map .int)), none, none, none]) (st1 := s6) (set_ok p6) ?_
    refine seq_if ?_ h9
    generalize ws.map D.int = L at *
    refine or_ff (by simp [fnS, eV, eC, Mm.e1, Mm.e2, eN, aN, aC, eCall, eTup, eLst, eIf, eCh, eAndT, eOrT, eNotT, bB, bAnd, bOr, bNot, bTru, tru, sSeq, sSet, sEx, sRet, sRetN, sNx, sNo, sBrk, sCt, sIf, sPar, sPar3, sAsg, tgN, tgNil, tgCons, tgTup, Mm.R.bind, Mm.R.of, Mm.R.st, oAdd, oSub, mul_i, oDiv, oMod, oPow, oCmpI, oLt, oLe, oGt, oGe, oIs, oIsN, oEq, oNe, eqF, b64_of, oIx, seqOf, lstOf, cellItems, sStore, eSl, eO, oLen, oInt, oListOf, oTupOf, oMax, oMin, oSum, oGcd, intsOf, oIsi, tyName, oNeg, eM1, eM0, isLst, oApp, oExt, oPopAt, oPop, fin_i, fin_b, fin_n, fin_s, fin_t2, at0, at1, at2, at3, at4, cut1, ix0, ix1, ix2, g1]) (by simp [fnS, eV, eC, Mm.e1, Mm.e2, eN, aN, aC, eCall, eTup, eLst, eIf, eCh, eAndT, eOrT, eNotT, bB, bAnd, bOr, bNot, bTru, tru, sSeq, sSet, sEx, sRet, sRetN, sNx, sNo, sBrk, sCt, sIf, sPar, sPar3, sAsg, tgN, tgNil, tgCons, tgTup, Mm.R.bind, Mm.R.of, Mm.R.st, oAdd, oSub, mul_i, oDiv, oMod, oPow, oCmpI, oLt, oLe, oGt, oGe, oIs, oIsN, oEq, oNe, eqF, b64_of, oIx, seqOf, lstOf, cellItems, sStore, eSl, eO, oLen, oInt, oListOf, oTupOf, oMax, oMin, oSum, oGcd, intsOf, oIsi, tyName, oNeg, eM1, eM0, isLst, oApp, oExt, oPopAt, oPop, fin_i, fin_b, fin_n, fin_s, fin_t2, at0, at1, at2, at3, at4, cut1, ix0, ix1, ix2, g2])
  have hW : ∃ L, L = ws.map D.int := ⟨_, rfl⟩
  obtain ⟨L, hL⟩ := hW
  rw [← hL]
  by_cases h7 : r7 = 7
  · obtain ⟨r8, s8, p8, a8, b8, q8⟩ := draw_ok (many := 2) q7 l6 (by decide) (by decide)
    obtain ⟨n, hn⟩ : ∃ n : Nat, (n : Int) = 4 + r8 := ⟨(4 + r8).toNat, by omega⟩
    have hbn : bigR (n : Int) = true := decide_eq_true (by omega)
    obtain ⟨vs, s9, p9, v1, v2, q9, l9⟩ := dw_tup top t2 t3 n (by omega) (iR1 (aC (e2 oAdd (eC (.int 4)) (eCall s__law_draw (aC (eV 1) (aC (eC (.int 2)) aN)))) aN)) E2_law [some (.ref 0), some (.ref 3), some (.int (m : Nat)), some (.int k), some (.int top), some (.tup L), none, none, none] s7 s8 _
      (by simp only [iR1, aC, aN, eV, eC, eCall, Mm.e2, Mm.R.bind, List.getElem?_cons_succ, List.getElem?_cons_zero, p8, oAdd, Mm.R.of, ← hn, hbn, if_true, Int.toNat_natCast]) q8 l6 (by simp) (fun a s => by rw [E2_law_ap]; simp [fnS, eV, eC, Mm.e1, Mm.e2, eN, aN, aC, eCall, eTup, eLst, eIf, eCh, eAndT, eOrT, eNotT, bB, bAnd, bOr, bNot, bTru, tru, sSeq, sSet, sEx, sRet, sRetN, sNx, sNo, sBrk, sCt, sIf, sPar, sPar3, sAsg, tgN, tgNil, tgCons, tgTup, Mm.R.bind, Mm.R.of, Mm.R.st, oAdd, oSub, mul_i, oDiv, oMod, oPow, oCmpI, oLt, oLe, oGt, oGe, oIs, oIsN, oEq, oNe, eqF, b64_of, oIx, seqOf, lstOf, cellItems, sStore, eSl, eO, oLen, oInt, oListOf, oTupOf, oMax, oMin, oSum, oGcd, intsOf, oIsi, tyName, oNeg, eM1, eM0, isLst, oApp, oExt, oPopAt, oPop, fin_i, fin_b, fin_n, fin_s, fin_t2, at0, at1, at2, at3, at4, cut1, ix0, ix1, ix2, wipeE])
    obtain ⟨r10, s10, p10, a10, b10, q10⟩ := draw_ok (many := 10) q9 l9 (by decide) (by decide)
    have g3 := right_i (15 + r10) (by omega) (by omega) vs (by omega) (by omega) (fun x hx => by have := v2 x hx; omega)
    refine ⟨s10, seq_ret ?_⟩
    unfold sIf
    have c : bB (e2 oEq (eCall s__law_draw (aC (eV 1) (aC (eC (.int 16)) aN))) (eC (.int 7))) [some (.ref 0), some (.ref 3), some (.int (m : Nat)), some (.int k), some (.int top), some (.tup L), none, none, none] s6 = .ok true s7 := by simp [fnS, eV, eC, Mm.e1, Mm.e2, eN, aN, aC, eCall, eTup, eLst, eIf, eCh, eAndT, eOrT, eNotT, bB, bAnd, bOr, bNot, bTru, tru, sSeq, sSet, sEx, sRet, sRetN, sNx, sNo, sBrk, sCt, sIf, sPar, sPar3, sAsg, tgN, tgNil, tgCons, tgTup, Mm.R.bind, Mm.R.of, Mm.R.st, oAdd, oSub, mul_i, oDiv, oMod, oPow, oCmpI, oLt, oLe, oGt, oGe, oIs, oIsN, oEq, oNe, eqF, b64_of, oIx, seqOf, lstOf, cellItems, sStore, eSl, eO, oLen, oInt, oListOf, oTupOf, oMax, oMin, oSum, oGcd, intsOf, oIsi, tyName, oNeg, eM1, eM0, isLst, oApp, oExt, oPopAt, oPop, fin_i, fin_b, fin_n, fin_s, fin_t2, at0, at1, at2, at3, at4, cut1, ix0, ix1, ix2, p7, h7]
    rw [c]
    refine seq_nx (e1 := [some (.ref 0), some (.ref 3), some (.int (m : Nat)), some (.int k), some (.int top), some (.tup L), some (.tup (vs.map .int)), none, none]) (st1 := s9) (set_ok p9) ?_
    generalize vs.map D.int = V at *
    simp [fnS, eV, eC, Mm.e1, Mm.e2, eN, aN, aC, eCall, eTup, eLst, eIf, eCh, eAndT, eOrT, eNotT, bB, bAnd, bOr, bNot, bTru, tru, sSeq, sSet, sEx, sRet, sRetN, sNx, sNo, sBrk, sCt, sIf, sPar, sPar3, sAsg, tgN, tgNil, tgCons, tgTup, Mm.R.bind, Mm.R.of, Mm.R.st, oAdd, oSub, mul_i, oDiv, oMod, oPow, oCmpI, oLt, oLe, oGt, oGe, oIs, oIsN, oEq, oNe, eqF, b64_of, oIx, seqOf, lstOf, cellItems, sStore, eSl, eO, oLen, oInt, oListOf, oTupOf, oMax, oMin, oSum, oGcd, intsOf, oIsi, tyName, oNeg, eM1, eM0, isLst, oApp, oExt, oPopAt, oPop, fin_i, fin_b, fin_n, fin_s, fin_t2, at0, at1, at2, at3, at4, cut1, ix0, ix1, ix2, p10, g3]
  · obtain ⟨vs, s9, p9, v1, v2, q9, l9⟩ := dw_tup 3 (by decide) (by decide) 5 (by decide) (iR1 (aC (eC (.int 5)) aN)) E3_law [some (.ref 0), some (.ref 3), some (.int (m : Nat)), some (.int k), some (.int top), some (.tup L), none, none, none] s7 s7 _
      (by simp only [iR1, aC, aN, eC, Mm.R.bind, show bigR 5 = true from rfl, if_true]; rfl) q7 l6 (by simp) (fun a s => by rw [E3_law_ap]; simp [fnS, eV, eC, Mm.e1, Mm.e2, eN, aN, aC, eCall, eTup, eLst, eIf, eCh, eAndT, eOrT, eNotT, bB, bAnd, bOr, bNot, bTru, tru, sSeq, sSet, sEx, sRet, sRetN, sNx, sNo, sBrk, sCt, sIf, sPar, sPar3, sAsg, tgN, tgNil, tgCons, tgTup, Mm.R.bind, Mm.R.of, Mm.R.st, oAdd, oSub, mul_i, oDiv, oMod, oPow, oCmpI, oLt, oLe, oGt, oGe, oIs, oIsN, oEq, oNe, eqF, b64_of, oIx, seqOf, lstOf, cellItems, sStore, eSl, eO, oLen, oInt, oListOf, oTupOf, oMax, oMin, oSum, oGcd, intsOf, oIsi, tyName, oNeg, eM1, eM0, isLst, oApp, oExt, oPopAt, oPop, fin_i, fin_b, fin_n, fin_s, fin_t2, at0, at1, at2, at3, at4, cut1, ix0, ix1, ix2, wipeE])
    obtain ⟨r10, s10, p10, a10, b10, q10⟩ := draw_ok (many := 12) q9 l9 (by decide) (by decide)
    obtain ⟨B, hB⟩ : ∃ B : Int, B = if r10 = 0 then 14 else 10 := ⟨_, rfl⟩
    have hB2 : 1 ≤ B ∧ B ≤ 14 := by rw [hB]; split <;> omega
    obtain ⟨r11, s11, p11, a11, b11, q11⟩ := draw_ok (many := B) q10 l9 hB2.1 (by omega)
    have g3 := right_i (1 + r11) (by omega) (by omega) vs (by omega) (by omega) (fun x hx => by have := v2 x hx; omega)
    refine ⟨s11, ?_⟩
    have c : bB (e2 oEq (eCall s__law_draw (aC (eV 1) (aC (eC (.int 16)) aN))) (eC (.int 7))) [some (.ref 0), some (.ref 3), some (.int (m : Nat)), some (.int k), some (.int top), some (.tup L), none, none, none] s6 = .ok false s7 := by simp [fnS, eV, eC, Mm.e1, Mm.e2, eN, aN, aC, eCall, eTup, eLst, eIf, eCh, eAndT, eOrT, eNotT, bB, bAnd, bOr, bNot, bTru, tru, sSeq, sSet, sEx, sRet, sRetN, sNx, sNo, sBrk, sCt, sIf, sPar, sPar3, sAsg, tgN, tgNil, tgCons, tgTup, Mm.R.bind, Mm.R.of, Mm.R.st, oAdd, oSub, mul_i, oDiv, oMod, oPow, oCmpI, oLt, oLe, oGt, oGe, oIs, oIsN, oEq, oNe, eqF, b64_of, oIx, seqOf, lstOf, cellItems, sStore, eSl, eO, oLen, oInt, oListOf, oTupOf, oMax, oMin, oSum, oGcd, intsOf, oIsi, tyName, oNeg, eM1, eM0, isLst, oApp, oExt, oPopAt, oPop, fin_i, fin_b, fin_n, fin_s, fin_t2, at0, at1, at2, at3, at4, cut1, ix0, ix1, ix2, p7, h7]
    refine seq_nx (e1 := [some (.ref 0), some (.ref 3), some (.int (m : Nat)), some (.int k), some (.int top), some (.tup L), none, none, none]) (st1 := s7) (if_no c) ?_
    refine seq_nx (e1 := [some (.ref 0), some (.ref 3), some (.int (m : Nat)), some (.int k), some (.int top), some (.tup L), none, some (.tup (vs.map .int)), none]) (st1 := s9) (set_ok p9) ?_
    generalize vs.map D.int = V at *
    by_cases h10 : r10 = 0
    · rw [if_pos h10] at hB
      subst hB
      simp [fnS, eV, eC, Mm.e1, Mm.e2, eN, aN, aC, eCall, eTup, eLst, eIf, eCh, eAndT, eOrT, eNotT, bB, bAnd, bOr, bNot, bTru, tru, sSeq, sSet, sEx, sRet, sRetN, sNx, sNo, sBrk, sCt, sIf, sPar, sPar3, sAsg, tgN, tgNil, tgCons, tgTup, Mm.R.bind, Mm.R.of, Mm.R.st, oAdd, oSub, mul_i, oDiv, oMod, oPow, oCmpI, oLt, oLe, oGt, oGe, oIs, oIsN, oEq, oNe, eqF, b64_of, oIx, seqOf, lstOf, cellItems, sStore, eSl, eO, oLen, oInt, oListOf, oTupOf, oMax, oMin, oSum, oGcd, intsOf, oIsi, tyName, oNeg, eM1, eM0, isLst, oApp, oExt, oPopAt, oPop, fin_i, fin_b, fin_n, fin_s, fin_t2, at0, at1, at2, at3, at4, cut1, ix0, ix1, ix2, p10, h10, p11, g3]
    · rw [if_neg h10] at hB
      subst hB
      simp [fnS, eV, eC, Mm.e1, Mm.e2, eN, aN, aC, eCall, eTup, eLst, eIf, eCh, eAndT, eOrT, eNotT, bB, bAnd, bOr, bNot, bTru, tru, sSeq, sSet, sEx, sRet, sRetN, sNx, sNo, sBrk, sCt, sIf, sPar, sPar3, sAsg, tgN, tgNil, tgCons, tgTup, Mm.R.bind, Mm.R.of, Mm.R.st, oAdd, oSub, mul_i, oDiv, oMod, oPow, oCmpI, oLt, oLe, oGt, oGe, oIs, oIsN, oEq, oNe, eqF, b64_of, oIx, seqOf, lstOf, cellItems, sStore, eSl, eO, oLen, oInt, oListOf, oTupOf, oMax, oMin, oSum, oGcd, intsOf, oIsi, tyName, oNeg, eM1, eM0, isLst, oApp, oExt, oPopAt, oPop, fin_i, fin_b, fin_n, fin_s, fin_t2, at0, at1, at2, at3, at4, cut1, ix0, ix1, ix2, p10, h10, p11, g3]
end Gk12

namespace Gk12
open PySem L2 Mm PySem.Spec PyProof.Rows
theorem all_mk {l : PySem.W.OpenLaw} {w : World} {K : PySem.W.Frag} {h : Heap} {mg : Str → Option Value} {fa : Addr} (X : K.In h) (G : h.Ns mainGlobals mg) (hfa : mg "law" = some (.ref fa))
    {f_0 : Addr} {od_0 an_0 : Option Addr} {sl_0 : Array (Option Value)} {oc_0 kV_0 dc_0 pm_0 cd_0 ct_0 : Value} (a_0 : PySem.W.nsIn K mainGlobals "lowest" = some (some (.ref f_0))) (l_0 : K.lookup f_0 = some ⟨oc_0, od_0, .func (PySem.W.fnOf "lowest" "lowest" (defArgs (topS 20)) (defBody (topS 20)) (defScope (topS 20)) .none kV_0 dc_0 pm_0 an_0 cd_0 ct_0), sl_0⟩) (c_0 : PySem.W.codeIn K cd_0 "lowest" = true) (k_0 : PySem.W.keepIn K (.ref f_0) = true)
    {f_1 : Addr} {od_1 an_1 : Option Addr} {sl_1 : Array (Option Value)} {oc_1 kV_1 dc_1 pm_1 cd_1 ct_1 : Value} (a_1 : PySem.W.nsIn K mainGlobals "is_number" = some (some (.ref f_1))) (l_1 : K.lookup f_1 = some ⟨oc_1, od_1, .func (PySem.W.fnOf "is_number" "is_number" (defArgs (topS 17)) (defBody (topS 17)) (defScope (topS 17)) .none kV_1 dc_1 pm_1 an_1 cd_1 ct_1), sl_1⟩) (c_1 : PySem.W.codeIn K cd_1 "is_number" = true) (k_1 : PySem.W.keepIn K (.ref f_1) = true)
    {f_2 : Addr} {od_2 an_2 : Option Addr} {sl_2 : Array (Option Value)} {oc_2 kV_2 dc_2 pm_2 cd_2 ct_2 : Value} (a_2 : PySem.W.nsIn K mainGlobals "is_within" = some (some (.ref f_2))) (l_2 : K.lookup f_2 = some ⟨oc_2, od_2, .func (PySem.W.fnOf "is_within" "is_within" (defArgs (topS 18)) (defBody (topS 18)) (defScope (topS 18)) .none kV_2 dc_2 pm_2 an_2 cd_2 ct_2), sl_2⟩) (c_2 : PySem.W.codeIn K cd_2 "is_within" = true) (k_2 : PySem.W.keepIn K (.ref f_2) = true)
    {f_3 : Addr} {od_3 an_3 : Option Addr} {sl_3 : Array (Option Value)} {oc_3 kV_3 dc_3 pm_3 cd_3 ct_3 : Value} (a_3 : PySem.W.nsIn K mainGlobals "made_k" = some (some (.ref f_3))) (l_3 : K.lookup f_3 = some ⟨oc_3, od_3, .func (PySem.W.fnOf "made_k" "made_k" (defArgs (topS 23)) (defBody (topS 23)) (defScope (topS 23)) .none kV_3 dc_3 pm_3 an_3 cd_3 ct_3), sl_3⟩) (c_3 : PySem.W.codeIn K cd_3 "made_k" = true) (k_3 : PySem.W.keepIn K (.ref f_3) = true)
    {f_4 : Addr} {od_4 an_4 : Option Addr} {sl_4 : Array (Option Value)} {oc_4 kV_4 dc_4 pm_4 cd_4 ct_4 : Value} (a_4 : PySem.W.nsIn K mainGlobals "wrong_at" = some (some (.ref f_4))) (l_4 : K.lookup f_4 = some ⟨oc_4, od_4, .func (PySem.W.fnOf "wrong_at" "wrong_at" (defArgs (topS 19)) (defBody (topS 19)) (defScope (topS 19)) .none kV_4 dc_4 pm_4 an_4 cd_4 ct_4), sl_4⟩) (c_4 : PySem.W.codeIn K cd_4 "wrong_at" = true) (k_4 : PySem.W.keepIn K (.ref f_4) = true)
    {f_5 : Addr} {od_5 an_5 : Option Addr} {sl_5 : Array (Option Value)} {oc_5 kV_5 dc_5 pm_5 cd_5 ct_5 : Value} (a_5 : PySem.W.nsIn K mainGlobals "check_weights" = some (some (.ref f_5))) (l_5 : K.lookup f_5 = some ⟨oc_5, od_5, .func (PySem.W.fnOf "check_weights" "check_weights" (defArgs (topS 30)) (defBody (topS 30)) (defScope (topS 30)) .none kV_5 dc_5 pm_5 an_5 cd_5 ct_5), sl_5⟩) (c_5 : PySem.W.codeIn K cd_5 "check_weights" = true) (k_5 : PySem.W.keepIn K (.ref f_5) = true)
    {f_6 : Addr} {od_6 an_6 : Option Addr} {sl_6 : Array (Option Value)} {oc_6 kV_6 dc_6 pm_6 cd_6 ct_6 : Value} (a_6 : PySem.W.nsIn K mainGlobals "left_over" = some (some (.ref f_6))) (l_6 : K.lookup f_6 = some ⟨oc_6, od_6, .func (PySem.W.fnOf "left_over" "left_over" (defArgs (topS 25)) (defBody (topS 25)) (defScope (topS 25)) .none kV_6 dc_6 pm_6 an_6 cd_6 ct_6), sl_6⟩) (c_6 : PySem.W.codeIn K cd_6 "left_over" = true) (k_6 : PySem.W.keepIn K (.ref f_6) = true)
    {f_7 : Addr} {od_7 an_7 : Option Addr} {sl_7 : Array (Option Value)} {oc_7 kV_7 dc_7 pm_7 cd_7 ct_7 : Value} (a_7 : PySem.W.nsIn K mainGlobals "all_that_fit" = some (some (.ref f_7))) (l_7 : K.lookup f_7 = some ⟨oc_7, od_7, .func (PySem.W.fnOf "all_that_fit" "all_that_fit" (defArgs (topS 31)) (defBody (topS 31)) (defScope (topS 31)) .none kV_7 dc_7 pm_7 an_7 cd_7 ct_7), sl_7⟩) (c_7 : PySem.W.codeIn K cd_7 "all_that_fit" = true) (k_7 : PySem.W.keepIn K (.ref f_7) = true)
    {f_8 : Addr} {od_8 an_8 : Option Addr} {sl_8 : Array (Option Value)} {oc_8 kV_8 dc_8 pm_8 cd_8 ct_8 : Value} (a_8 : PySem.W.nsIn K mainGlobals "common_multiple" = some (some (.ref f_8))) (l_8 : K.lookup f_8 = some ⟨oc_8, od_8, .func (PySem.W.fnOf "common_multiple" "common_multiple" (defArgs (topS 32)) (defBody (topS 32)) (defScope (topS 32)) .none kV_8 dc_8 pm_8 an_8 cd_8 ct_8), sl_8⟩) (c_8 : PySem.W.codeIn K cd_8 "common_multiple" = true) (k_8 : PySem.W.keepIn K (.ref f_8) = true)
    {f_9 : Addr} {od_9 an_9 : Option Addr} {sl_9 : Array (Option Value)} {oc_9 kV_9 dc_9 pm_9 cd_9 ct_9 : Value} (a_9 : PySem.W.nsIn K mainGlobals "cheapest" = some (some (.ref f_9))) (l_9 : K.lookup f_9 = some ⟨oc_9, od_9, .func (PySem.W.fnOf "cheapest" "cheapest" (defArgs (topS 33)) (defBody (topS 33)) (defScope (topS 33)) .none kV_9 dc_9 pm_9 an_9 cd_9 ct_9), sl_9⟩) (c_9 : PySem.W.codeIn K cd_9 "cheapest" = true) (k_9 : PySem.W.keepIn K (.ref f_9) = true)
    {f_10 : Addr} {od_10 an_10 : Option Addr} {sl_10 : Array (Option Value)} {oc_10 kV_10 dc_10 pm_10 cd_10 ct_10 : Value} (a_10 : PySem.W.nsIn K mainGlobals "_law_pool" = some (some (.ref f_10))) (l_10 : K.lookup f_10 = some ⟨oc_10, od_10, .func (PySem.W.fnOf "_law_pool" "_law_pool" (defArgs (topS 35)) (defBody (topS 35)) (defScope (topS 35)) .none kV_10 dc_10 pm_10 an_10 cd_10 ct_10), sl_10⟩) (c_10 : PySem.W.codeIn K cd_10 "_law_pool" = true) (k_10 : PySem.W.keepIn K (.ref f_10) = true)
    {f_11 : Addr} {od_11 an_11 : Option Addr} {sl_11 : Array (Option Value)} {oc_11 kV_11 dc_11 pm_11 cd_11 ct_11 : Value} (a_11 : PySem.W.nsIn K mainGlobals "_law_draw" = some (some (.ref f_11))) (l_11 : K.lookup f_11 = some ⟨oc_11, od_11, .func (PySem.W.fnOf "_law_draw" "_law_draw" (defArgs (topS 36)) (defBody (topS 36)) (defScope (topS 36)) .none kV_11 dc_11 pm_11 an_11 cd_11 ct_11), sl_11⟩) (c_11 : PySem.W.codeIn K cd_11 "_law_draw" = true) (k_11 : PySem.W.keepIn K (.ref f_11) = true)
    {f_12 : Addr} {od_12 an_12 : Option Addr} {sl_12 : Array (Option Value)} {oc_12 kV_12 dc_12 pm_12 cd_12 ct_12 : Value} (a_12 : PySem.W.nsIn K mainGlobals "_law_row_gcd" = some (some (.ref f_12))) (l_12 : K.lookup f_12 = some ⟨oc_12, od_12, .func (PySem.W.fnOf "_law_row_gcd" "_law_row_gcd" (defArgs (topS 37)) (defBody (topS 37)) (defScope (topS 37)) .none kV_12 dc_12 pm_12 an_12 cd_12 ct_12), sl_12⟩) (c_12 : PySem.W.codeIn K cd_12 "_law_row_gcd" = true) (k_12 : PySem.W.keepIn K (.ref f_12) = true)
    {f_13 : Addr} {od_13 an_13 : Option Addr} {sl_13 : Array (Option Value)} {oc_13 kV_13 dc_13 pm_13 cd_13 ct_13 : Value} (a_13 : PySem.W.nsIn K mainGlobals "_law_row_low" = some (some (.ref f_13))) (l_13 : K.lookup f_13 = some ⟨oc_13, od_13, .func (PySem.W.fnOf "_law_row_low" "_law_row_low" (defArgs (topS 38)) (defBody (topS 38)) (defScope (topS 38)) .none kV_13 dc_13 pm_13 an_13 cd_13 ct_13), sl_13⟩) (c_13 : PySem.W.codeIn K cd_13 "_law_row_low" = true) (k_13 : PySem.W.keepIn K (.ref f_13) = true)
    {f_14 : Addr} {od_14 an_14 : Option Addr} {sl_14 : Array (Option Value)} {oc_14 kV_14 dc_14 pm_14 cd_14 ct_14 : Value} (a_14 : PySem.W.nsIn K mainGlobals "_law_kind_spare" = some (some (.ref f_14))) (l_14 : K.lookup f_14 = some ⟨oc_14, od_14, .func (PySem.W.fnOf "_law_kind_spare" "_law_kind_spare" (defArgs (topS 39)) (defBody (topS 39)) (defScope (topS 39)) .none kV_14 dc_14 pm_14 an_14 cd_14 ct_14), sl_14⟩) (c_14 : PySem.W.codeIn K cd_14 "_law_kind_spare" = true) (k_14 : PySem.W.keepIn K (.ref f_14) = true)
    {f_15 : Addr} {od_15 an_15 : Option Addr} {sl_15 : Array (Option Value)} {oc_15 kV_15 dc_15 pm_15 cd_15 ct_15 : Value} (a_15 : PySem.W.nsIn K mainGlobals "_law_kind_lots" = some (some (.ref f_15))) (l_15 : K.lookup f_15 = some ⟨oc_15, od_15, .func (PySem.W.fnOf "_law_kind_lots" "_law_kind_lots" (defArgs (topS 40)) (defBody (topS 40)) (defScope (topS 40)) .none kV_15 dc_15 pm_15 an_15 cd_15 ct_15), sl_15⟩) (c_15 : PySem.W.codeIn K cd_15 "_law_kind_lots" = true) (k_15 : PySem.W.keepIn K (.ref f_15) = true)
    {f_16 : Addr} {od_16 an_16 : Option Addr} {sl_16 : Array (Option Value)} {oc_16 kV_16 dc_16 pm_16 cd_16 ct_16 : Value} (a_16 : PySem.W.nsIn K mainGlobals "_law_share_cost" = some (some (.ref f_16))) (l_16 : K.lookup f_16 = some ⟨oc_16, od_16, .func (PySem.W.fnOf "_law_share_cost" "_law_share_cost" (defArgs (topS 43)) (defBody (topS 43)) (defScope (topS 43)) .none kV_16 dc_16 pm_16 an_16 cd_16 ct_16), sl_16⟩) (c_16 : PySem.W.codeIn K cd_16 "_law_share_cost" = true) (k_16 : PySem.W.keepIn K (.ref f_16) = true)
    {f_17 : Addr} {od_17 an_17 : Option Addr} {sl_17 : Array (Option Value)} {oc_17 kV_17 dc_17 pm_17 cd_17 ct_17 : Value} (a_17 : PySem.W.nsIn K mainGlobals "_law_share_due" = some (some (.ref f_17))) (l_17 : K.lookup f_17 = some ⟨oc_17, od_17, .func (PySem.W.fnOf "_law_share_due" "_law_share_due" (defArgs (topS 44)) (defBody (topS 44)) (defScope (topS 44)) .none kV_17 dc_17 pm_17 an_17 cd_17 ct_17), sl_17⟩) (c_17 : PySem.W.codeIn K cd_17 "_law_share_due" = true) (k_17 : PySem.W.keepIn K (.ref f_17) = true)
    {f_18 : Addr} {od_18 an_18 : Option Addr} {sl_18 : Array (Option Value)} {oc_18 kV_18 dc_18 pm_18 cd_18 ct_18 : Value} (a_18 : PySem.W.nsIn K mainGlobals "_law_share_right" = some (some (.ref f_18))) (l_18 : K.lookup f_18 = some ⟨oc_18, od_18, .func (PySem.W.fnOf "_law_share_right" "_law_share_right" (defArgs (topS 45)) (defBody (topS 45)) (defScope (topS 45)) .none kV_18 dc_18 pm_18 an_18 cd_18 ct_18), sl_18⟩) (c_18 : PySem.W.codeIn K cd_18 "_law_share_right" = true) (k_18 : PySem.W.keepIn K (.ref f_18) = true)
    {f_19 : Addr} {od_19 an_19 : Option Addr} {sl_19 : Array (Option Value)} {oc_19 kV_19 dc_19 pm_19 cd_19 ct_19 : Value} (a_19 : PySem.W.nsIn K mainGlobals "_law_kind_no_k" = some (some (.ref f_19))) (l_19 : K.lookup f_19 = some ⟨oc_19, od_19, .func (PySem.W.fnOf "_law_kind_no_k" "_law_kind_no_k" (defArgs (topS 42)) (defBody (topS 42)) (defScope (topS 42)) .none kV_19 dc_19 pm_19 an_19 cd_19 ct_19), sl_19⟩) (c_19 : PySem.W.codeIn K cd_19 "_law_kind_no_k" = true) (k_19 : PySem.W.keepIn K (.ref f_19) = true)
    {f_20 : Addr} {od_20 an_20 : Option Addr} {sl_20 : Array (Option Value)} {oc_20 kV_20 dc_20 pm_20 cd_20 ct_20 : Value} (a_20 : PySem.W.nsIn K mainGlobals "_law_share_refused" = some (some (.ref f_20))) (l_20 : K.lookup f_20 = some ⟨oc_20, od_20, .func (PySem.W.fnOf "_law_share_refused" "_law_share_refused" (defArgs (topS 46)) (defBody (topS 46)) (defScope (topS 46)) .none kV_20 dc_20 pm_20 an_20 cd_20 ct_20), sl_20⟩) (c_20 : PySem.W.codeIn K cd_20 "_law_share_refused" = true) (k_20 : PySem.W.keepIn K (.ref f_20) = true)
    {f_21 : Addr} {od_21 an_21 : Option Addr} {sl_21 : Array (Option Value)} {oc_21 kV_21 dc_21 pm_21 cd_21 ct_21 : Value} (a_21 : PySem.W.nsIn K mainGlobals "law" = some (some (.ref f_21))) (l_21 : K.lookup f_21 = some ⟨oc_21, od_21, .func (PySem.W.fnOf "law" "law" (defArgs (topS 47)) (defBody (topS 47)) (defScope (topS 47)) .none kV_21 dc_21 pm_21 an_21 cd_21 ct_21), sl_21⟩) (c_21 : PySem.W.codeIn K cd_21 "law" = true) (k_21 : PySem.W.keepIn K (.ref f_21) = true)
    {f_22 : Addr} {od_22 an_22 : Option Addr} {sl_22 : Array (Option Value)} {oc_22 kV_22 dc_22 pm_22 cd_22 ct_22 : Value} (a_22 : PySem.W.nsIn K mainGlobals "_law_kind_heard" = some (some (.ref f_22))) (l_22 : K.lookup f_22 = some ⟨oc_22, od_22, .func (PySem.W.fnOf "_law_kind_heard" "_law_kind_heard" (defArgs (topS 41)) (defBody (topS 41)) (defScope (topS 41)) .none kV_22 dc_22 pm_22 an_22 cd_22 ct_22), sl_22⟩) (c_22 : PySem.W.codeIn K cd_22 "_law_kind_heard" = true) (k_22 : PySem.W.keepIn K (.ref f_22) = true)
    (z_ValueError : PySem.W.nsIn K mainGlobals "ValueError" = some none)
    (z_bool : PySem.W.nsIn K mainGlobals "bool" = some none)
    (z_enumerate : PySem.W.nsIn K mainGlobals "enumerate" = some none)
    (z_int : PySem.W.nsIn K mainGlobals "int" = some none)
    (z_isinstance : PySem.W.nsIn K mainGlobals "isinstance" = some none)
    (z_len : PySem.W.nsIn K mainGlobals "len" = some none)
    (z_list : PySem.W.nsIn K mainGlobals "list" = some none)
    (z_max : PySem.W.nsIn K mainGlobals "max" = some none)
    (z_range : PySem.W.nsIn K mainGlobals "range" = some none)
    (z_repr : PySem.W.nsIn K mainGlobals "repr" = some none)
    (z_sum : PySem.W.nsIn K mainGlobals "sum" = some none)
    (z_tuple : PySem.W.nsIn K mainGlobals "tuple" = some none)
    (z_zip : PySem.W.nsIn K mainGlobals "zip" = some none)
    {k_GREATEST_K : Tok} (v_GREATEST_K : PySem.W.nsIn K mainGlobals "GREATEST_K" = some (some (.int (60) k_GREATEST_K)))
    {k_GREATEST_K_OF_SHARES : Tok} (v_GREATEST_K_OF_SHARES : PySem.W.nsIn K mainGlobals "GREATEST_K_OF_SHARES" = some (some (.int (24) k_GREATEST_K_OF_SHARES)))
    {k_GREATEST_WEIGHT : Tok} (v_GREATEST_WEIGHT : PySem.W.nsIn K mainGlobals "GREATEST_WEIGHT" = some (some (.int (1000) k_GREATEST_WEIGHT)))
    {k_MOST_WEIGHTS : Tok} (v_MOST_WEIGHTS : PySem.W.nsIn K mainGlobals "MOST_WEIGHTS" = some (some (.int (5) k_MOST_WEIGHTS)))
    (w_gcd : PySem.W.nsIn K mainGlobals "gcd" = some (some (.builtin "math.gcd")))
    (w_lcm : PySem.W.nsIn K mainGlobals "lcm" = some (some (.builtin "math.lcm")))
    {C_BadK : Addr} (q_BadK : PySem.W.nsIn K mainGlobals "BadK" = some (some (.ref C_BadK)))
    {C_BadMany : Addr} (q_BadMany : PySem.W.nsIn K mainGlobals "BadMany" = some (some (.ref C_BadMany)))
    {C_BadRow : Addr} (q_BadRow : PySem.W.nsIn K mainGlobals "BadRow" = some (some (.ref C_BadRow)))
    {C_BadRows : Addr} (q_BadRows : PySem.W.nsIn K mainGlobals "BadRows" = some (some (.ref C_BadRows)))
    {C_BadTs : Addr} (q_BadTs : PySem.W.nsIn K mainGlobals "BadTs" = some (some (.ref C_BadTs)))
    {C_BadView : Addr} (q_BadView : PySem.W.nsIn K mainGlobals "BadView" = some (some (.ref C_BadView)))
    {C_BadWeights : Addr} (q_BadWeights : PySem.W.nsIn K mainGlobals "BadWeights" = some (some (.ref C_BadWeights)))
    {C_Blank : Addr} (q_Blank : PySem.W.nsIn K mainGlobals "Blank" = some (some (.ref C_Blank)))
    {C_NoDots : Addr} (q_NoDots : PySem.W.nsIn K mainGlobals "NoDots" = some (some (.ref C_NoDots)))
    {C_NoFit : Addr} (q_NoFit : PySem.W.nsIn K mainGlobals "NoFit" = some (some (.ref C_NoFit)))
    {C_NoRoom : Addr} (q_NoRoom : PySem.W.nsIn K mainGlobals "NoRoom" = some (some (.ref C_NoRoom)))
    {C_Shared : Addr} (q_Shared : PySem.W.nsIn K mainGlobals "Shared" = some (some (.ref C_Shared)))
    {C_Thin : Addr} (q_Thin : PySem.W.nsIn K mainGlobals "Thin" = some (some (.ref C_Thin)))
    {fI : Addr}
    (sp_G : PySem.W.specialIn K (.builtin "object.__class__") "__get__" = some (some (.builtin "getset_descriptor.__get__"))) (tk_G : PySem.W.takesIn K (.builtin "object.__class__") = some true) (op_G : PySem.W.nsIn K cStatics "thirdparty.any" = some none)
    {nm_BadK qn_BadK : Str} {NN_BadK : Addr} {bs_BadK bm_BadK : List Value} {sn_BadK : List Str} {sub_BadK : List Value} {ab_BadK : Bool} {col_BadK : Option Bool} {dd_BadK : Option Addr} {m0_BadK m1_BadK m2_BadK m3_BadK m5_BadK : Option Value} (xL_BadK : K.lookup C_BadK = some (excClassObj nm_BadK qn_BadK C_BadK NN_BadK bs_BadK bm_BadK true sn_BadK sub_BadK ab_BadK col_BadK dd_BadK m0_BadK m1_BadK m2_BadK m3_BadK m5_BadK "ValueError.__new__")) (rB_BadK : PySem.HandSPX.refsVE bm_BadK = true) (sa_BadK : PySem.W.findIn K (.ref C_BadK) "__setattr__" = some (some (.builtin "object.__setattr__"))) (ga_BadK : PySem.W.findIn K (.ref C_BadK) "__getattribute__" = some (some (.builtin "BaseException.__getattribute__"))) (gg_BadK : PySem.W.findIn K (.ref C_BadK) "__getattr__" = some none) (nw_BadK : PySem.W.findIn K (.ref C_BadK) "what" = some none) (ii_BadK : PySem.W.findIn K (.ref C_BadK) "__init__" = some (some (.ref fI))) (kC_BadK : PySem.W.keepIn K (.ref C_BadK) = true) (eC_BadK : PySem.W.subIn K (.ref C_BadK) (.type "BaseException") = some true) (tC_BadK : PySem.W.typeIn K (.ref C_BadK) = some (.type "type")) (hD_BadK : PySem.W.hasDictIn K C_BadK = true) (nk_BadK : PySem.W.findIn K (.ref C_BadK) "kind" = some none) (ci_BadK : (PySem.W.clsIn K C_BadK).isSome = true) (cd_BadK : PySem.W.findIn K (.ref C_BadK) "__class__" = some (some (.builtin "object.__class__"))) (mr_BadK : PySem.W.mroIn K C_BadK (.type "object") = some true) (kn_BadK : (keptName K C_BadK).isSome = true) (fc_BadK : PySem.W.findCls K (.ref C_BadK) (.type "type") "__name__" = some (.get (.builtin "getset_descriptor.__get__") (.builtin "type.__name__") (.ref C_BadK) (.type "type")))
    {nm_BadWeights qn_BadWeights : Str} {NN_BadWeights : Addr} {bs_BadWeights bm_BadWeights : List Value} {sn_BadWeights : List Str} {sub_BadWeights : List Value} {ab_BadWeights : Bool} {col_BadWeights : Option Bool} {dd_BadWeights : Option Addr} {m0_BadWeights m1_BadWeights m2_BadWeights m3_BadWeights m5_BadWeights : Option Value} (xL_BadWeights : K.lookup C_BadWeights = some (excClassObj nm_BadWeights qn_BadWeights C_BadWeights NN_BadWeights bs_BadWeights bm_BadWeights true sn_BadWeights sub_BadWeights ab_BadWeights col_BadWeights dd_BadWeights m0_BadWeights m1_BadWeights m2_BadWeights m3_BadWeights m5_BadWeights "ValueError.__new__")) (rB_BadWeights : PySem.HandSPX.refsVE bm_BadWeights = true) (sa_BadWeights : PySem.W.findIn K (.ref C_BadWeights) "__setattr__" = some (some (.builtin "object.__setattr__"))) (ga_BadWeights : PySem.W.findIn K (.ref C_BadWeights) "__getattribute__" = some (some (.builtin "BaseException.__getattribute__"))) (gg_BadWeights : PySem.W.findIn K (.ref C_BadWeights) "__getattr__" = some none) (nw_BadWeights : PySem.W.findIn K (.ref C_BadWeights) "what" = some none) (ii_BadWeights : PySem.W.findIn K (.ref C_BadWeights) "__init__" = some (some (.ref fI))) (kC_BadWeights : PySem.W.keepIn K (.ref C_BadWeights) = true) (eC_BadWeights : PySem.W.subIn K (.ref C_BadWeights) (.type "BaseException") = some true) (tC_BadWeights : PySem.W.typeIn K (.ref C_BadWeights) = some (.type "type")) (hD_BadWeights : PySem.W.hasDictIn K C_BadWeights = true) (nk_BadWeights : PySem.W.findIn K (.ref C_BadWeights) "kind" = some none) (ci_BadWeights : (PySem.W.clsIn K C_BadWeights).isSome = true) (cd_BadWeights : PySem.W.findIn K (.ref C_BadWeights) "__class__" = some (some (.builtin "object.__class__"))) (mr_BadWeights : PySem.W.mroIn K C_BadWeights (.type "object") = some true) (kn_BadWeights : (keptName K C_BadWeights).isSome = true) (fc_BadWeights : PySem.W.findCls K (.ref C_BadWeights) (.type "type") "__name__" = some (.get (.builtin "getset_descriptor.__get__") (.builtin "type.__name__") (.ref C_BadWeights) (.type "type")))
    {nm_NoRoom qn_NoRoom : Str} {NN_NoRoom : Addr} {bs_NoRoom bm_NoRoom : List Value} {sn_NoRoom : List Str} {sub_NoRoom : List Value} {ab_NoRoom : Bool} {col_NoRoom : Option Bool} {dd_NoRoom : Option Addr} {m0_NoRoom m1_NoRoom m2_NoRoom m3_NoRoom m5_NoRoom : Option Value} (xL_NoRoom : K.lookup C_NoRoom = some (excClassObj nm_NoRoom qn_NoRoom C_NoRoom NN_NoRoom bs_NoRoom bm_NoRoom true sn_NoRoom sub_NoRoom ab_NoRoom col_NoRoom dd_NoRoom m0_NoRoom m1_NoRoom m2_NoRoom m3_NoRoom m5_NoRoom "ValueError.__new__")) (rB_NoRoom : PySem.HandSPX.refsVE bm_NoRoom = true) (sa_NoRoom : PySem.W.findIn K (.ref C_NoRoom) "__setattr__" = some (some (.builtin "object.__setattr__"))) (ga_NoRoom : PySem.W.findIn K (.ref C_NoRoom) "__getattribute__" = some (some (.builtin "BaseException.__getattribute__"))) (gg_NoRoom : PySem.W.findIn K (.ref C_NoRoom) "__getattr__" = some none) (nw_NoRoom : PySem.W.findIn K (.ref C_NoRoom) "what" = some none) (ii_NoRoom : PySem.W.findIn K (.ref C_NoRoom) "__init__" = some (some (.ref fI))) (kC_NoRoom : PySem.W.keepIn K (.ref C_NoRoom) = true) (eC_NoRoom : PySem.W.subIn K (.ref C_NoRoom) (.type "BaseException") = some true) (tC_NoRoom : PySem.W.typeIn K (.ref C_NoRoom) = some (.type "type")) (hD_NoRoom : PySem.W.hasDictIn K C_NoRoom = true) (nk_NoRoom : PySem.W.findIn K (.ref C_NoRoom) "kind" = some none) (ci_NoRoom : (PySem.W.clsIn K C_NoRoom).isSome = true) (cd_NoRoom : PySem.W.findIn K (.ref C_NoRoom) "__class__" = some (some (.builtin "object.__class__"))) (mr_NoRoom : PySem.W.mroIn K C_NoRoom (.type "object") = some true) (kn_NoRoom : (keptName K C_NoRoom).isSome = true) (fc_NoRoom : PySem.W.findCls K (.ref C_NoRoom) (.type "type") "__name__" = some (.get (.builtin "getset_descriptor.__get__") (.builtin "type.__name__") (.ref C_NoRoom) (.type "type")))
    {od_i an_i : Option Addr} {sl_i : Array (Option Value)} {oc_i kV_i dc_i pm_i cd_i ct_i : Value} (l_i : K.lookup fI = some ⟨oc_i, od_i, .func (PySem.W.fnOf "__init__" "Refused.__init__" (defArgs (inClass (topS 2) 0)) (defBody (inClass (topS 2) 0)) (defScope (inClass (topS 2) 0)) .none kV_i dc_i pm_i an_i cd_i ct_i), sl_i⟩) (c_i : PySem.W.codeIn K cd_i "Refused.__init__" = true) (k_i : PySem.W.keepIn K (.ref fI) = true) (t_i : PySem.W.typeIn K (.ref fI) = some (.type "function"))
    (v_V : PySem.W.findCls K (.type "ValueError") (.type "type") "__init__" = some (.val (.builtin "ValueError.__init__")))
    (xm_BadK_BadK : PySem.W.exmOne K (.ref C_BadK) (.ref C_BadK) = some true)
    (xm_BadK_BadMany : PySem.W.exmOne K (.ref C_BadK) (.ref C_BadMany) = some false)
    (xm_BadK_BadRow : PySem.W.exmOne K (.ref C_BadK) (.ref C_BadRow) = some false)
    (xm_BadK_BadRows : PySem.W.exmOne K (.ref C_BadK) (.ref C_BadRows) = some false)
    (xm_BadK_BadTs : PySem.W.exmOne K (.ref C_BadK) (.ref C_BadTs) = some false)
    (xm_BadK_BadView : PySem.W.exmOne K (.ref C_BadK) (.ref C_BadView) = some false)
    (xm_BadK_BadWeights : PySem.W.exmOne K (.ref C_BadK) (.ref C_BadWeights) = some false)
    (xm_BadK_Blank : PySem.W.exmOne K (.ref C_BadK) (.ref C_Blank) = some false)
    (xm_BadK_NoDots : PySem.W.exmOne K (.ref C_BadK) (.ref C_NoDots) = some false)
    (xm_BadK_NoFit : PySem.W.exmOne K (.ref C_BadK) (.ref C_NoFit) = some false)
    (xm_BadK_NoRoom : PySem.W.exmOne K (.ref C_BadK) (.ref C_NoRoom) = some false)
    (xm_BadK_Shared : PySem.W.exmOne K (.ref C_BadK) (.ref C_Shared) = some false)
    (xm_BadK_Thin : PySem.W.exmOne K (.ref C_BadK) (.ref C_Thin) = some false)
    (xm_BadWeights_BadK : PySem.W.exmOne K (.ref C_BadWeights) (.ref C_BadK) = some false)
    (xm_BadWeights_BadMany : PySem.W.exmOne K (.ref C_BadWeights) (.ref C_BadMany) = some false)
    (xm_BadWeights_BadRow : PySem.W.exmOne K (.ref C_BadWeights) (.ref C_BadRow) = some false)
    (xm_BadWeights_BadRows : PySem.W.exmOne K (.ref C_BadWeights) (.ref C_BadRows) = some false)
    (xm_BadWeights_BadTs : PySem.W.exmOne K (.ref C_BadWeights) (.ref C_BadTs) = some false)
    (xm_BadWeights_BadView : PySem.W.exmOne K (.ref C_BadWeights) (.ref C_BadView) = some false)
    (xm_BadWeights_BadWeights : PySem.W.exmOne K (.ref C_BadWeights) (.ref C_BadWeights) = some true)
    (xm_BadWeights_Blank : PySem.W.exmOne K (.ref C_BadWeights) (.ref C_Blank) = some false)
    (xm_BadWeights_NoDots : PySem.W.exmOne K (.ref C_BadWeights) (.ref C_NoDots) = some false)
    (xm_BadWeights_NoFit : PySem.W.exmOne K (.ref C_BadWeights) (.ref C_NoFit) = some false)
    (xm_BadWeights_NoRoom : PySem.W.exmOne K (.ref C_BadWeights) (.ref C_NoRoom) = some false)
    (xm_BadWeights_Shared : PySem.W.exmOne K (.ref C_BadWeights) (.ref C_Shared) = some false)
    (xm_BadWeights_Thin : PySem.W.exmOne K (.ref C_BadWeights) (.ref C_Thin) = some false)
    (xm_NoRoom_BadK : PySem.W.exmOne K (.ref C_NoRoom) (.ref C_BadK) = some false)
    (xm_NoRoom_BadMany : PySem.W.exmOne K (.ref C_NoRoom) (.ref C_BadMany) = some false)
    (xm_NoRoom_BadRow : PySem.W.exmOne K (.ref C_NoRoom) (.ref C_BadRow) = some false)
    (xm_NoRoom_BadRows : PySem.W.exmOne K (.ref C_NoRoom) (.ref C_BadRows) = some false)
    (xm_NoRoom_BadTs : PySem.W.exmOne K (.ref C_NoRoom) (.ref C_BadTs) = some false)
    (xm_NoRoom_BadView : PySem.W.exmOne K (.ref C_NoRoom) (.ref C_BadView) = some false)
    (xm_NoRoom_BadWeights : PySem.W.exmOne K (.ref C_NoRoom) (.ref C_BadWeights) = some false)
    (xm_NoRoom_Blank : PySem.W.exmOne K (.ref C_NoRoom) (.ref C_Blank) = some false)
    (xm_NoRoom_NoDots : PySem.W.exmOne K (.ref C_NoRoom) (.ref C_NoDots) = some false)
    (xm_NoRoom_NoFit : PySem.W.exmOne K (.ref C_NoRoom) (.ref C_NoFit) = some false)
    (xm_NoRoom_NoRoom : PySem.W.exmOne K (.ref C_NoRoom) (.ref C_NoRoom) = some true)
    (xm_NoRoom_Shared : PySem.W.exmOne K (.ref C_NoRoom) (.ref C_Shared) = some false)
    (xm_NoRoom_Thin : PySem.W.exmOne K (.ref C_NoRoom) (.ref C_Thin) = some false)
    {lc__law_share_right lP__law_share_right : Addr} {lo__law_share_right : Obj} (le__law_share_right : cd_18 = .ref lc__law_share_right) (lo2__law_share_right : K.lookup lc__law_share_right = some lo__law_share_right) (lg__law_share_right : tabAt lo__law_share_right = some (.ref lP__law_share_right)) (lb__law_share_right : codeHdB lo__law_share_right lc__law_share_right lP__law_share_right = true) (lt__law_share_right : h.get? lP__law_share_right = some { cls := .none, data := .fields #[] }) (nt__law_share_right : K.lookup lP__law_share_right = none)
    {lc__law_share_refused lP__law_share_refused : Addr} {lo__law_share_refused : Obj} (le__law_share_refused : cd_20 = .ref lc__law_share_refused) (lo2__law_share_refused : K.lookup lc__law_share_refused = some lo__law_share_refused) (lg__law_share_refused : tabAt lo__law_share_refused = some (.ref lP__law_share_refused)) (lb__law_share_refused : codeHdB lo__law_share_refused lc__law_share_refused lP__law_share_refused = true) (lt__law_share_refused : h.get? lP__law_share_refused = some { cls := .none, data := .fields #[] }) (nt__law_share_refused : K.lookup lP__law_share_refused = none)
    (ln__law_share_right__law_share_refused : lP__law_share_right ≠ lP__law_share_refused)
    (ln__law_share_refused__law_share_right : lP__law_share_refused ≠ lP__law_share_right) :
    ∃ (K : PySem.W.Frag) (fd : FuncData) (cs : List (Addr × Addr)) (T : List (Addr × Str)), K.In h ∧ (∀ p ∈ cs, h.get? p.2 = some { cls := .none, data := .fields #[] }) ∧ (∀ p ∈ cs, K.lookup p.2 = none) ∧ (∀ p ∈ cs, PySem.W.CodeHd h p.1 p.2) ∧ (∀ p ∈ T, p.1 ∈ cs.map (·.2)) ∧ (∀ (s : Shared) (v : Value), BindsTo s fd ⟨[v], []⟩ [("script", v)]) ∧ ∀ base : Heap, K.In base → base.Ns mainGlobals mg → (∀ p ∈ cs, LamX.TabB base mg p.1 p.2) → FnG l.prog w K mg base (L2.CX l.prog w) 9 fa fd ["script"] (SpG K T mg 1 s_law) := by
  have e := hfa.symm.trans (PySem.W.mg_of X G a_21)
  cases e
  let t : Top K mg := {
    a_lowest := f_0
    d_lowest := _
    g_lowest := PySem.W.mg_of X G a_0
    F_lowest := fun_mk (st := topS 20) l_0 c_0 k_0
    b_lowest := (fun_mk (st := topS 20) l_0 c_0 k_0).binds (ps := ["above", "below"]) (fun _ _ _ _ _ _ us hl => match us, hl with | [_, _], _ => rfl)
    a_is_number := f_1
    d_is_number := _
    g_is_number := PySem.W.mg_of X G a_1
    F_is_number := fun_mk (st := topS 17) l_1 c_1 k_1
    b_is_number := (fun_mk (st := topS 17) l_1 c_1 k_1).binds (ps := ["thing"]) (fun _ _ _ _ _ _ us hl => match us, hl with | [_], _ => rfl)
    a_is_within := f_2
    d_is_within := _
    g_is_within := PySem.W.mg_of X G a_2
    F_is_within := fun_mk (st := topS 18) l_2 c_2 k_2
    b_is_within := (fun_mk (st := topS 18) l_2 c_2 k_2).binds (ps := ["thing", "low", "high"]) (fun _ _ _ _ _ _ us hl => match us, hl with | [_, _, _], _ => rfl)
    a_made_k := f_3
    d_made_k := _
    g_made_k := PySem.W.mg_of X G a_3
    F_made_k := fun_mk (st := topS 23) l_3 c_3 k_3
    b_made_k := (fun_mk (st := topS 23) l_3 c_3 k_3).binds (ps := ["thing"]) (fun _ _ _ _ _ _ us hl => match us, hl with | [_], _ => rfl)
    a_wrong_at := f_4
    d_wrong_at := _
    g_wrong_at := PySem.W.mg_of X G a_4
    F_wrong_at := fun_mk (st := topS 19) l_4 c_4 k_4
    b_wrong_at := (fun_mk (st := topS 19) l_4 c_4 k_4).binds (ps := ["thing", "fewest", "greatest", "low", "high"]) (fun _ _ _ _ _ _ us hl => match us, hl with | [_, _, _, _, _], _ => rfl)
    a_check_weights := f_5
    d_check_weights := _
    g_check_weights := PySem.W.mg_of X G a_5
    F_check_weights := fun_mk (st := topS 30) l_5 c_5 k_5
    b_check_weights := (fun_mk (st := topS 30) l_5 c_5 k_5).binds (ps := ["weights"]) (fun _ _ _ _ _ _ us hl => match us, hl with | [_], _ => rfl)
    a_left_over := f_6
    d_left_over := _
    g_left_over := PySem.W.mg_of X G a_6
    F_left_over := fun_mk (st := topS 25) l_6 c_6 k_6
    b_left_over := (fun_mk (st := topS 25) l_6 c_6 k_6).binds (ps := ["k", "ts"]) (fun _ _ _ _ _ _ us hl => match us, hl with | [_, _], _ => rfl)
    a_all_that_fit := f_7
    d_all_that_fit := _
    g_all_that_fit := PySem.W.mg_of X G a_7
    F_all_that_fit := fun_mk (st := topS 31) l_7 c_7 k_7
    b_all_that_fit := (fun_mk (st := topS 31) l_7 c_7 k_7).binds (ps := ["k", "many"]) (fun _ _ _ _ _ _ us hl => match us, hl with | [_, _], _ => rfl)
    a_common_multiple := f_8
    d_common_multiple := _
    g_common_multiple := PySem.W.mg_of X G a_8
    F_common_multiple := fun_mk (st := topS 32) l_8 c_8 k_8
    b_common_multiple := (fun_mk (st := topS 32) l_8 c_8 k_8).binds (ps := ["k"]) (fun _ _ _ _ _ _ us hl => match us, hl with | [_], _ => rfl)
    a_cheapest := f_9
    d_cheapest := _
    g_cheapest := PySem.W.mg_of X G a_9
    F_cheapest := fun_mk (st := topS 33) l_9 c_9 k_9
    b_cheapest := (fun_mk (st := topS 33) l_9 c_9 k_9).binds (ps := ["k", "weights"]) (fun _ _ _ _ _ _ us hl => match us, hl with | [_, _], _ => rfl)
    a__law_pool := f_10
    d__law_pool := _
    g__law_pool := PySem.W.mg_of X G a_10
    F__law_pool := fun_mk (st := topS 35) l_10 c_10 k_10
    b__law_pool := (fun_mk (st := topS 35) l_10 c_10 k_10).binds (ps := ["script"]) (fun _ _ _ _ _ _ us hl => match us, hl with | [_], _ => rfl)
    a__law_draw := f_11
    d__law_draw := _
    g__law_draw := PySem.W.mg_of X G a_11
    F__law_draw := fun_mk (st := topS 36) l_11 c_11 k_11
    b__law_draw := (fun_mk (st := topS 36) l_11 c_11 k_11).binds (ps := ["pool", "many"]) (fun _ _ _ _ _ _ us hl => match us, hl with | [_, _], _ => rfl)
    a__law_row_gcd := f_12
    d__law_row_gcd := _
    g__law_row_gcd := PySem.W.mg_of X G a_12
    F__law_row_gcd := fun_mk (st := topS 37) l_12 c_12 k_12
    b__law_row_gcd := (fun_mk (st := topS 37) l_12 c_12 k_12).binds (ps := ["one", "two"]) (fun _ _ _ _ _ _ us hl => match us, hl with | [_, _], _ => rfl)
    a__law_row_low := f_13
    d__law_row_low := _
    g__law_row_low := PySem.W.mg_of X G a_13
    F__law_row_low := fun_mk (st := topS 38) l_13 c_13 k_13
    b__law_row_low := (fun_mk (st := topS 38) l_13 c_13 k_13).binds (ps := ["p", "q"]) (fun _ _ _ _ _ _ us hl => match us, hl with | [_, _], _ => rfl)
    a__law_kind_spare := f_14
    d__law_kind_spare := _
    g__law_kind_spare := PySem.W.mg_of X G a_14
    F__law_kind_spare := fun_mk (st := topS 39) l_14 c_14 k_14
    b__law_kind_spare := (fun_mk (st := topS 39) l_14 c_14 k_14).binds (ps := ["k", "ts"]) (fun _ _ _ _ _ _ us hl => match us, hl with | [_, _], _ => rfl)
    a__law_kind_lots := f_15
    d__law_kind_lots := _
    g__law_kind_lots := PySem.W.mg_of X G a_15
    F__law_kind_lots := fun_mk (st := topS 40) l_15 c_15 k_15
    b__law_kind_lots := (fun_mk (st := topS 40) l_15 c_15 k_15).binds (ps := ["k", "many"]) (fun _ _ _ _ _ _ us hl => match us, hl with | [_, _], _ => rfl)
    a__law_share_cost := f_16
    d__law_share_cost := _
    g__law_share_cost := PySem.W.mg_of X G a_16
    F__law_share_cost := fun_mk (st := topS 43) l_16 c_16 k_16
    b__law_share_cost := (fun_mk (st := topS 43) l_16 c_16 k_16).binds (ps := ["k", "weights", "ts"]) (fun _ _ _ _ _ _ us hl => match us, hl with | [_, _, _], _ => rfl)
    a__law_share_due := f_17
    d__law_share_due := _
    g__law_share_due := PySem.W.mg_of X G a_17
    F__law_share_due := fun_mk (st := topS 44) l_17 c_17 k_17
    b__law_share_due := (fun_mk (st := topS 44) l_17 c_17 k_17).binds (ps := ["k", "weights"]) (fun _ _ _ _ _ _ us hl => match us, hl with | [_, _], _ => rfl)
    a__law_share_right := f_18
    d__law_share_right := _
    g__law_share_right := PySem.W.mg_of X G a_18
    F__law_share_right := fun_mk (st := topS 45) l_18 c_18 k_18
    b__law_share_right := (fun_mk (st := topS 45) l_18 c_18 k_18).binds (ps := ["k", "weights"]) (fun _ _ _ _ _ _ us hl => match us, hl with | [_, _], _ => rfl)
    a__law_kind_no_k := f_19
    d__law_kind_no_k := _
    g__law_kind_no_k := PySem.W.mg_of X G a_19
    F__law_kind_no_k := fun_mk (st := topS 42) l_19 c_19 k_19
    b__law_kind_no_k := (fun_mk (st := topS 42) l_19 c_19 k_19).binds (ps := []) (fun _ _ _ _ _ _ us hl => match us, hl with | [], _ => rfl)
    a__law_share_refused := f_20
    d__law_share_refused := _
    g__law_share_refused := PySem.W.mg_of X G a_20
    F__law_share_refused := fun_mk (st := topS 46) l_20 c_20 k_20
    b__law_share_refused := (fun_mk (st := topS 46) l_20 c_20 k_20).binds (ps := ["k", "weights"]) (fun _ _ _ _ _ _ us hl => match us, hl with | [_, _], _ => rfl)
    a_law := fa
    d_law := _
    g_law := PySem.W.mg_of X G a_21
    F_law := fun_mk (st := topS 47) l_21 c_21 k_21
    b_law := (fun_mk (st := topS 47) l_21 c_21 k_21).binds (ps := ["script"]) (fun _ _ _ _ _ _ us hl => match us, hl with | [_], _ => rfl)
    a__law_kind_heard := f_22
    d__law_kind_heard := _
    g__law_kind_heard := PySem.W.mg_of X G a_22
    F__law_kind_heard := fun_mk (st := topS 41) l_22 c_22 k_22
    b__law_kind_heard := (fun_mk (st := topS 41) l_22 c_22 k_22).binds (ps := ["call"]) (fun _ _ _ _ _ _ us hl => match us, hl with | [_], _ => rfl)
    m_ValueError := PySem.W.mg_none_of X G z_ValueError
    m_bool := PySem.W.mg_none_of X G z_bool
    m_enumerate := PySem.W.mg_none_of X G z_enumerate
    m_int := PySem.W.mg_none_of X G z_int
    m_isinstance := PySem.W.mg_none_of X G z_isinstance
    m_len := PySem.W.mg_none_of X G z_len
    m_list := PySem.W.mg_none_of X G z_list
    m_max := PySem.W.mg_none_of X G z_max
    m_range := PySem.W.mg_none_of X G z_range
    m_repr := PySem.W.mg_none_of X G z_repr
    m_sum := PySem.W.mg_none_of X G z_sum
    m_tuple := PySem.W.mg_none_of X G z_tuple
    m_zip := PySem.W.mg_none_of X G z_zip
    k_GREATEST_K := k_GREATEST_K
    c_GREATEST_K := PySem.W.mg_of X G v_GREATEST_K
    k_GREATEST_K_OF_SHARES := k_GREATEST_K_OF_SHARES
    c_GREATEST_K_OF_SHARES := PySem.W.mg_of X G v_GREATEST_K_OF_SHARES
    k_GREATEST_WEIGHT := k_GREATEST_WEIGHT
    c_GREATEST_WEIGHT := PySem.W.mg_of X G v_GREATEST_WEIGHT
    k_MOST_WEIGHTS := k_MOST_WEIGHTS
    c_MOST_WEIGHTS := PySem.W.mg_of X G v_MOST_WEIGHTS
    x_gcd := PySem.W.mg_of X G w_gcd
    x_lcm := PySem.W.mg_of X G w_lcm
    C_BadK := C_BadK
    q_BadK := PySem.W.mg_of X G q_BadK
    C_BadMany := C_BadMany
    q_BadMany := PySem.W.mg_of X G q_BadMany
    C_BadRow := C_BadRow
    q_BadRow := PySem.W.mg_of X G q_BadRow
    C_BadRows := C_BadRows
    q_BadRows := PySem.W.mg_of X G q_BadRows
    C_BadTs := C_BadTs
    q_BadTs := PySem.W.mg_of X G q_BadTs
    C_BadView := C_BadView
    q_BadView := PySem.W.mg_of X G q_BadView
    C_BadWeights := C_BadWeights
    q_BadWeights := PySem.W.mg_of X G q_BadWeights
    C_Blank := C_Blank
    q_Blank := PySem.W.mg_of X G q_Blank
    C_NoDots := C_NoDots
    q_NoDots := PySem.W.mg_of X G q_NoDots
    C_NoFit := C_NoFit
    q_NoFit := PySem.W.mg_of X G q_NoFit
    C_NoRoom := C_NoRoom
    q_NoRoom := PySem.W.mg_of X G q_NoRoom
    C_Shared := C_Shared
    q_Shared := PySem.W.mg_of X G q_Shared
    C_Thin := C_Thin
    q_Thin := PySem.W.mg_of X G q_Thin
    E_BadK := { gC := PySem.W.mg_of X G q_BadK, T := ⟨⟨_, _, _, _, _, _, _, _, _, _, _, _, _, _, _, xL_BadK, rB_BadK⟩, sa_BadK, eC_BadK, tC_BadK, kC_BadK⟩, iC := ii_BadK, noW := nw_BadK, xf := ⟨ga_BadK, gg_BadK, eC_BadK, hD_BadK⟩, noK := nk_BadK, xi := ⟨ci_BadK, ga_BadK, gg_BadK, eC_BadK, cd_BadK, sp_G, tk_G, mr_BadK⟩, nm := ⟨kn_BadK, tC_BadK, op_G, fc_BadK⟩ }
    E_BadWeights := { gC := PySem.W.mg_of X G q_BadWeights, T := ⟨⟨_, _, _, _, _, _, _, _, _, _, _, _, _, _, _, xL_BadWeights, rB_BadWeights⟩, sa_BadWeights, eC_BadWeights, tC_BadWeights, kC_BadWeights⟩, iC := ii_BadWeights, noW := nw_BadWeights, xf := ⟨ga_BadWeights, gg_BadWeights, eC_BadWeights, hD_BadWeights⟩, noK := nk_BadWeights, xi := ⟨ci_BadWeights, ga_BadWeights, gg_BadWeights, eC_BadWeights, cd_BadWeights, sp_G, tk_G, mr_BadWeights⟩, nm := ⟨kn_BadWeights, tC_BadWeights, op_G, fc_BadWeights⟩ }
    E_NoRoom := { gC := PySem.W.mg_of X G q_NoRoom, T := ⟨⟨_, _, _, _, _, _, _, _, _, _, _, _, _, _, _, xL_NoRoom, rB_NoRoom⟩, sa_NoRoom, eC_NoRoom, tC_NoRoom, kC_NoRoom⟩, iC := ii_NoRoom, noW := nw_NoRoom, xf := ⟨ga_NoRoom, gg_NoRoom, eC_NoRoom, hD_NoRoom⟩, noK := nk_NoRoom, xi := ⟨ci_NoRoom, ga_NoRoom, gg_NoRoom, eC_NoRoom, cd_NoRoom, sp_G, tk_G, mr_NoRoom⟩, nm := ⟨kn_NoRoom, tC_NoRoom, op_G, fc_NoRoom⟩ }
    fI := fI
    d_init := _
    F_init := fun_mk (st := (inClass (topS 2) 0)) l_i c_i k_i
    b_init := (fun_mk (st := (inClass (topS 2) 0)) l_i c_i k_i).binds (ps := ["self", "what"]) (fun _ _ _ _ _ _ us hl => match us, hl with | [_, _], _ => rfl)
    tI := t_i
    vV := v_V
    xm_BadK_BadK := xm_BadK_BadK
    xm_BadK_BadMany := xm_BadK_BadMany
    xm_BadK_BadRow := xm_BadK_BadRow
    xm_BadK_BadRows := xm_BadK_BadRows
    xm_BadK_BadTs := xm_BadK_BadTs
    xm_BadK_BadView := xm_BadK_BadView
    xm_BadK_BadWeights := xm_BadK_BadWeights
    xm_BadK_Blank := xm_BadK_Blank
    xm_BadK_NoDots := xm_BadK_NoDots
    xm_BadK_NoFit := xm_BadK_NoFit
    xm_BadK_NoRoom := xm_BadK_NoRoom
    xm_BadK_Shared := xm_BadK_Shared
    xm_BadK_Thin := xm_BadK_Thin
    xm_BadWeights_BadK := xm_BadWeights_BadK
    xm_BadWeights_BadMany := xm_BadWeights_BadMany
    xm_BadWeights_BadRow := xm_BadWeights_BadRow
    xm_BadWeights_BadRows := xm_BadWeights_BadRows
    xm_BadWeights_BadTs := xm_BadWeights_BadTs
    xm_BadWeights_BadView := xm_BadWeights_BadView
    xm_BadWeights_BadWeights := xm_BadWeights_BadWeights
    xm_BadWeights_Blank := xm_BadWeights_Blank
    xm_BadWeights_NoDots := xm_BadWeights_NoDots
    xm_BadWeights_NoFit := xm_BadWeights_NoFit
    xm_BadWeights_NoRoom := xm_BadWeights_NoRoom
    xm_BadWeights_Shared := xm_BadWeights_Shared
    xm_BadWeights_Thin := xm_BadWeights_Thin
    xm_NoRoom_BadK := xm_NoRoom_BadK
    xm_NoRoom_BadMany := xm_NoRoom_BadMany
    xm_NoRoom_BadRow := xm_NoRoom_BadRow
    xm_NoRoom_BadRows := xm_NoRoom_BadRows
    xm_NoRoom_BadTs := xm_NoRoom_BadTs
    xm_NoRoom_BadView := xm_NoRoom_BadView
    xm_NoRoom_BadWeights := xm_NoRoom_BadWeights
    xm_NoRoom_Blank := xm_NoRoom_Blank
    xm_NoRoom_NoDots := xm_NoRoom_NoDots
    xm_NoRoom_NoFit := xm_NoRoom_NoFit
    xm_NoRoom_NoRoom := xm_NoRoom_NoRoom
    xm_NoRoom_Shared := xm_NoRoom_Shared
    xm_NoRoom_Thin := xm_NoRoom_Thin
    lc__law_share_right := lc__law_share_right
    lP__law_share_right := lP__law_share_right
    lh__law_share_right := le__law_share_right
    lc__law_share_refused := lc__law_share_refused
    lP__law_share_refused := lP__law_share_refused
    lh__law_share_refused := le__law_share_refused
    ln__law_share_right__law_share_refused := ln__law_share_right__law_share_refused
    ln__law_share_refused__law_share_right := ln__law_share_refused__law_share_right }
  exact ⟨K, _, css t, tabs t, X, (call_cons lt__law_share_right (call_cons lt__law_share_refused call_nil)), (call_cons nt__law_share_right (call_cons nt__law_share_refused call_nil)), (call_cons (codeHd_of X lo2__law_share_right lb__law_share_right) (call_cons (codeHd_of X lo2__law_share_refused lb__law_share_refused) call_nil)), (tall_cons (List.Mem.head _) (tall_cons (List.Mem.tail _ (List.Mem.head _)) tall_nil)), fun s v => .of_eq rfl, fun base _ _ tb => ok_law t tb⟩
end Gk12

open PySem PySem.W PyProof.Rows in
set_option maxHeartbeats 0 in
theorem PySem.Challenge.cw_undertwo_k12_cheapest_by_shares_holds : PySem.Challenge.rw_undertwo_k12_cheapest_by_shares.Holds := by
  w_on; o_law; k_head; (case hw => w_witness2)
  k_fill
  refine Mm.walk_ofGT (l := PySem.Challenge.rw_undertwo_k12_cheapest_by_shares) (n := 63) (k := 9) (x := "script") (g := Gk12.s_law) rfl (by decide) rfl ⟨rfl, by decide, by decide⟩ ?F Gk12.law_true
  case F =>
    intro w mg fa h Y G hmg
    have KX := PySem.W.km_in_of Y
    refine' Gk12.all_mk KX G hmg ?a_0 ?l_0 ?c_0 ?k_0 ?a_1 ?l_1 ?c_1 ?k_1 ?a_2 ?l_2 ?c_2 ?k_2 ?a_3 ?l_3 ?c_3 ?k_3 ?a_4 ?l_4 ?c_4 ?k_4 ?a_5 ?l_5 ?c_5 ?k_5 ?a_6 ?l_6 ?c_6 ?k_6 ?a_7 ?l_7 ?c_7 ?k_7 ?a_8 ?l_8 ?c_8 ?k_8 ?a_9 ?l_9 ?c_9 ?k_9 ?a_10 ?l_10 ?c_10 ?k_10 ?a_11 ?l_11 ?c_11 ?k_11 ?a_12 ?l_12 ?c_12 ?k_12 ?a_13 ?l_13 ?c_13 ?k_13 ?a_14 ?l_14 ?c_14 ?k_14 ?a_15 ?l_15 ?c_15 ?k_15 ?a_16 ?l_16 ?c_16 ?k_16 ?a_17 ?l_17 ?c_17 ?k_17 ?a_18 ?l_18 ?c_18 ?k_18 ?a_19 ?l_19 ?c_19 ?k_19 ?a_20 ?l_20 ?c_20 ?k_20 ?a_21 ?l_21 ?c_21 ?k_21 ?a_22 ?l_22 ?c_22 ?k_22 ?z_ValueError ?z_bool ?z_enumerate ?z_int ?z_isinstance ?z_len ?z_list ?z_max ?z_range ?z_repr ?z_sum ?z_tuple ?z_zip ?v_GREATEST_K ?v_GREATEST_K_OF_SHARES ?v_GREATEST_WEIGHT ?v_MOST_WEIGHTS ?w_gcd ?w_lcm ?q_BadK ?q_BadMany ?q_BadRow ?q_BadRows ?q_BadTs ?q_BadView ?q_BadWeights ?q_Blank ?q_NoDots ?q_NoFit ?q_NoRoom ?q_Shared ?q_Thin ?sp_G ?tk_G ?op_G ?xL_BadK ?rB_BadK ?sa_BadK ?ga_BadK ?gg_BadK ?nw_BadK ?ii_BadK ?kC_BadK ?eC_BadK ?tC_BadK ?hD_BadK ?nk_BadK ?ci_BadK ?cd_BadK ?mr_BadK ?kn_BadK ?fc_BadK ?xL_BadWeights ?rB_BadWeights ?sa_BadWeights ?ga_BadWeights ?gg_BadWeights ?nw_BadWeights ?ii_BadWeights ?kC_BadWeights ?eC_BadWeights ?tC_BadWeights ?hD_BadWeights ?nk_BadWeights ?ci_BadWeights ?cd_BadWeights ?mr_BadWeights ?kn_BadWeights ?fc_BadWeights ?xL_NoRoom ?rB_NoRoom ?sa_NoRoom ?ga_NoRoom ?gg_NoRoom ?nw_NoRoom ?ii_NoRoom ?kC_NoRoom ?eC_NoRoom ?tC_NoRoom ?hD_NoRoom ?nk_NoRoom ?ci_NoRoom ?cd_NoRoom ?mr_NoRoom ?kn_NoRoom ?fc_NoRoom ?l_i ?c_i ?k_i ?t_i ?v_V ?xm_BadK_BadK ?xm_BadK_BadMany ?xm_BadK_BadRow ?xm_BadK_BadRows ?xm_BadK_BadTs ?xm_BadK_BadView ?xm_BadK_BadWeights ?xm_BadK_Blank ?xm_BadK_NoDots ?xm_BadK_NoFit ?xm_BadK_NoRoom ?xm_BadK_Shared ?xm_BadK_Thin ?xm_BadWeights_BadK ?xm_BadWeights_BadMany ?xm_BadWeights_BadRow ?xm_BadWeights_BadRows ?xm_BadWeights_BadTs ?xm_BadWeights_BadView ?xm_BadWeights_BadWeights ?xm_BadWeights_Blank ?xm_BadWeights_NoDots ?xm_BadWeights_NoFit ?xm_BadWeights_NoRoom ?xm_BadWeights_Shared ?xm_BadWeights_Thin ?xm_NoRoom_BadK ?xm_NoRoom_BadMany ?xm_NoRoom_BadRow ?xm_NoRoom_BadRows ?xm_NoRoom_BadTs ?xm_NoRoom_BadView ?xm_NoRoom_BadWeights ?xm_NoRoom_Blank ?xm_NoRoom_NoDots ?xm_NoRoom_NoFit ?xm_NoRoom_NoRoom ?xm_NoRoom_Shared ?xm_NoRoom_Thin ?le__law_share_right ?lo2__law_share_right ?lg__law_share_right ?lb__law_share_right ?lt__law_share_right ?nt__law_share_right ?le__law_share_refused ?lo2__law_share_refused ?lg__law_share_refused ?lb__law_share_refused ?lt__law_share_refused ?nt__law_share_refused ?ln__law_share_right__law_share_refused ?ln__law_share_refused__law_share_right
    (case a_0 => k_is)
    (case l_0 => k_is)
    (case c_0 => k_is)
    (case k_0 => k_is)
    (case a_1 => k_is)
    (case l_1 => k_is)
    (case c_1 => k_is)
    (case k_1 => k_is)
    (case a_2 => k_is)
    (case l_2 => k_is)
    (case c_2 => k_is)
    (case k_2 => k_is)
    (case a_3 => k_is)
    (case l_3 => k_is)
    (case c_3 => k_is)
    (case k_3 => k_is)
    (case a_4 => k_is)
    (case l_4 => k_is)
    (case c_4 => k_is)
    (case k_4 => k_is)
    (case a_5 => k_is)
    (case l_5 => k_is)
    (case c_5 => k_is)
    (case k_5 => k_is)
    (case a_6 => k_is)
    (case l_6 => k_is)
    (case c_6 => k_is)
    (case k_6 => k_is)
    (case a_7 => k_is)
    (case l_7 => k_is)
    (case c_7 => k_is)
    (case k_7 => k_is)
    (case a_8 => k_is)
    (case l_8 => k_is)
    (case c_8 => k_is)
    (case k_8 => k_is)
    (case a_9 => k_is)
    (case l_9 => k_is)
    (case c_9 => k_is)
    (case k_9 => k_is)
    (case a_10 => k_is)
    (case l_10 => k_is)
    (case c_10 => k_is)
    (case k_10 => k_is)
    (case a_11 => k_is)
    (case l_11 => k_is)
    (case c_11 => k_is)
    (case k_11 => k_is)
    (case a_12 => k_is)
    (case l_12 => k_is)
    (case c_12 => k_is)
    (case k_12 => k_is)
    (case a_13 => k_is)
    (case l_13 => k_is)
    (case c_13 => k_is)
    (case k_13 => k_is)
    (case a_14 => k_is)
    (case l_14 => k_is)
    (case c_14 => k_is)
    (case k_14 => k_is)
    (case a_15 => k_is)
    (case l_15 => k_is)
    (case c_15 => k_is)
    (case k_15 => k_is)
    (case a_16 => k_is)
    (case l_16 => k_is)
    (case c_16 => k_is)
    (case k_16 => k_is)
    (case a_17 => k_is)
    (case l_17 => k_is)
    (case c_17 => k_is)
    (case k_17 => k_is)
    (case a_18 => k_is)
    (case l_18 => k_is)
    (case c_18 => k_is)
    (case k_18 => k_is)
    (case a_19 => k_is)
    (case l_19 => k_is)
    (case c_19 => k_is)
    (case k_19 => k_is)
    (case a_20 => k_is)
    (case l_20 => k_is)
    (case c_20 => k_is)
    (case k_20 => k_is)
    (case a_21 => k_is)
    (case l_21 => k_is)
    (case c_21 => k_is)
    (case k_21 => k_is)
    (case a_22 => k_is)
    (case l_22 => k_is)
    (case c_22 => k_is)
    (case k_22 => k_is)
    (case z_ValueError => k_is)
    (case z_bool => k_is)
    (case z_enumerate => k_is)
    (case z_int => k_is)
    (case z_isinstance => k_is)
    (case z_len => k_is)
    (case z_list => k_is)
    (case z_max => k_is)
    (case z_range => k_is)
    (case z_repr => k_is)
    (case z_sum => k_is)
    (case z_tuple => k_is)
    (case z_zip => k_is)
    (case v_GREATEST_K => k_is)
    (case v_GREATEST_K_OF_SHARES => k_is)
    (case v_GREATEST_WEIGHT => k_is)
    (case v_MOST_WEIGHTS => k_is)
    (case w_gcd => k_is)
    (case w_lcm => k_is)
    (case q_BadK => k_is)
    (case q_BadMany => k_is)
    (case q_BadRow => k_is)
    (case q_BadRows => k_is)
    (case q_BadTs => k_is)
    (case q_BadView => k_is)
    (case q_BadWeights => k_is)
    (case q_Blank => k_is)
    (case q_NoDots => k_is)
    (case q_NoFit => k_is)
    (case q_NoRoom => k_is)
    (case q_Shared => k_is)
    (case q_Thin => k_is)
    (case sp_G => first | k_is | rfl | decide +kernel)
    (case tk_G => first | k_is | rfl | decide +kernel)
    (case op_G => first | k_is | rfl | decide +kernel)
    (case xL_BadK => k_is)
    (case rB_BadK => first | rfl | decide +kernel)
    (case sa_BadK => k_is)
    (case ga_BadK => k_is)
    (case gg_BadK => k_is)
    (case nw_BadK => k_is)
    (case ii_BadK => k_is)
    (case kC_BadK => k_is)
    (case eC_BadK => k_is)
    (case tC_BadK => k_is)
    (case hD_BadK => k_is)
    (case nk_BadK => k_is)
    (case ci_BadK => first | k_is | rfl | decide +kernel)
    (case cd_BadK => first | k_is | rfl | decide +kernel)
    (case mr_BadK => first | k_is | rfl | decide +kernel)
    (case kn_BadK => first | k_is | rfl | decide +kernel)
    (case fc_BadK => first | k_is | rfl | decide +kernel)
    (case xL_BadWeights => k_is)
    (case rB_BadWeights => first | rfl | decide +kernel)
    (case sa_BadWeights => k_is)
    (case ga_BadWeights => k_is)
    (case gg_BadWeights => k_is)
    (case nw_BadWeights => k_is)
    (case ii_BadWeights => k_is)
    (case kC_BadWeights => k_is)
    (case eC_BadWeights => k_is)
    (case tC_BadWeights => k_is)
    (case hD_BadWeights => k_is)
    (case nk_BadWeights => k_is)
    (case ci_BadWeights => first | k_is | rfl | decide +kernel)
    (case cd_BadWeights => first | k_is | rfl | decide +kernel)
    (case mr_BadWeights => first | k_is | rfl | decide +kernel)
    (case kn_BadWeights => first | k_is | rfl | decide +kernel)
    (case fc_BadWeights => first | k_is | rfl | decide +kernel)
    (case xL_NoRoom => k_is)
    (case rB_NoRoom => first | rfl | decide +kernel)
    (case sa_NoRoom => k_is)
    (case ga_NoRoom => k_is)
    (case gg_NoRoom => k_is)
    (case nw_NoRoom => k_is)
    (case ii_NoRoom => k_is)
    (case kC_NoRoom => k_is)
    (case eC_NoRoom => k_is)
    (case tC_NoRoom => k_is)
    (case hD_NoRoom => k_is)
    (case nk_NoRoom => k_is)
    (case ci_NoRoom => first | k_is | rfl | decide +kernel)
    (case cd_NoRoom => first | k_is | rfl | decide +kernel)
    (case mr_NoRoom => first | k_is | rfl | decide +kernel)
    (case kn_NoRoom => first | k_is | rfl | decide +kernel)
    (case fc_NoRoom => first | k_is | rfl | decide +kernel)
    (case l_i => k_is)
    (case c_i => k_is)
    (case k_i => k_is)
    (case t_i => first | k_is | rfl | decide +kernel)
    (case v_V => first | k_is | rfl | decide +kernel)
    (case xm_BadK_BadK => first | k_is | rfl | decide +kernel)
    (case xm_BadK_BadMany => first | k_is | rfl | decide +kernel)
    (case xm_BadK_BadRow => first | k_is | rfl | decide +kernel)
    (case xm_BadK_BadRows => first | k_is | rfl | decide +kernel)
    (case xm_BadK_BadTs => first | k_is | rfl | decide +kernel)
    (case xm_BadK_BadView => first | k_is | rfl | decide +kernel)
    (case xm_BadK_BadWeights => first | k_is | rfl | decide +kernel)
    (case xm_BadK_Blank => first | k_is | rfl | decide +kernel)
    (case xm_BadK_NoDots => first | k_is | rfl | decide +kernel)
    (case xm_BadK_NoFit => first | k_is | rfl | decide +kernel)
    (case xm_BadK_NoRoom => first | k_is | rfl | decide +kernel)
    (case xm_BadK_Shared => first | k_is | rfl | decide +kernel)
    (case xm_BadK_Thin => first | k_is | rfl | decide +kernel)
    (case xm_BadWeights_BadK => first | k_is | rfl | decide +kernel)
    (case xm_BadWeights_BadMany => first | k_is | rfl | decide +kernel)
    (case xm_BadWeights_BadRow => first | k_is | rfl | decide +kernel)
    (case xm_BadWeights_BadRows => first | k_is | rfl | decide +kernel)
    (case xm_BadWeights_BadTs => first | k_is | rfl | decide +kernel)
    (case xm_BadWeights_BadView => first | k_is | rfl | decide +kernel)
    (case xm_BadWeights_BadWeights => first | k_is | rfl | decide +kernel)
    (case xm_BadWeights_Blank => first | k_is | rfl | decide +kernel)
    (case xm_BadWeights_NoDots => first | k_is | rfl | decide +kernel)
    (case xm_BadWeights_NoFit => first | k_is | rfl | decide +kernel)
    (case xm_BadWeights_NoRoom => first | k_is | rfl | decide +kernel)
    (case xm_BadWeights_Shared => first | k_is | rfl | decide +kernel)
    (case xm_BadWeights_Thin => first | k_is | rfl | decide +kernel)
    (case xm_NoRoom_BadK => first | k_is | rfl | decide +kernel)
    (case xm_NoRoom_BadMany => first | k_is | rfl | decide +kernel)
    (case xm_NoRoom_BadRow => first | k_is | rfl | decide +kernel)
    (case xm_NoRoom_BadRows => first | k_is | rfl | decide +kernel)
    (case xm_NoRoom_BadTs => first | k_is | rfl | decide +kernel)
    (case xm_NoRoom_BadView => first | k_is | rfl | decide +kernel)
    (case xm_NoRoom_BadWeights => first | k_is | rfl | decide +kernel)
    (case xm_NoRoom_Blank => first | k_is | rfl | decide +kernel)
    (case xm_NoRoom_NoDots => first | k_is | rfl | decide +kernel)
    (case xm_NoRoom_NoFit => first | k_is | rfl | decide +kernel)
    (case xm_NoRoom_NoRoom => first | k_is | rfl | decide +kernel)
    (case xm_NoRoom_Shared => first | k_is | rfl | decide +kernel)
    (case xm_NoRoom_Thin => first | k_is | rfl | decide +kernel)
    (case le__law_share_right => first | rfl | decide +kernel)
    (case lo2__law_share_right => k_is)
    (case lg__law_share_right => first | rfl | decide +kernel)
    (case lb__law_share_right => first | rfl | decide +kernel)
    (case lt__law_share_right => exact PySem.W.km_tabs_of Y _ (by decide))
    (case nt__law_share_right => kernel_rfl)
    (case le__law_share_refused => first | rfl | decide +kernel)
    (case lo2__law_share_refused => k_is)
    (case lg__law_share_refused => first | rfl | decide +kernel)
    (case lb__law_share_refused => first | rfl | decide +kernel)
    (case lt__law_share_refused => exact PySem.W.km_tabs_of Y _ (by decide))
    (case nt__law_share_refused => kernel_rfl)
    (case ln__law_share_right__law_share_refused => first | rfl | decide +kernel)
    (case ln__law_share_refused__law_share_right => first | rfl | decide +kernel)
