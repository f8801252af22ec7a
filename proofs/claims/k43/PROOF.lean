import PyProof.Rows.All
import Wide.All
import OpenK.AllK
import Wide.FinOn
import Lean
import PyProof.EqAt
import PyProof.EqKinds
import PyProof.TupleCall
import PySem.Challenge.RW_realsay_k43_a_fraction_between
import KE.IntBitsLaws
import KE.KRevIter
set_option Elab.async false
set_option linter.all false
set_option maxRecDepth 100000
namespace DD
open PySem PySem.SeqAt
inductive D where
  | non | int (i : Int) | str (x : Str) | nil | cons (x y : D)
  deriving DecidableEq
def ofL : List D → D
  | [] => .nil
  | x :: r => .cons x (ofL r)
theorem ofL_inj : ∀ {xs ys : List D}, ofL xs = ofL ys → xs = ys
  | [], [], _ => rfl
  | [], _ :: _, h => nomatch h
  | _ :: _, [], h => nomatch h
  | x :: r, y :: s, h => by
    injection h with h1 h2
    rw [h1, ofL_inj h2]
def dep : D → Nat
  | .nil => 1
  | .cons x y => max (dep x + 1) (dep y)
  | _ => 0
def sz : D → Nat
  | .cons x y => sz x + sz y + 1
  | _ => 0
mutual
def Is (h : Heap) : D → Value → Prop
  | .non, v => v = .none
  | .int i, v => ∃ t, v = .int i t
  | .str x, v => ∃ t, v = .str x t
  | .nil, v => ∃ a, v = .ref a ∧ h.IsTuple a #[]
  | .cons x y, v => ∃ a v0 r, v = .ref a ∧ h.IsTuple a (v0 :: r).toArray ∧ Is h x v0 ∧ Are h y r
def Are (h : Heap) : D → List Value → Prop
  | .nil, r => r = []
  | .cons x y, r => ∃ v0 r', r = v0 :: r' ∧ Is h x v0 ∧ Are h y r'
  | _, _ => False
end
inductive All2 {α β : Type} (R : α → β → Prop) : List α → List β → Prop
  | nil : All2 R [] []
  | cons {a b l r} : R a b → All2 R l r → All2 R (a :: l) (b :: r)
theorem All2.length {α β : Type} {R : α → β → Prop} : ∀ {l : List α} {r : List β}, All2 R l r → l.length = r.length
  | _, _, .nil => rfl
  | _, _, .cons _ t => congrArg (· + 1) t.length
theorem All2.get {α β : Type} {R : α → β → Prop} : ∀ {l : List α} {r : List β}, All2 R l r → ∀ (i : Nat) (h1 : i < l.length) (h2 : i < r.length), R l[i] r[i]
  | _, _, .cons h _, 0, _, _ => h
  | _, _, .cons _ t, i + 1, h1, h2 => t.get i (Nat.lt_of_succ_lt_succ h1) (Nat.lt_of_succ_lt_succ h2)
theorem are_iff {h : Heap} : ∀ {d : D} {vs : List Value}, Are h d vs ↔ ∃ ds, d = ofL ds ∧ All2 (Is h) ds vs
  | .non, vs => ⟨fun z => by simp [Are] at z, fun ⟨ds, e, _⟩ => by cases ds <;> cases e⟩
  | .int i, vs => ⟨fun z => by simp [Are] at z, fun ⟨ds, e, _⟩ => by cases ds <;> cases e⟩
  | .str i, vs => ⟨fun z => by simp [Are] at z, fun ⟨ds, e, _⟩ => by cases ds <;> cases e⟩
  | .nil, vs => by
    constructor
    · intro z
      simp only [Are] at z
      subst z
      exact ⟨[], rfl, .nil⟩
    · rintro ⟨ds, e, a⟩
      cases ds with
      | nil => cases a; simp [Are]
      | cons x r => cases e
  | .cons x y, vs => by
    constructor
    · intro z
      simp only [Are] at z
      obtain ⟨v0, r, rfl, h1, h2⟩ := z
      obtain ⟨ds, e, a⟩ := are_iff.mp h2
      exact ⟨x :: ds, by rw [e]; rfl, .cons h1 a⟩
    · rintro ⟨ds, e, a⟩
      cases ds with
      | nil => cases e
      | cons z r =>
        cases e
        cases a with
        | cons h1 t =>
          simp only [Are]
          exact ⟨_, _, rfl, h1, are_iff.mpr ⟨r, rfl, t⟩⟩
theorem is_tup {h : Heap} {ds : List D} {v : Value} : Is h (ofL ds) v ↔ ∃ a its, v = .ref a ∧ h.IsTuple a its.toArray ∧ All2 (Is h) ds its := by
  cases ds with
  | nil =>
    simp only [ofL, Is]
    constructor
    · rintro ⟨a, rfl, t⟩
      exact ⟨a, [], rfl, t, .nil⟩
    · rintro ⟨a, its, rfl, t, al⟩
      cases al
      exact ⟨a, rfl, t⟩
  | cons x r =>
    simp only [ofL, Is]
    constructor
    · rintro ⟨a, v0, rr, rfl, t, h1, h2⟩
      obtain ⟨ds, e, al⟩ := are_iff.mp h2
      rw [ofL_inj e]
      exact ⟨a, v0 :: rr, rfl, t, .cons h1 al⟩
    · rintro ⟨a, its, rfl, t, al⟩
      cases al with
      | cons h1 al => exact ⟨a, _, _, rfl, t, h1, are_iff.mpr ⟨r, rfl, al⟩⟩
theorem tup_of {h : Heap} {d : D} {a : Addr} (z : Is h d (.ref a)) : ∃ ds, d = ofL ds := by
  cases d with
  | non => simp [Is] at z
  | int i => simp [Is] at z
  | str x => simp [Is] at z
  | nil => exact ⟨[], rfl⟩
  | cons x y =>
    simp only [Is] at z
    obtain ⟨_, _, _, _, _, _, h2⟩ := z
    obtain ⟨ds, e, _⟩ := are_iff.mp h2
    exact ⟨x :: ds, by rw [e]; rfl⟩
theorem sz_mem : ∀ {ds : List D} {x : D}, x ∈ ds → sz x < sz (ofL ds)
  | y :: r, x, h => by
    rcases List.mem_cons.mp h with rfl | h
    · show sz x < sz x + sz (ofL r) + 1
      omega
    · have := sz_mem h
      show sz x < sz y + sz (ofL r) + 1
      omega
theorem dep_mem : ∀ {ds : List D} {x : D}, x ∈ ds → dep x + 1 ≤ dep (ofL ds)
  | y :: r, x, h => by
    show dep x + 1 ≤ max (dep y + 1) (dep (ofL r))
    rcases List.mem_cons.mp h with rfl | h
    · omega
    · have := dep_mem h
      omega
theorem dep_tup : ∀ (ds : List D), 1 ≤ dep (ofL ds)
  | [] => Nat.le_refl 1
  | x :: r => by
    show 1 ≤ max (dep x + 1) (dep (ofL r))
    omega
theorem isTuple_inj {h : Heap} {a : Addr} {xs ys : List Value} (h1 : h.IsTuple a xs.toArray) (h2 : h.IsTuple a ys.toArray) : xs = ys := by
  obtain ⟨o, e, _, n, d⟩ := h1
  obtain ⟨o', e', _, n', d'⟩ := h2
  rw [e] at e'; cases e'
  rw [d] at d'
  injection d' with d1 _
  simpa using congrArg Array.toList d1
theorem is_inj {h : Heap} : ∀ (n : Nat) {d e : D} {v : Value}, sz d ≤ n → Is h d v → Is h e v → d = e := by
  intro n
  induction n with
  | zero =>
    intro d e v hn h1 h2
    cases d with
    | non => simp only [Is] at h1; subst h1; cases e <;> simp_all [Is]
    | int i => simp only [Is] at h1; obtain ⟨t, rfl⟩ := h1; cases e <;> simp_all [Is]
    | str i => simp only [Is] at h1; obtain ⟨t, rfl⟩ := h1; cases e <;> simp_all [Is]
    | nil =>
      obtain ⟨a, its, rfl, t, al⟩ := (is_tup (ds := [])).mp h1
      cases al
      obtain ⟨es, rfl⟩ := tup_of h2
      obtain ⟨a', its', e1, t', al'⟩ := is_tup.mp h2
      cases e1
      have := isTuple_inj t t'
      subst this
      cases al'
      rfl
    | cons x y => simp [sz] at hn
  | succ n ih =>
    intro d e v hn h1 h2
    cases d with
    | non => simp only [Is] at h1; subst h1; cases e <;> simp_all [Is]
    | int i => simp only [Is] at h1; obtain ⟨t, rfl⟩ := h1; cases e <;> simp_all [Is]
    | str i => simp only [Is] at h1; obtain ⟨t, rfl⟩ := h1; cases e <;> simp_all [Is]
    | nil =>
      obtain ⟨a, its, rfl, t, al⟩ := (is_tup (ds := [])).mp h1
      cases al
      obtain ⟨es, rfl⟩ := tup_of h2
      obtain ⟨a', its', e1, t', al'⟩ := is_tup.mp h2
      cases e1
      have := isTuple_inj t t'
      subst this
      cases al'
      rfl
    | cons x y =>
      obtain ⟨a, v0, r, rfl, t, a1, a2⟩ := (by simpa only [Is] using h1)
      obtain ⟨ds, rfl, al⟩ := are_iff.mp a2
      obtain ⟨es, rfl⟩ := tup_of h2
      obtain ⟨a', its', e1, t', al'⟩ := is_tup.mp h2
      cases e1
      have := isTuple_inj t t'
      subst this
      have key : ∀ (ds es : List D) (its : List Value), (∀ x ∈ ds, sz x ≤ n) → All2 (Is h) ds its → All2 (Is h) es its → ds = es := by
        intro ds
        induction ds with
        | nil => intro es its _ h1 h2; cases h1; cases h2; rfl
        | cons x r ihr =>
          intro es its hs h1 h2
          cases h1 with
          | cons p q =>
            cases h2 with
            | cons p' q' => rw [ih (hs x List.mem_cons_self) p p', ihr _ _ (fun z hz => hs z (List.mem_cons_of_mem _ hz)) q q']
      have := key (x :: ds) es (v0 :: r) (fun z hz => by
        have := sz_mem hz
        have e2 : sz (ofL (x :: ds)) = sz (D.cons x (ofL ds)) := rfl
        omega) (.cons a1 al) al'
      rw [← this]
      rfl
theorem Is.inj {h : Heap} {d e : D} {v : Value} (h1 : Is h d v) (h2 : Is h e v) : d = e := is_inj (sz d) (Nat.le_refl _) h1 h2
theorem all_dec {ds es : List D} : ((List.range (min ds.length es.length)).all (fun j => decide (ds[j]? = es[j]?)) && (ds.length == es.length)) = decide (ofL ds = ofL es) := by
  by_cases e : ds = es
  · subst e
    simp
  · have ne : ofL ds ≠ ofL es := fun z => e (ofL_inj z)
    rw [decide_eq_false ne]
    by_cases hl : ds.length = es.length
    · rw [Bool.and_eq_false_iff]
      left
      rw [List.all_eq_false]
      refine Classical.byContradiction fun hx => e ?_
      apply List.ext_getElem?
      intro i
      by_cases hi : i < min ds.length es.length
      · refine Classical.byContradiction fun hne => hx ⟨i, List.mem_range.mpr hi, by simpa using hne⟩
      · rw [List.getElem?_eq_none (by omega), List.getElem?_eq_none (by omega)]
    · rw [Bool.and_eq_false_iff]
      right
      simpa using hl
theorem eqAt_n : ∀ (n : Nat) {d e : D} {v u : Value} {A : Around} {s : Shared}, sz d ≤ n → Is s.heap d v → Is s.heap e u → A.units + dep d < cLine → A.units + dep e < cLine → EqAt A s v u (decide (d = e)) := by
  intro n
  induction n using Nat.strongRecOn with
  | _ n ih =>
  intro d e v u A s hn h1 h2 r1 r2
  have tt : ∀ (ds es : List D), (∀ x ∈ ds, ∀ (y : D) (v u : Value), y ∈ es → Is s.heap x v → Is s.heap y u → EqAt A.in1 s v u (decide (x = y))) → Is s.heap (ofL ds) v → Is s.heap (ofL es) u → A.units < cLine → EqAt A s v u (decide (ofL ds = ofL es)) := by
    intro ds es ihm k1 k2 hu
    obtain ⟨a, its, rfl, t, al⟩ := is_tup.mp k1
    obtain ⟨a', its', rfl, t', al'⟩ := is_tup.mp k2
    by_cases hab : a = a'
    · subst hab
      have := k1.inj k2
      rw [this, decide_eq_true rfl]
      exact EqAt.same _
    · have l1 := al.length
      have l2 := al'.length
      have hR := RcAt.tuples (e := fun j => decide (ds[j]? = es[j]?)) t t' hu (fun j q1 q2 => by
        have q1' : j < its.length := by simpa using q1
        have q2' : j < its'.length := by simpa using q2
        have j1 : j < ds.length := by omega
        have j2 : j < es.length := by omega
        have := ihm ds[j] (List.getElem_mem j1) es[j] its[j] its'[j] (List.getElem_mem j2) (al.get j j1 q1') (al'.get j j2 q2')
        rw [List.getElem?_eq_getElem j1, List.getElem?_eq_getElem j2]
        simp only [Option.some.injEq]
        simpa using this)
      have e2 := all_dec (ds := ds) (es := es)
      simp only [List.size_toArray] at hR
      rw [← l1, ← l2, e2] at hR
      exact EqAt.of_refs hab hR
  have hu : A.units < cLine := by omega
  cases d with
  | non =>
    simp only [Is] at h1
    subst h1
    cases e with
    | non => simp only [Is] at h2; subst h2; rw [decide_eq_true rfl]; exact EqAt.same _
    | int j => simp only [Is] at h2; obtain ⟨t, rfl⟩ := h2; rw [decide_eq_false (by simp)]; exact EqAt.none_int _ _
    | str j => simp only [Is] at h2; obtain ⟨t, rfl⟩ := h2; rw [decide_eq_false (by simp)]; exact EqAt.none_str _ _
    | nil => simp only [Is] at h2; obtain ⟨b, rfl, t⟩ := h2; rw [decide_eq_false (by simp)]; exact EqAt.none_tuple t hu
    | cons x y => simp only [Is] at h2; obtain ⟨b, _, _, rfl, t, _⟩ := h2; rw [decide_eq_false (by simp)]; exact EqAt.none_tuple t hu
  | int i =>
    simp only [Is] at h1
    obtain ⟨t1, rfl⟩ := h1
    cases e with
    | non => simp only [Is] at h2; subst h2; rw [decide_eq_false (by simp)]; exact EqAt.int_none _ _
    | int j =>
      simp only [Is] at h2; obtain ⟨t, rfl⟩ := h2
      have : decide (D.int i = D.int j) = (i == j) := by
        by_cases z : i = j
        · subst z; simp
        · rw [decide_eq_false (fun q => z (D.int.inj q))]; exact (beq_eq_false_iff_ne.mpr z).symm
      rw [this]; exact EqAt.int_int _ _ _ _
    | str j => simp only [Is] at h2; obtain ⟨t, rfl⟩ := h2; rw [decide_eq_false (by simp)]; exact EqAt.int_str _ _ _ _
    | nil => simp only [Is] at h2; obtain ⟨b, rfl, t⟩ := h2; rw [decide_eq_false (by simp)]; exact EqAt.int_tuple _ _ t hu
    | cons x y => simp only [Is] at h2; obtain ⟨b, _, _, rfl, t, _⟩ := h2; rw [decide_eq_false (by simp)]; exact EqAt.int_tuple _ _ t hu
  | str i =>
    simp only [Is] at h1
    obtain ⟨t1, rfl⟩ := h1
    cases e with
    | non => simp only [Is] at h2; subst h2; rw [decide_eq_false (by simp)]; exact EqAt.str_none _ _
    | int j => simp only [Is] at h2; obtain ⟨t, rfl⟩ := h2; rw [decide_eq_false (by simp)]; exact EqAt.str_int _ _ _ _
    | str j =>
      simp only [Is] at h2; obtain ⟨t, rfl⟩ := h2
      have : decide (D.str i = D.str j) = (i == j) := by
        by_cases z : i = j
        · subst z; simp
        · rw [decide_eq_false (fun q => z (D.str.inj q))]; exact (beq_eq_false_iff_ne.mpr z).symm
      rw [this]; exact EqAt.str_str _ _ _ _
    | nil => simp only [Is] at h2; obtain ⟨b, rfl, t⟩ := h2; rw [decide_eq_false (by simp)]; exact EqAt.str_tuple _ _ t hu
    | cons x y => simp only [Is] at h2; obtain ⟨b, _, _, rfl, t, _⟩ := h2; rw [decide_eq_false (by simp)]; exact EqAt.str_tuple _ _ t hu
  | nil =>
    cases e with
    | non => simp only [Is] at h1 h2; obtain ⟨b, rfl, t⟩ := h1; subst h2; rw [decide_eq_false (by simp)]; exact EqAt.tuple_none t hu
    | int j => simp only [Is] at h1 h2; obtain ⟨b, rfl, t⟩ := h1; obtain ⟨t2, rfl⟩ := h2; rw [decide_eq_false (by simp)]; exact EqAt.tuple_int _ _ t hu
    | str j => simp only [Is] at h1 h2; obtain ⟨b, rfl, t⟩ := h1; obtain ⟨t2, rfl⟩ := h2; rw [decide_eq_false (by simp)]; exact EqAt.tuple_str _ _ t hu
    | nil => exact tt [] [] (fun x hx => absurd hx (by simp)) h1 h2 hu
    | cons x y =>
      obtain ⟨_, _, _, _, _, _, z2⟩ := (by simpa only [Is] using h2)
      obtain ⟨es, rfl, _⟩ := are_iff.mp z2
      exact tt [] (x :: es) (fun x hx => absurd hx (by simp)) h1 h2 hu
  | cons x y =>
    obtain ⟨_, _, _, _, _, _, z1⟩ := (by simpa only [Is] using h1)
    obtain ⟨ds, rfl, _⟩ := are_iff.mp z1
    cases e with
    | non => simp only [Is] at h1 h2; obtain ⟨b, _, _, rfl, t, _⟩ := h1; subst h2; rw [decide_eq_false (by simp)]; exact EqAt.tuple_none t hu
    | int j => simp only [Is] at h1 h2; obtain ⟨b, _, _, rfl, t, _⟩ := h1; obtain ⟨t2, rfl⟩ := h2; rw [decide_eq_false (by simp)]; exact EqAt.tuple_int _ _ t hu
    | str j => simp only [Is] at h1 h2; obtain ⟨b, _, _, rfl, t, _⟩ := h1; obtain ⟨t2, rfl⟩ := h2; rw [decide_eq_false (by simp)]; exact EqAt.tuple_str _ _ t hu
    | nil => exact tt (x :: ds) [] (fun x _ y _ _ hy => absurd hy (by simp)) h1 h2 hu
    | cons x' y' =>
      obtain ⟨_, _, _, _, _, _, z2⟩ := (by simpa only [Is] using h2)
      obtain ⟨es, rfl, _⟩ := are_iff.mp z2
      refine tt (x :: ds) (x' :: es) (fun w hw w' v u hw' k1 k2 => ?_) h1 h2 hu
      have s1 := sz_mem hw
      have s2 : sz (ofL (x :: ds)) = sz (D.cons x (ofL ds)) := rfl
      have d1 := dep_mem hw
      have d2 := dep_mem hw'
      have e1 : dep (ofL (x :: ds)) = dep (D.cons x (ofL ds)) := rfl
      have e2 : dep (ofL (x' :: es)) = dep (D.cons x' (ofL es)) := rfl
      have eu : A.in1.units = A.units + 1 := rfl
      exact ih (sz w) (by omega) (Nat.le_refl _) k1 k2 (by omega) (by omega)
theorem eqAt {d e : D} {v u : Value} {A : Around} {s : Shared} (h1 : Is s.heap d v) (h2 : Is s.heap e u) (r1 : A.units + dep d < cLine) (r2 : A.units + dep e < cLine) : EqAt A s v u (decide (d = e)) := eqAt_n (sz d) (Nat.le_refl _) h1 h2 r1 r2
end DD
namespace DD
open PySem PySem.SeqAt
def pure_ : D → Bool
  | .non => false
  | .cons x y => pure_ x && pure_ y
  | _ => true
theorem pure_mem : ∀ {ds : List D} {x : D}, pure_ (ofL ds) = true → x ∈ ds → pure_ x = true
  | y :: r, x, h, hx => by
    have h' : (pure_ y && pure_ (ofL r)) = true := h
    obtain ⟨h1, h2⟩ := Bool.and_eq_true_iff.mp h'
    rcases List.mem_cons.mp hx with rfl | hx
    · exact h1
    · exact pure_mem h2 hx
def hashL (f : D → Int) : D → List Int
  | .cons x y => f x :: hashL f y
  | _ => []
def hashesN (w : World) : Nat → D → Int
  | _, .int i => hashInt i
  | _, .str x => hashStr w x
  | 0, _ => 0
  | n + 1, d => reduceHash (Builtin.Tuple.tupleHashOf (hashL (hashesN w n) d))
theorem hashL_ofL (f : D → Int) : ∀ ds : List D, hashL f (ofL ds) = ds.map f
  | [] => rfl
  | x :: r => congrArg (f x :: ·) (hashL_ofL f r)
def draws : D → Nat
  | .cons x y => draws x + draws y
  | _ => 1
theorem draws_ofL : ∀ ds : List D, draws (ofL ds) = (ds.map draws).sum + 1
  | [] => rfl
  | x :: r => by
    show draws x + draws (ofL r) = _
    rw [draws_ofL r, List.map_cons, List.sum_cons]
    omega
section
variable {prog : Program} {E : Value → Shared → Prop} {w : World}
theorem hash_loop {n : Nat} {A : Around} (one : ∀ (d : D) (v : Value) (s : Shared) (Q : Int → Shared → Prop), dep d ≤ n → pure_ d = true → Is s.heap d v → A.units + dep d < cLine → Q (hashesN w n d) { s with toks := s.toks + draws d } → wpAny (model prog w) A (pyHash v) Q E s) :
    ∀ (l : List D) (r : List Value) (acc : Array Int) (s : Shared) (Q : Array Int → Shared → Prop), All2 (Is s.heap) l r → (∀ d ∈ l, dep d ≤ n ∧ pure_ d = true ∧ A.units + dep d < cLine) →
      (∀ out : Array Int, out.toList = acc.toList ++ l.map (hashesN w n) → Q out { s with toks := s.toks + (l.map draws).sum }) →
      wpAny (model prog w) A (forIn r acc fun x hs => do let h ← pyHash x; pure (ForInStep.yield (hs.push h))) Q E s
  | _, _, acc, s, Q, .nil, _, q => by
    rw [List.forIn_nil]
    exact wpAny_pure (q acc (by simp))
  | d :: l, v :: r, acc, s, Q, .cons h1 h2, k, q => by
    rw [List.forIn_cons]
    obtain ⟨k1, k2, k3⟩ := k d List.mem_cons_self
    refine wpAny_bind (wpAny_bind (one d v s _ k1 k2 h1 k3 (wpAny_pure ?_)))
    refine hash_loop one l r (acc.push (hashesN w n d)) { s with toks := s.toks + draws d } Q h2 (fun z hz => k z (List.mem_cons_of_mem _ hz)) fun out e => ?_
    have := q out (by rw [e]; simp)
    simpa [Nat.add_assoc] using this
theorem hash_n : ∀ (n : Nat) {d : D} {v : Value} {A : Around} {s : Shared} {Q : Int → Shared → Prop}, dep d ≤ n → pure_ d = true → Is s.heap d v → A.units + dep d < cLine → Q (hashesN w n d) { s with toks := s.toks + draws d } →
    wpAny (model prog w) A (pyHash v) Q E s := by
  intro n
  induction n with
  | zero =>
    intro d v A s Q hn hp h hu q
    cases d with
    | non => cases hp
    | int i => simp only [Is] at h; obtain ⟨t, rfl⟩ := h; exact wpAny_pyHash_int q
    | str i => simp only [Is] at h; obtain ⟨t, rfl⟩ := h; exact wpAny_pyHash_str q
    | nil => exact absurd hn (by decide)
    | cons x y => exact absurd hn (by show ¬ max (dep x + 1) (dep y) ≤ 0; omega)
  | succ n ih =>
    intro d v A s Q hn hp h hu q
    have tup : ∀ ds : List D, d = ofL ds → wpAny (model prog w) A (pyHash v) Q E s := by
      intro ds e
      subst e
      have e1 : hashesN w (n + 1) (ofL ds) = reduceHash (Builtin.Tuple.tupleHashOf (ds.map (hashesN w n))) := by
        rw [← hashL_ofL]
        cases ds <;> rfl
      rw [draws_ofL, e1] at q
      obtain ⟨a, its, rfl, ⟨o, ho, hc, k, hd⟩, al⟩ := is_tup.mp h
      refine PySem.W.pyHash_slot (T := "tuple") ⟨o, ho, hc⟩ F.slot_tuple_hash F.entry_tuple_hash (F.args_tuple_hash_1 _) (beq_builtin_none _) (.inr (by omega)) (wpAny_bind (wpAny_pure (wpAny_bind (wpAny_tupleItemsOf ho hd (wpAny_bind ?_)))))
      rw [← Array.forIn_toList]
      refine hash_loop (n := n) (fun d v s Q k1 k2 k3 k4 k5 => ih k1 k2 k3 k4 k5) ds its #[] s _ al (fun z hz => ?_) fun out e => ?_
      · have d1 := dep_mem hz
        exact ⟨by omega, pure_mem hp hz, by show A.units + 1 + dep z < cLine; omega⟩
      · have e2 : out.toList = ds.map (hashesN w n) := by simpa using e
        show wpAny _ _ (retInt (Builtin.Tuple.tupleHashOf out.toList)) _ _ _
        rw [e2]
        exact wpAny_bind (wpAny_mkInt (wpAny_pure ⟨_, _, rfl, by simpa [Nat.add_assoc] using q⟩))
    cases d with
    | non => cases hp
    | int i => simp only [Is] at h; obtain ⟨t, rfl⟩ := h; exact wpAny_pyHash_int q
    | str i => simp only [Is] at h; obtain ⟨t, rfl⟩ := h; exact wpAny_pyHash_str q
    | nil => exact tup [] rfl
    | cons x y =>
      obtain ⟨_, _, _, _, _, _, z1⟩ := (by simpa only [Is] using h)
      obtain ⟨ds, rfl, _⟩ := are_iff.mp z1
      exact tup (x :: ds) rfl
theorem quiet_loop {n : Nat} {A : Around} {s : Shared} : ∀ (r : List Value) (Q : Option Bool × PUnit → Shared → Prop), (∀ v ∈ r, ∀ Q' : Bool → Shared → Prop, Q' true s → wpAny (model prog w) A (eqIsQuiet n v) Q' E s) → Q (none, ⟨⟩) s →
      wpAny (model prog w) A (forIn r (none, ⟨⟩) fun y _ => do let b ← eqIsQuiet n y; if (!b) = true then pure (ForInStep.done (some false, PUnit.unit)) else pure (ForInStep.yield (none, PUnit.unit))) Q E s
  | [], Q, _, q => by
    rw [List.forIn_nil]
    exact wpAny_pure q
  | v :: r, Q, k, q => by
    rw [List.forIn_cons]
    exact wpAny_bind (wpAny_bind (k v List.mem_cons_self _ (wpAny_pure (quiet_loop r Q (fun u hu => k u (List.mem_cons_of_mem _ hu)) q))))
theorem quiet_n : ∀ (n : Nat) {d : D} {v : Value} {A : Around} {s : Shared} {Q : Bool → Shared → Prop}, dep d ≤ n → Is s.heap d v → Q true s → wpAny (model prog w) A (eqIsQuiet n v) Q E s := by
  intro n
  have flat : ∀ {n : Nat} {d : D} {v : Value} {A : Around} {s : Shared} {Q : Bool → Shared → Prop}, (d = .non ∨ (∃ i, d = .int i) ∨ ∃ x, d = .str x) → Is s.heap d v → Q true s → wpAny (model prog w) A (eqIsQuiet n v) Q E s := by
    intro n d v A s Q k h q
    have c : carriedByValue v = true := by
      rcases k with rfl | ⟨i, rfl⟩ | ⟨x, rfl⟩
      · rw [show v = .none by simpa only [Is] using h]; rfl
      · obtain ⟨t, rfl⟩ := (show ∃ t, v = .int i t by simpa only [Is] using h); rfl
      · obtain ⟨t, rfl⟩ := (show ∃ t, v = .str x t by simpa only [Is] using h); rfl
    rw [eqIsQuiet_byValue n c]
    exact wpAny_pure q
  induction n with
  | zero =>
    intro d v A s Q hn h q
    cases d with
    | non => exact flat (.inl rfl) h q
    | int i => exact flat (.inr (.inl ⟨i, rfl⟩)) h q
    | str i => exact flat (.inr (.inr ⟨i, rfl⟩)) h q
    | nil => exact absurd hn (by decide)
    | cons x y => exact absurd hn (by show ¬ max (dep x + 1) (dep y) ≤ 0; omega)
  | succ n ih =>
    intro d v A s Q hn h q
    have tup : ∀ ds : List D, d = ofL ds → wpAny (model prog w) A (eqIsQuiet (n + 1) v) Q E s := by
      intro ds e
      subst e
      obtain ⟨a, its, rfl, ⟨o, ho, hc, k, hd⟩, al⟩ := is_tup.mp h
      have ty : s.TypeIs (.ref a) "tuple" := ⟨o, ho, hc⟩
      unfold eqIsQuiet
      refine wpAny_bind (wpAny_specialOf ty F.slot_tuple_eq.lookup (wpAny_bind (wpAny_isInstance ty isSubtype_tuple_tuple ?_)))
      rw [if_neg (by decide)]
      refine wpAny_bind (wpAny_seqItems ho hd (wpAny_bind ?_))
      show wpAny _ _ (forIn its.toArray _ _) _ _ s
      rw [← Array.forIn_toList]
      refine quiet_loop its _ (fun u hu Q' q' => ?_) (wpAny_pure q)
      obtain ⟨i, hi⟩ := List.mem_iff_getElem.mp hu
      obtain ⟨h1, rfl⟩ := hi
      have h2 : i < ds.length := by rw [al.length]; exact h1
      have d1 := dep_mem (List.getElem_mem h2)
      exact ih (by omega) (al.get i h2 h1) q'
    cases d with
    | non => exact flat (.inl rfl) h q
    | int i => exact flat (.inr (.inl ⟨i, rfl⟩)) h q
    | str i => exact flat (.inr (.inr ⟨i, rfl⟩)) h q
    | nil => exact tup [] rfl
    | cons x y =>
      obtain ⟨_, _, _, _, _, _, z1⟩ := (by simpa only [Is] using h)
      obtain ⟨ds, rfl, _⟩ := are_iff.mp z1
      exact tup (x :: ds) rfl
end
theorem is_mono {h h' : Heap} (k : ∀ a its, h.IsTuple a its → h'.IsTuple a its) : ∀ (n : Nat) {d : D} {v : Value}, sz d ≤ n → Is h d v → Is h' d v := by
  intro n
  induction n using Nat.strongRecOn with
  | _ n ih =>
  intro d v hn z
  cases d with
  | non => simpa only [Is] using z
  | int i => simpa only [Is] using z
  | str x => simpa only [Is] using z
  | nil =>
    simp only [Is] at z ⊢
    obtain ⟨a, e, t⟩ := z
    exact ⟨a, e, k _ _ t⟩
  | cons x y =>
    obtain ⟨_, _, _, _, _, _, z1⟩ := (by simpa only [Is] using z)
    obtain ⟨ds, rfl, _⟩ := are_iff.mp z1
    obtain ⟨a, its, rfl, t, al⟩ := (is_tup (ds := x :: ds)).mp z
    refine (is_tup (ds := x :: ds)).mpr ⟨a, its, rfl, k _ _ t, ?_⟩
    have s2 : sz (ofL (x :: ds)) = sz (D.cons x (ofL ds)) := rfl
    have go : ∀ (l : List D) (r : List Value), (∀ y ∈ l, y ∈ x :: ds) → All2 (Is h) l r → All2 (Is h') l r := by
      intro l
      induction l with
      | nil => intro r _ q; cases q; exact .nil
      | cons y l ihl =>
        intro r hm q
        cases q with
        | cons q1 q2 =>
          have := sz_mem (hm y List.mem_cons_self)
          exact .cons (ih (sz y) (by omega) (Nat.le_refl _) q1) (ihl _ (fun z hz => hm z (List.mem_cons_of_mem _ hz)) q2)
    exact go _ _ (fun _ hy => hy) al
theorem Is.mono {h h' : Heap} {d : D} {v : Value} (z : Is h d v) (k : ∀ a its, h.IsTuple a its → h'.IsTuple a its) : Is h' d v := is_mono k (sz d) (Nat.le_refl _) z
def dataKind (prog : Program) (w : World) : HeapKind prog w D where
  is := fun h d a => Is h d (.ref a) ∧ pure_ d = true ∧ dep d ≤ 8
  hash := fun d => hashesN w 8 d
  draws := draws
  room := fun A => A.units + 8 < cLine
  inj := fun hx hy => hx.1.inj hy.1
  keeps := fun {h h' k a d o es ep} x ho hd hs => ⟨x.1.mono fun b its t => by
    obtain ⟨o', e, c, n, dd⟩ := t
    have ne : b ≠ d := by
      rintro rfl
      rw [ho] at e; cases e
      rw [hd] at dd; cases dd
    exact ⟨o', (hs.2 b ne).trans e, c, n, dd⟩, x.2⟩
  pyHash := fun hu hk h => hash_n 8 hk.2.2 hk.2.1 hk.1 (Nat.lt_of_le_of_lt (Nat.add_le_add_left hk.2.2 _) hu) h
  eqBool := fun hu hx hy h => eqAt hx.1 hy.1 (Nat.lt_of_le_of_lt (Nat.add_le_add_left hx.2.2 _) hu) (Nat.lt_of_le_of_lt (Nat.add_le_add_left hy.2.2 _) hu) _ _ _ _ h
  quiet := fun hk h => quiet_n 8 hk.2.2 hk.1 h
end DD
namespace DD
open PySem PySem.SeqAt
open PySem.AutoSeq1 (wpAny_loadPart')
open PySem.MeetsSeq PySem.MeetsSeq2 PySem.MeetsSeq3
def lt : D → D → Bool
  | .int a, .int b => decide (a < b)
  | .str a, .str b => decide (a.cps.toList < b.cps.toList)
  | .nil, .cons _ _ => true
  | .cons x xs, .cons y ys => if x = y then lt xs ys else lt x y
  | _, _ => false
def cm : D → D → Bool
  | .int _, .int _ => true
  | .str _, .str _ => true
  | .nil, .nil => true
  | .nil, .cons _ _ => true
  | .cons _ _, .nil => true
  | .cons x xs, .cons y ys => if x = y then cm xs ys else cm x y
  | _, _ => false
theorem lt_cons (x xs y ys : D) : lt (.cons x xs) (.cons y ys) = if x = y then lt xs ys else lt x y := rfl
theorem lt_irrefl : ∀ d : D, lt d d = false
  | .non => rfl
  | .int i => by simp [lt]
  | .str x => by simp [lt, List.lt_irrefl]
  | .nil => rfl
  | .cons x y => by rw [lt_cons, if_pos rfl]; exact lt_irrefl y
def RcLt (A : Around) (s : Shared) (y x : Value) (b : Bool) : Prop :=
  ∀ (prog : Program) (w : World) (E : Value → Shared → Prop) (Q : Value → Shared → Prop), Q (.bool b) s → wpAny (model prog w) A (richCompare .Lt y x) Q E s
def rLt (d e : D) : Bool := lt d e
theorem tuple_LtAt (l b : Addr) (items items2 : List Value) (n n2 : Nat) (dd dd2 : Option Addr) (sl sl2 : Array (Option Value)) (ds es : List D) :
    Meets (Builtin.«tuple.__lt__» ⟨[.ref l, .ref b], []⟩)
      (fun A R s => s.heap.get? l = some { cls := .type "tuple", dict := dd, data := .seq items.toArray n, slots := sl } ∧ s.heap.get? b = some { cls := .type "tuple", dict := dd2, data := .seq items2.toArray n2, slots := sl2 } ∧
        All2 (Is s.heap) ds items ∧ All2 (Is s.heap) es items2 ∧ (∀ x ∈ ds, ∀ y ∈ es, ∀ v u, Is s.heap x v → Is s.heap y u → EqAt A.in1 s v u (decide (x = y)) ∧ (cm x y = true → x ≠ y → RcLt A.in1 s v u (rLt x y))) ∧
        cm (ofL ds) (ofL es) = true ∧ R (.ok (.ret (.bool (rLt (ofL ds) (ofL es))))) s) :=
  .of_wp fun prog w A R s h => by
    obtain ⟨hp, g, d, tk, os⟩ := s; obtain ⟨hl, hb, h1, h2, he, hc, h⟩ := h
    have f2 := AutoSeq1.sub_tuple_tuple
    have z1 := h1.length
    have z2 := h2.length
    wp_walk using wpAny_loadPart' hl, wpAny_loadPart' hb, wpAny_forIn_list _ (fun rest b s' => b.1 = none ∧ s' = ⟨hp, g, d, tk, os⟩ ∧ ∃ (vs ws : List Value) (xs ys : List D), rest = vs.zip ws ∧
      All2 (Is hp) xs vs ∧ All2 (Is hp) ys ws ∧ (∀ x ∈ xs, x ∈ ds) ∧ (∀ y ∈ ys, y ∈ es) ∧ xs.length + items2.length = ys.length + items.length ∧ cm (ofL xs) (ofL ys) = true ∧ rLt (ofL xs) (ofL ys) = rLt (ofL ds) (ofL es)) _
    case turn =>
      rintro ⟨y, x⟩ rest b s' ⟨hb', rfl, vs, ws, xs, ys, hz, hvi, hwi, m1, m2, hlen, hcm, hR⟩
      cases hvi with
      | nil => rw [List.zip_nil_left] at hz; cases hz
      | @cons a v xs' vs' q1 hvi' =>
        cases hwi with
        | nil => rw [List.zip_nil_right] at hz; cases hz
        | @cons c u ys' ws' q2 hwi' =>
          rw [List.zip_cons_cons] at hz
          injection hz with hyx hrest
          injection hyx with hy hx
          subst hy hx
          simp only [List.length_cons] at hlen
          obtain ⟨k1, k2⟩ := he a (m1 a List.mem_cons_self) c (m2 c List.mem_cons_self) _ _ q1 q2
          refine wpAny_bind (k1 prog w _ _ ?_)
          have hcm' : (if a = c then cm (ofL xs') (ofL ys') else cm a c) = true := hcm
          by_cases e : a = c
          · rw [decide_eq_true e]
            rw [if_pos e] at hcm'
            have hR' : rLt (ofL xs') (ofL ys') = rLt (ofL ds) (ofL es) := by
              rw [← hR]
              show rLt _ _ = rLt (.cons a (ofL xs')) (.cons c (ofL ys'))
              unfold rLt
              rw [lt_cons, if_pos e]
            wp_walk
            exact ⟨rfl, rfl, _, _, _, _, hrest, hvi', hwi', fun x hx => m1 x (List.mem_cons_of_mem _ hx), fun x hx => m2 x (List.mem_cons_of_mem _ hx), by omega, hcm', hR'⟩
          · rw [decide_eq_false e]
            rw [if_neg e] at hcm'
            have hR' : rLt a c = rLt (ofL ds) (ofL es) := by
              rw [← hR]
              show rLt _ _ = rLt (.cons a (ofL xs')) (.cons c (ofL ys'))
              unfold rLt
              rw [lt_cons, if_neg e]
            have hri := k2 hcm' e prog w
            rw [hR'] at hri
            wp_walk using hri
            exact ⟨_, rfl, by simpa using h⟩
    case fin =>
      rintro ⟨b1, b2⟩ s' ⟨hb', rfl, vs, ws, xs, ys, hz, hvi, hwi, m1, m2, hlen, hcm, hR⟩
      simp only at hb'
      subst hb'
      have hv : rLt (ofL xs) (ofL ys) = decide (items.length < items2.length) := by
        cases hvi with
        | nil =>
          cases hwi with
          | nil =>
            simp only [List.length_nil] at hlen
            show false = _
            exact (decide_eq_false (by omega)).symm
          | cons q2 hw =>
            simp only [List.length_nil, List.length_cons] at hlen
            show true = _
            exact (decide_eq_true (by omega)).symm
        | cons q1 hv =>
          cases hwi with
          | nil =>
            simp only [List.length_nil, List.length_cons] at hlen
            show false = _
            exact (decide_eq_false (by omega)).symm
          | cons q2 hw =>
            rw [List.zip_cons_cons] at hz
            cases hz
      rw [← hR, hv] at h
      wp_walk
      exact ⟨_, rfl, by simpa [Builtin.Tuple.tupleCompareSizes] using h⟩
    case h =>
      exact ⟨rfl, rfl, items, items2, ds, es, rfl, h1, h2, fun _ hx => hx, fun _ hx => hx, by omega, hc, rfl⟩
theorem rcLt_n : ∀ (n : Nat) {d e : D} {v u : Value} {A : Around} {s : Shared}, sz d ≤ n → Is s.heap d v → Is s.heap e u → cm d e = true → A.units + dep d < cLine → A.units + dep e < cLine → RcLt A s v u (rLt d e) := by
  intro n
  induction n using Nat.strongRecOn with
  | _ n ih =>
  intro d e v u A s hn h1 h2 hc u1 u2
  have tt : ∀ ds es : List D, d = ofL ds → e = ofL es → RcLt A s v u (rLt d e) := by
    intro ds es e1 e2
    subst e1 e2
    have d0 := dep_tup ds
    obtain ⟨a, its, rfl, t, al⟩ := is_tup.mp h1
    obtain ⟨a', its', rfl, t', al'⟩ := is_tup.mp h2
    intro prog w E Q h
    obtain ⟨⟨cls, dd, data, sl⟩, ho, hcl, n, hd⟩ := id t
    obtain ⟨⟨cls2, dd2, data2, sl2⟩, ho2, hc2, n2, hd2⟩ := id t'
    simp only at hcl hd hc2 hd2
    subst hcl hd hc2 hd2
    have eu : A.in1.units = A.units + 1 := rfl
    refine richCompare_meets_room (op := .Lt) ⟨_, ho, rfl⟩ ⟨_, ho2, rfl⟩ F.slot_tuple_lt F.entry_tuple_lt (F.args_tuple_lt_2 _ _) (tuple_LtAt a a' its its' n n2 dd dd2 sl sl2 ds es)
      ⟨ho, ho2, al, al', fun x hx y hy v u q1 q2 => ⟨?_, fun c1 _ => ?_⟩, hc, show Value.bool (rLt (ofL ds) (ofL es)) ≠ Value.notImplemented ∧ Q (.bool (rLt (ofL ds) (ofL es))) s from ⟨(fun x => nomatch x), h⟩⟩ (by omega)
    · have m1 := dep_mem hx
      have m2 := dep_mem hy
      exact eqAt q1 q2 (by omega) (by omega)
    · have m1 := dep_mem hx
      have m2 := dep_mem hy
      have m3 := sz_mem hx
      exact ih (sz x) (by omega) (Nat.le_refl _) q1 q2 c1 (by omega) (by omega)
  have go : ∀ {z : D} {v : Value}, Is s.heap z v → (∃ x y, z = .cons x y) ∨ z = .nil → ∃ ds, z = ofL ds := by
    intro z v hz k
    rcases k with ⟨x, y, rfl⟩ | rfl
    · obtain ⟨_, _, _, _, _, _, z1⟩ := (by simpa only [Is] using hz)
      obtain ⟨ds, rfl, _⟩ := are_iff.mp z1
      exact ⟨x :: ds, rfl⟩
    · exact ⟨[], rfl⟩
  cases d with
  | non => cases e <;> cases hc
  | int i =>
    cases e with
    | int j =>
      simp only [Is] at h1 h2
      obtain ⟨t, rfl⟩ := h1
      obtain ⟨t', rfl⟩ := h2
      intro prog w E Q h
      exact PyProof.Rows.lt_int h
    | _ => cases hc
  | str i =>
    cases e with
    | str j =>
      simp only [Is] at h1 h2
      obtain ⟨t, rfl⟩ := h1
      obtain ⟨t', rfl⟩ := h2
      intro prog w E Q h
      exact PyProof.Rows.lt_str (by simpa only [rLt, lt] using h)
    | _ => cases hc
  | nil =>
    cases e with
    | nil => exact tt [] [] rfl rfl
    | cons x y =>
      obtain ⟨es, e2⟩ := go h2 (.inl ⟨x, y, rfl⟩)
      exact tt [] es rfl e2
    | _ => cases hc
  | cons x y =>
    obtain ⟨ds, e1⟩ := go h1 (.inl ⟨x, y, rfl⟩)
    cases e with
    | nil => exact tt ds [] e1 rfl
    | cons x' y' =>
      obtain ⟨es, e2⟩ := go h2 (.inl ⟨x', y', rfl⟩)
      exact tt ds es e1 e2
    | _ => cases hc
theorem rcLt {d e : D} {v u : Value} {A : Around} {s : Shared} (h1 : Is s.heap d v) (h2 : Is s.heap e u) (hc : cm d e = true) (u1 : A.units + dep d < cLine) (u2 : A.units + dep e < cLine) : RcLt A s v u (rLt d e) := rcLt_n (sz d) (Nat.le_refl _) h1 h2 hc u1 u2
end DD
namespace L2
open PySem PySem.Spec PyProof.Rows DD
abbrev Key := Sum Int Str
def keyIs : Key → Value → Bool
  | .inl k, v => Value.isInt k v
  | .inr x, v => Value.isStrOf x v
def keyH (w : World) : Key → Int
  | .inl k => hashInt k
  | .inr x => hashStr w x
theorem keyIs_shape : ∀ {k : Key} {v : Value}, keyIs k v = true → (∃ i t, k = Sum.inl i ∧ v = Value.int i t) ∨ (∃ x t, k = Sum.inr x ∧ v = Value.str x t)
  | .inl i, v, h => by
    obtain ⟨t, e⟩ := Value.isInt_shape (k := i) (v := v) h
    exact .inl ⟨i, t, rfl, e⟩
  | .inr x, v, h => by
    obtain ⟨t, e⟩ := Value.isStrOf_shape (x := x) (v := v) h
    exact .inr ⟨x, t, rfl, e⟩
theorem key_ll (a b : Int) : decide ((Sum.inl a : Key) = Sum.inl b) = (a == b) := by
  by_cases e : a = b
  · subst e; simp
  · have h : ¬ (Sum.inl a : Key) = Sum.inl b := fun q => e (Sum.inl.inj q)
    rw [decide_eq_false h]
    exact (beq_eq_false_iff_ne.mpr e).symm
theorem key_rr (a b : Str) : decide ((Sum.inr a : Key) = Sum.inr b) = decide (a = b) := by
  by_cases e : a = b
  · subst e; simp
  · have h : ¬ (Sum.inr a : Key) = Sum.inr b := fun q => e (Sum.inr.inj q)
    rw [decide_eq_false h, decide_eq_false e]
theorem key_lr (a : Int) (b : Str) : decide ((Sum.inl a : Key) = Sum.inr b) = false := decide_eq_false (fun q => nomatch q)
theorem key_rl (a : Str) (b : Int) : decide ((Sum.inr a : Key) = Sum.inl b) = false := decide_eq_false (fun q => nomatch q)
def mixKind (prog : Program) (w : World) : PySem.KeyKind prog w Key where
  is := keyIs
  hash := keyH w
  inj := fun v a b ha hb => by
    rcases keyIs_shape ha with ⟨i, t, rfl, rfl⟩ | ⟨x, t, rfl, rfl⟩
    · rcases keyIs_shape hb with ⟨j, u, rfl, e⟩ | ⟨y, u, rfl, e⟩
      · injection e with e1 _; rw [e1]
      · exact nomatch e
    · rcases keyIs_shape hb with ⟨j, u, rfl, e⟩ | ⟨y, u, rfl, e⟩
      · exact nomatch e
      · injection e with e1 _; rw [e1]
  byValue := fun k v h => by
    rcases keyIs_shape h with ⟨i, t, rfl, rfl⟩ | ⟨x, t, rfl, rfl⟩ <;> rfl
  pyHash := fun hv h => by
    rcases keyIs_shape hv with ⟨i, t, rfl, rfl⟩ | ⟨x, t, rfl, rfl⟩
    · exact wpAny_pyHash_int h
    · exact wpAny_pyHash_str h
  eqBool := fun hu hv h => by
    rcases keyIs_shape hu with ⟨i, t, rfl, rfl⟩ | ⟨x, t, rfl, rfl⟩
    · rcases keyIs_shape hv with ⟨j, u, rfl, rfl⟩ | ⟨y, u, rfl, rfl⟩
      · rw [key_ll] at h; exact wpAny_eqBool_int h
      · rw [key_lr] at h; exact SeqAt.EqAt.int_str i t y u _ _ _ _ h
    · rcases keyIs_shape hv with ⟨j, u, rfl, rfl⟩ | ⟨y, u, rfl, rfl⟩
      · rw [key_rl] at h; exact SeqAt.EqAt.str_int x t j u _ _ _ _ h
      · rw [key_rr] at h; exact wpAny_eqBool_str h
  «strs» := fun k x t v h => by
    rcases keyIs_shape h with ⟨i, u, rfl, e⟩ | ⟨y, u, rfl, e⟩
    · exact nomatch e
    · injection e with e1 _
      subst e1
      cases v <;> rfl
end L2
namespace L2
open PySem PySem.Spec PyProof.Rows DD
inductive V where
  | non | bl (b : Bool) | int (i : Int) | str (x : Str) | byt (b : Array UInt8) | flt (b : UInt64) | ref (a : Addr) | ty (n : String)
  deriving DecidableEq
def RelV : V → Value → Prop
  | .non, u => u = Value.none
  | .bl b, u => u = Value.bool b
  | .int i, u => ∃ t, u = Value.int i t
  | .str x, u => ∃ t, u = Value.str x t
  | .byt b, u => ∃ t, u = Value.bytes b t
  | .flt b, u => ∃ t, u = Value.float b t
  | .ref a, u => u = Value.ref a
  | .ty n, u => u = Value.type n
abbrev Vals : List V → List Value → Prop := Paired RelV
theorem Vals.length {xs : List V} {us : List Value} (r : Vals xs us) : xs.length = us.length := Paired.length r
theorem Vals.get : ∀ {xs : List V} {us : List Value} {i : Nat} {x : V}, Vals xs us → xs[i]? = some x → ∃ u, us[i]? = some u ∧ RelV x u
  | _, _, _, _, .nil, e => by simp at e
  | _, _, 0, _, .cons r _, e => by simp at e; subst e; exact ⟨_, rfl, r⟩
  | _, _, i + 1, x, .cons _ t, e => by
    obtain ⟨u, h1, h2⟩ := Vals.get (i := i) (x := x) t (by simpa using e)
    exact ⟨u, by simpa using h1, h2⟩
theorem Vals.set {x : V} {u : Value} (r : RelV x u) : ∀ {xs : List V} {us : List Value} (i : Nat), Vals xs us → Vals (xs.set i x) (us.set i u)
  | _, _, _, .nil => .nil
  | _, _, 0, .cons _ t => .cons r t
  | _, _, i + 1, .cons q t => .cons q (Vals.set r i t)
theorem Vals.append : ∀ {xs ys : List V} {us ws : List Value}, Vals xs us → Vals ys ws → Vals (xs ++ ys) (us ++ ws)
  | _, _, _, _, .nil, s => s
  | _, _, _, _, .cons r t, s => .cons r (Vals.append t s)
theorem Vals.take : ∀ {xs : List V} {us : List Value} (n : Nat), Vals xs us → Vals (xs.take n) (us.take n)
  | _, _, 0, _ => .nil
  | _, _, _ + 1, .nil => .nil
  | _, _, n + 1, .cons r t => .cons r (Vals.take n t)
theorem Vals.drop : ∀ {xs : List V} {us : List Value} (n : Nat), Vals xs us → Vals (xs.drop n) (us.drop n)
  | _, _, 0, r => r
  | _, _, _ + 1, .nil => .nil
  | _, _, n + 1, .cons _ t => Vals.drop n t
def RelO : Option V → Option Value → Prop
  | some v, some u => RelV v u
  | none, none => True
  | _, _ => False
def KV {κ : Type} : List (κ × V) → List (κ × Value) → Prop := Paired fun (p : κ × V) (q : κ × Value) => p.1 = q.1 ∧ RelV p.2 q.2
def kV : Key → V
  | .inl i => .int i
  | .inr x => .str x
inductive HO where
  | lst (xs : List V)
  | tup (xs : List V)
  | dK (kvs : List (Key × V)) | dT (kvs : List (D × V))
  | set (S : Int → Bool) (n : Nat)
  | ins (C dx : Addr) (fs : List (Str × V))
  | own (x : Addr)
  | xd (fs : List (Str × V))
  | met (f x : Addr)
  | rng (lo hi : Int)
  | frz (o : Obj) (u : HO)
  | tbl (ps : Array Value)
  | ext (φ : Heap → Prop)
abbrev Hp := Addr → Option HO
def upd (H : Hp) (a : Addr) (o : HO) : Hp := fun b => if b = a then some o else H b
theorem upd_same {H : Hp} {a : Addr} {o : HO} : upd H a o a = some o := by unfold upd; rw [if_pos rfl]
theorem upd_ne {H : Hp} {a b : Addr} {o : HO} (h : b ≠ a) : upd H a o b = H b := by unfold upd; rw [if_neg h]
def IsTp (h : Heap) (a : Addr) (items : Array Value) : Prop := ∃ o, h.get? a = some o ∧ o.cls = .type "tuple" ∧ ∃ n, o.data = .seq items n ∧ o.dict = none
theorem IsTp.tup {h : Heap} {a : Addr} {items : Array Value} (x : IsTp h a items) : IsTup h a items := let ⟨o, e, c, n, d, _⟩ := x; ⟨o, e, c, n, d⟩
theorem IsTp.lt {h : Heap} {a : Addr} {items : Array Value} (x : IsTp h a items) : a < h.objs.size := let ⟨_, e, _⟩ := x; Heap.lt_size e
theorem IsTp.new (h : Heap) (items : Array Value) : IsTp (h.push { cls := .type "tuple", data := .seq items }) h.objs.size items := ⟨_, Heap.get?_push_size _ rfl, rfl, _, rfl, rfl⟩
mutual
def DV (H : Hp) : D → V → Prop
  | .non, v => v = .non
  | .int i, v => v = .int i
  | .str x, v => v = .str x
  | .nil, v => ∃ a, v = .ref a ∧ H a = some (.tup [])
  | .cons x y, v => ∃ a v0 r, v = .ref a ∧ H a = some (.tup (v0 :: r)) ∧ DV H x v0 ∧ DVs H y r
def DVs (H : Hp) : D → List V → Prop
  | .nil, r => r = []
  | .cons x y, r => ∃ v0 r', r = v0 :: r' ∧ DV H x v0 ∧ DVs H y r'
  | _, _ => False
end
theorem dvs_iff {H : Hp} : ∀ {d : D} {vs : List V}, DVs H d vs ↔ ∃ ds, d = ofL ds ∧ All2 (DV H) ds vs
  | .non, vs => ⟨fun z => by simp [DVs] at z, fun ⟨ds, e, _⟩ => by cases ds <;> cases e⟩
  | .int i, vs => ⟨fun z => by simp [DVs] at z, fun ⟨ds, e, _⟩ => by cases ds <;> cases e⟩
  | .str i, vs => ⟨fun z => by simp [DVs] at z, fun ⟨ds, e, _⟩ => by cases ds <;> cases e⟩
  | .nil, vs => by
    constructor
    · intro z
      simp only [DVs] at z
      subst z
      exact ⟨[], rfl, .nil⟩
    · rintro ⟨ds, e, a⟩
      cases ds with
      | nil => cases a; simp [DVs]
      | cons x r => cases e
  | .cons x y, vs => by
    constructor
    · intro z
      simp only [DVs] at z
      obtain ⟨v0, r, rfl, h1, h2⟩ := z
      obtain ⟨ds, e, a⟩ := dvs_iff.mp h2
      exact ⟨x :: ds, by rw [e]; rfl, .cons h1 a⟩
    · rintro ⟨ds, e, a⟩
      cases ds with
      | nil => cases e
      | cons z r =>
        cases e
        cases a with
        | cons h1 t =>
          simp only [DVs]
          exact ⟨_, _, rfl, h1, dvs_iff.mpr ⟨r, rfl, t⟩⟩
theorem dv_tup {H : Hp} {ds : List D} {v : V} : DV H (ofL ds) v ↔ ∃ a vs, v = .ref a ∧ H a = some (.tup vs) ∧ All2 (DV H) ds vs := by
  cases ds with
  | nil =>
    simp only [ofL, DV]
    constructor
    · rintro ⟨a, rfl, t⟩
      exact ⟨a, [], rfl, t, .nil⟩
    · rintro ⟨a, its, rfl, t, al⟩
      cases al
      exact ⟨a, rfl, t⟩
  | cons x r =>
    simp only [ofL, DV]
    constructor
    · rintro ⟨a, v0, rr, rfl, t, h1, h2⟩
      obtain ⟨ds, e, al⟩ := dvs_iff.mp h2
      rw [ofL_inj e]
      exact ⟨a, v0 :: rr, rfl, t, .cons h1 al⟩
    · rintro ⟨a, its, rfl, t, al⟩
      cases al with
      | cons h1 al => exact ⟨a, _, _, rfl, t, h1, dvs_iff.mpr ⟨r, rfl, al⟩⟩
theorem dv_mono {H H' : Hp} (k : ∀ b xs, H b = some (.tup xs) → H' b = some (.tup xs)) : ∀ (n : Nat) {d : D} {v : V}, sz d ≤ n → DV H d v → DV H' d v := by
  intro n
  induction n using Nat.strongRecOn with
  | _ n ih =>
  intro d v hn z
  cases d with
  | non => simpa only [DV] using z
  | int i => simpa only [DV] using z
  | str x => simpa only [DV] using z
  | nil =>
    simp only [DV] at z ⊢
    obtain ⟨a, e, t⟩ := z
    exact ⟨a, e, k _ _ t⟩
  | cons x y =>
    obtain ⟨_, _, _, _, _, _, z1⟩ := (by simpa only [DV] using z)
    obtain ⟨ds, rfl, _⟩ := dvs_iff.mp z1
    obtain ⟨a, its, rfl, t, al⟩ := (dv_tup (ds := x :: ds)).mp z
    refine (dv_tup (ds := x :: ds)).mpr ⟨a, its, rfl, k _ _ t, ?_⟩
    have s2 : sz (ofL (x :: ds)) = sz (D.cons x (ofL ds)) := rfl
    have go : ∀ (l : List D) (r : List V), (∀ y ∈ l, y ∈ x :: ds) → All2 (DV H) l r → All2 (DV H') l r := by
      intro l
      induction l with
      | nil => intro r _ q; cases q; exact .nil
      | cons y l ihl =>
        intro r hm q
        cases q with
        | cons q1 q2 =>
          have := sz_mem (hm y List.mem_cons_self)
          exact .cons (ih (sz y) (by omega) (Nat.le_refl _) q1) (ihl _ (fun z hz => hm z (List.mem_cons_of_mem _ hz)) q2)
    exact go _ _ (fun _ hy => hy) al
theorem DV.mono {H H' : Hp} {d : D} {v : V} (z : DV H d v) (k : ∀ b xs, H b = some (.tup xs) → H' b = some (.tup xs)) : DV H' d v := dv_mono k (sz d) (Nat.le_refl _) z
def DKey (H : Hp) (d : D) (b : Addr) : Prop := DV H d (.ref b) ∧ pure_ d = true ∧ dep d ≤ 8
theorem DKey.mono {H H' : Hp} {d : D} {b : Addr} (z : DKey H d b) (k : ∀ b xs, H b = some (.tup xs) → H' b = some (.tup xs)) : DKey H' d b := ⟨z.1.mono k, z.2⟩
theorem ne_of {H : Hp} {a b : Addr} {o u : HO} (h : H a = some o) (h' : H b = some u) (d : o ≠ u) : a ≠ b := by
  intro e; subst e; rw [h] at h'; exact d (Option.some.inj h')
theorem ne_of_none {H : Hp} {a b : Addr} {o : HO} (h : H a = some o) (h' : H b = none) : a ≠ b := by
  intro e; subst e; rw [h] at h'; cases h'
section
variable (P : Program) (w : World)
def ObjOk (H : Hp) (h : Heap) (a : Addr) : HO → Prop
  | .lst xs => xs.length ≤ sizeLine ∧ ∃ (its : List Value) (n : Nat), Vals xs its ∧ h.get? a = some { cls := .type "list", data := .seq its.toArray n }
  | .tup xs => xs.length ≤ sizeLine ∧ ∃ its : List Value, Vals xs its ∧ IsTp h a its.toArray
  | .dK kvs => kvs.length ≤ sizeLine ∧ (a == sysModules) = false ∧ ∃ vs, KV kvs vs ∧ h.DictOf (mixKind P w) a vs
  | .dT kvs => kvs.length ≤ sizeLine ∧ (a == sysModules) = false ∧ ∃ xs : List (D × Addr × Value),
      Paired (fun (p : D × V) (q : D × Addr × Value) => p.1 = q.1 ∧ DKey H p.1 q.2.1 ∧ RelV p.2 q.2.2) kvs xs ∧
      ∃ o es ep, h.get? a = some o ∧ o.ExactDict ∧ o.data = .dict es ep ∧ es.toList = xs.map (entryOfKey (dataKind P w)) ∧ (xs.map (·.1)).Nodup
  | .set S n => h.SetOf (intKind P w) a S n
  | .ins C dx fs => H dx = some (.own a) ∧ fs.length ≤ 1000 ∧ dx ≠ a ∧ h.get? a = some (PySem.W.instObj C dx) ∧
      ∃ mA, h.Ns1 dx mA ∧ (∀ f, RelO (fs.lookup f) (mA f)) ∧ PySem.Within mA (fs.map (·.1))
  | .own _ => ∃ o, h.get? a = some o
  | .xd fs => ∃ mA, h.Ns1 a mA ∧ ∀ f, RelO (fs.lookup f) (mA f)
  | .rng lo hi => ∃ t u v, h.get? a = some { cls := .type "range", data := .fields #[.int lo t, .int hi u, .int 1 v] }
  | .frz o u => h.get? a = some o ∧ ObjOk H h a u
  | .tbl ps => h.get? a = some { cls := .none, data := .fields ps }
  | .met f x => h.get? a = some (PySem.W.methodObj (.ref f) (.ref x))
  | .ext φ => φ h ∧ (∃ o, h.get? a = some o) ∧ ∀ h1 h2 : Heap, φ h1 → (∀ o, h1.get? a = some o → h2.get? a = some o) → φ h2
def HOk (H : Hp) (h : Heap) : Prop := ∀ a o, H a = some o → ObjOk P w H h a o
end
section
variable {P : Program} {w : World} {H H' : Hp} {h h' : Heap} {a : Addr} {o : HO}
theorem ObjOk.lt (x : ObjOk P w H h a o) : a < h.objs.size := by
  cases o with
  | lst xs => obtain ⟨_, _, _, _, e⟩ := x; exact Heap.lt_size e
  | tup xs => obtain ⟨_, _, _, p⟩ := x; exact p.lt
  | dK kvs => obtain ⟨_, _, _, _, o, _, _, e, _⟩ := x; exact Heap.lt_size e
  | dT kvs => obtain ⟨_, _, _, _, o, _, _, e, _⟩ := x; exact Heap.lt_size e
  | set S n => obtain ⟨o, _, _, _, e, _⟩ := x; exact Heap.lt_size e
  | ins C dx fs => obtain ⟨_, _, _, e, _⟩ := x; exact Heap.lt_size e
  | own y => obtain ⟨_, e⟩ := x; exact Heap.lt_size e
  | xd fs => obtain ⟨_, ⟨_, _, _, e, _⟩, _⟩ := x; exact Heap.lt_size e
  | rng lo hi => obtain ⟨_, _, _, e⟩ := x; exact Heap.lt_size e
  | frz ob u => obtain ⟨e, _⟩ := x; exact Heap.lt_size e
  | tbl ps => exact Heap.lt_size (show h.get? a = some _ from x)
  | met f y => exact Heap.lt_size (show h.get? a = some _ from x)
  | ext φ => obtain ⟨_, ⟨_, e⟩, _⟩ := x; exact Heap.lt_size e
theorem Paired.mapP {α β : Type} {F G : α → β → Prop} : ∀ {l₁ : List α} {l₂ : List β}, Paired F l₁ l₂ → (∀ a b, F a b → G a b) → Paired G l₁ l₂
  | _, _, .nil, _ => .nil
  | _, _, .cons r t, f => .cons (f _ _ r) (Paired.mapP t f)
theorem ObjOk.stay (x : ObjOk P w H h a o) (k : ∀ b u, (b = a ∨ H b = some (.own a)) → h.get? b = some u → h'.get? b = some u)
    (ho : ∀ b, H b = some (.own a) → H' b = some (.own a)) (ht : ∀ b xs, H b = some (.tup xs) → H' b = some (.tup xs)) : ObjOk P w H' h' a o := by
  induction o with
  | lst xs => obtain ⟨z, its, n, r, e⟩ := x; exact ⟨z, its, n, r, k _ _ (.inl rfl) e⟩
  | tup xs => obtain ⟨z, its, r, ob, e, c⟩ := x; exact ⟨z, its, r, ob, k _ _ (.inl rfl) e, c⟩
  | dK kvs => obtain ⟨z, y, vs, r, ob, es, ep, e, c⟩ := x; exact ⟨z, y, vs, r, ob, es, ep, k _ _ (.inl rfl) e, c⟩
  | dT kvs =>
    obtain ⟨z, y, xs, r, ob, es, ep, e, c⟩ := x
    exact ⟨z, y, xs, Paired.mapP r fun p q z => ⟨z.1, z.2.1.mono ht, z.2.2⟩, ob, es, ep, k _ _ (.inl rfl) e, c⟩
  | set S n => obtain ⟨ob, es, ep, t, e, c⟩ := x; exact ⟨ob, es, ep, t, k _ _ (.inl rfl) e, c⟩
  | ins C dx fs =>
    obtain ⟨d, z, ne, e, mA, ⟨od, es, ep, e2, c⟩, r⟩ := x
    exact ⟨ho _ d, z, ne, k _ _ (.inl rfl) e, mA, ⟨od, es, ep, k _ _ (.inr d) e2, c⟩, r⟩
  | own y => obtain ⟨ob, e⟩ := x; exact ⟨ob, k _ _ (.inl rfl) e⟩
  | xd fs => obtain ⟨mA, ⟨od, es, ep, e, c⟩, r⟩ := x; exact ⟨mA, ⟨od, es, ep, k _ _ (.inl rfl) e, c⟩, r⟩
  | rng lo hi => obtain ⟨t, u, v, e⟩ := x; exact ⟨t, u, v, k _ _ (.inl rfl) e⟩
  | frz ob u ih => obtain ⟨e, q⟩ := x; exact ⟨k _ _ (.inl rfl) e, ih q⟩
  | tbl ps =>
    have e : h.get? a = some { cls := .none, data := .fields ps } := x
    show h'.get? a = some { cls := .none, data := .fields ps }
    exact k a _ (.inl rfl) e
  | met f y =>
    have e : h.get? a = some (PySem.W.methodObj (.ref f) (.ref y)) := x
    show h'.get? a = some (PySem.W.methodObj (.ref f) (.ref y))
    exact k a _ (.inl rfl) e
  | ext φ => obtain ⟨p, ⟨o, e⟩, st⟩ := x; exact ⟨st _ _ p fun o q => k _ _ (.inl rfl) q, ⟨o, k _ _ (.inl rfl) e⟩, st⟩
theorem HOk.lt (x : HOk P w H h) (e : H a = some o) : a < h.objs.size := (x a o e).lt
theorem HOk.fresh (x : HOk P w H h) (e : h.objs.size ≤ a) : H a = none := by
  cases q : H a with
  | none => rfl
  | some u => exact absurd (Nat.lt_of_lt_of_le (x.lt q) e) (Nat.lt_irrefl _)
theorem HOk.kept (x : HOk P w H h) (k : ∀ b u, h.get? b = some u → h'.get? b = some u) : HOk P w H h' := fun a o e =>
  (x a o e).stay (fun b u _ q => k b u q) (fun _ q => q) fun _ _ q => q
theorem HOk.laid (x : HOk P w H h) (k : ∀ b u, h.get? b = some u → h'.get? b = some u) (hp : h.objs.size ≤ a) (new : ObjOk P w (upd H a o) h' a o) : HOk P w (upd H a o) h' := fun b u e => by
  have hn := x.fresh hp
  by_cases hb : b = a
  · subst hb; rw [upd_same] at e; cases e; exact new
  · rw [upd_ne hb] at e
    exact (x b u e).stay (fun c v _ q => k c v q) (fun c q => by rw [upd_ne (ne_of_none q hn)]; exact q) fun c xs q => by rw [upd_ne (ne_of_none q hn)]; exact q
end
def Rd (H : Hp) (a : Addr) (u : HO) : Prop := H a = some u ∨ ∃ o, H a = some (.frz o u)
theorem Rd.of {H : Hp} {a : Addr} {u : HO} (h : H a = some u) : Rd H a u := .inl h
theorem Rd.ok {P : Program} {w : World} {H : Hp} {h : Heap} {a : Addr} {u : HO} (r : Rd H a u) (x : HOk P w H h) : ObjOk P w H h a u := by
  rcases r with r | ⟨o, r⟩
  · exact x a u r
  · obtain ⟨_, q⟩ := x a _ r
    exact q
def Mut : Option HO → Prop
  | some (.lst _) => True
  | some (.dK _) => True
  | some (.dT _) => True
  | some (.set _ _) => True
  | some (.ins _ _ _) => True
  | some (.ext _) => True
  | _ => False
section
variable {P : Program} {w : World} {H : Hp} {h h' : Heap} {x e : Addr} {o' : HO}
theorem HOk.write (ok : HOk P w H h) (mu : Mut (H x)) (he : e = x ∨ H e = some (.own x)) (k : ∀ b u, b ≠ e → h.get? b = some u → h'.get? b = some u) (heo : ∃ u, h'.get? e = some u)
    (new : ObjOk P w (upd H x o') h' x o') : HOk P w (upd H x o') h' := fun b u q => by
  have nown : ∀ c y, H c = some (.own y) → c ≠ x := fun c y r z => by subst z; rw [r] at mu; exact mu
  have ntup : ∀ c xs, H c = some (.tup xs) → c ≠ x := fun c xs r z => by subst z; rw [r] at mu; exact mu
  by_cases hb : b = x
  · subst hb; rw [upd_same] at q; cases q; exact new
  · rw [upd_ne hb] at q
    by_cases hbe : b = e
    · have q' : H b = some (.own x) := by
        rcases he with z | z
        · exact absurd (hbe.trans z) hb
        · rw [hbe]; exact z
      rw [q] at q'; cases q'
      obtain ⟨v, hv⟩ := heo
      exact ⟨v, by rw [hbe]; exact hv⟩
    · refine (ok b u q).stay (fun c v hc r => k c v ?_ r) (fun c r => by rw [upd_ne (nown c b r)]; exact r) fun c xs r => by rw [upd_ne (ntup c xs r)]; exact r
      rcases hc with rfl | hc
      · exact hbe
      · rintro rfl
        rcases he with z | z
        · exact nown c b hc z
        · rw [hc] at z; cases z; exact hb rfl
end
structure Un (fs ex : List Addr) (H H' : Hp) (h h' : Heap) : Prop where
  keep : ∀ b o, h.get? b = some o → H b = none → b ∉ fs → b ∉ ex → h'.get? b = some o
  slot : ∀ b o, h.get? b = some o → H b = none → b ∈ fs → b ∉ ex → ∃ sl, h'.get? b = some { o with slots := sl }
  free : ∀ b o, h.get? b = some o → H b = none → b ∉ ex → H' b = none
  there : ∀ b o, h.get? b = some o → b ∉ ex → ∃ o', h'.get? b = some o'
  tups : ∀ b xs, H b = some (.tup xs) → H' b = some (.tup xs)
  frzs : ∀ b o u, H b = some (.frz o u) → H' b = some (.frz o u)
  tbls : ∀ b ps, H b = some (.tbl ps) → ∃ more, H' b = some (.tbl (ps ++ more))
section
variable {fs fs' ex ex' : List Addr} {H H1 H2 : Hp} {h h1 h2 h' : Heap} {a x e : Addr} {o : HO}
theorem Un.any (u : Un fs ex H H1 h h1) {b : Addr} {ob : Obj} (q : h.get? b = some ob) (n : H b = none) (hx : b ∉ ex) : ∃ sl, h1.get? b = some { ob with slots := sl } := by
  by_cases hb : b ∈ fs
  · exact u.slot b ob q n hb hx
  · exact ⟨ob.slots, u.keep b ob q n hb hx⟩
theorem Un.trans (a : Un fs ex H H1 h h1) (b : Un fs ex H1 H2 h1 h2) : Un fs ex H H2 h h2 where
  keep := fun c ob q n hc hx => b.keep c ob (a.keep c ob q n hc hx) (a.free c ob q n hx) hc hx
  slot := fun c ob q n hc hx => by
    obtain ⟨sl, e1⟩ := a.slot c ob q n hc hx
    obtain ⟨sl', e2⟩ := b.slot c _ e1 (a.free c ob q n hx) hc hx
    exact ⟨sl', e2⟩
  free := fun c ob q n hx => by
    obtain ⟨o', e1⟩ := a.there c ob q hx
    exact b.free c o' e1 (a.free c ob q n hx) hx
  there := fun c ob q hx => by
    obtain ⟨o', e1⟩ := a.there c ob q hx
    exact b.there c o' e1 hx
  tups := fun c xs q => b.tups c xs (a.tups c xs q)
  frzs := fun c ob xs q => b.frzs c ob xs (a.frzs c ob xs q)
  tbls := fun c ps q => by
    obtain ⟨m1, e1⟩ := a.tbls c ps q
    obtain ⟨m2, e2⟩ := b.tbls c _ e1
    exact ⟨m1 ++ m2, by rw [e2, Array.append_assoc]⟩
theorem Un.kept (k : ∀ b u, h.get? b = some u → h'.get? b = some u) : Un fs ex H H h h' :=
  ⟨fun b ob q _ _ _ => k b ob q, fun b ob q _ _ _ => ⟨ob.slots, k b ob q⟩, fun _ _ _ n _ => n, fun b ob q _ => ⟨ob, k b ob q⟩, fun _ _ q => q, fun _ _ _ q => q, fun _ ps q => ⟨#[], by rw [q]; simp⟩⟩
theorem Un.refl : Un fs ex H H h h := Un.kept fun _ _ q => q
theorem Un.laid (k : ∀ b u, h.get? b = some u → h'.get? b = some u) (hp : h.objs.size ≤ a) (hn : H a = none) : Un fs ex H (upd H a o) h h' where
  keep := fun b u q _ _ _ => k b u q
  slot := fun b u q _ _ _ => ⟨u.slots, k b u q⟩
  free := fun b u q n _ => by rw [upd_ne (Nat.ne_of_lt (Nat.lt_of_lt_of_le (Heap.lt_size q) hp))]; exact n
  there := fun b u q _ => ⟨u, k b u q⟩
  tups := fun b xs q => by rw [upd_ne (ne_of_none q hn)]; exact q
  frzs := fun b u xs q => by rw [upd_ne (ne_of_none q hn)]; exact q
  tbls := fun b ps q => ⟨#[], by rw [upd_ne (ne_of_none q hn), q]; simp⟩
theorem Un.write (mu : Mut (H x)) (he : e = x ∨ H e = some (.own x)) (k : ∀ b u, b ≠ e → h.get? b = some u → h'.get? b = some u) (heo : ∃ u, h'.get? e = some u) : Un fs ex H (upd H x o) h h' := by
  have hx : ∀ b, H b = none → b ≠ x := fun b n z => by subst z; rw [n] at mu; exact mu
  have hb : ∀ b, H b = none → b ≠ e := fun b n z => by
    subst z
    rcases he with r | r
    · exact hx b n r
    · rw [n] at r; cases r
  have hm : ∀ b u, H b = some u → ¬ Mut (some u) → b ≠ x := fun b u q nm z => by subst z; rw [q] at mu; exact nm mu
  refine ⟨fun b u q n _ _ => k b u (hb b n) q, fun b u q n _ _ => ⟨u.slots, k b u (hb b n) q⟩, fun b u q n _ => by rw [upd_ne (hx b n)]; exact n, fun b u q _ => ?_,
    fun b xs q => by rw [upd_ne (hm b _ q fun z => z)]; exact q, fun b u xs q => by rw [upd_ne (hm b _ q fun z => z)]; exact q, fun b ps q => ⟨#[], by rw [upd_ne (hm b _ q fun z => z), q]; simp⟩⟩
  by_cases hbe : b = e
  · subst hbe; exact heo
  · exact ⟨u, k b u hbe q⟩
theorem Un.mono (u : Un fs ex H H1 h h1) (hs : ∀ b ∈ fs, b ∈ fs') (hx : ∀ b ∈ ex, b ∈ ex') : Un fs' ex' H H1 h h1 :=
  ⟨fun b ob q n hb he => u.keep b ob q n (fun z => hb (hs b z)) fun z => he (hx b z), fun _ _ q n _ he => u.any q n fun z => he (hx _ z), fun b ob q n he => u.free b ob q n fun z => he (hx b z), fun b ob q he => u.there b ob q fun z => he (hx b z), u.tups, u.frzs, u.tbls⟩
end
def trk (h : Heap) (H : Hp) : List Addr := (List.range h.objs.size).filter fun a => (H a).isSome
def hidT (h : Heap) (H : Hp) : Heap := PySem.W.hideAll h (trk h H)
theorem hidT_size (h : Heap) (H : Hp) : (hidT h H).objs.size = h.objs.size := PySem.W.hideAll_size _ _
theorem hidT_get {h : Heap} {H : Hp} {b : Addr} {o : Obj} (e : h.get? b = some o) (n : H b = none) : (hidT h H).get? b = some o :=
  PySem.W.hideAll_get _ e fun hm => by
    have q : (H b).isSome = true := (List.mem_filter.mp hm).2
    rw [n] at q; simp at q
theorem of_hidT {h : Heap} {H : Hp} {b : Addr} {o : Obj} (e : (hidT h H).get? b = some o) : h.get? b = some o ∧ H b = none := by
  have e' : h.get? b = some o := PySem.W.of_hideAll (trk h H) e
  refine ⟨e', ?_⟩
  cases q : H b with
  | none => rfl
  | some x =>
    have hm : b ∈ trk h H := List.mem_filter.mpr ⟨List.mem_range.mpr (Heap.lt_size e'), by simp [q]⟩
    have z : (hidT h H).get? b = none := PySem.W.hideAll_none (trk h H) hm
    rw [z] at e; cases e
def allNews (g h : Heap) (L : Addr) : List (Addr × Obj) := (List.range h.objs.size).filterMap fun a => if a = L ∨ (g.get? a).isSome = true then none else (h.get? a).map fun o => (a, o)
def rest (g h : Heap) (L d : Addr) : List (Addr × Obj) := (allNews g h L).filter fun p => decide (p.1 ≠ d)
end L2
namespace L2
open PySem PySem.Spec PyProof.Rows DD
structure Mod (K : PySem.W.Frag) (mg : Str → Option Value) (base : Heap) : Prop where
  kin : K.In base
  glob : base.Ns mainGlobals mg
  blt : ∃ mb, base.Ns builtinsNs mb ∧ ∀ x : Str, x ≠ "__name__" → mb x = bootBuiltins x
  nolimit : base.NoLimit
structure Cx where
  prog : Program
  w : World
  K : PySem.W.Frag
  mg : Str → Option Value
  base : Heap
  A : Around
  N : List Str
  s₀ : Shared
  H₀ : Hp
  env : Env
  outer : List Env
  stack : List Env
  ex : List Addr
  fn : Str → Bool
  calm : Bool
  pn : List (Addr × Obj)
  xe : Value → Shared → Prop
def frs (l : List Env) : List Addr := l.filterMap (·.frame)
abbrev Cx.fs (X : Cx) : List Addr := frs X.outer
def Vis (sc : Scope) (x : Str) : Prop := sc.names.lookup x = some .local ∨ sc.names.lookup x = some .cell ∨ sc.names.lookup x = some .free
def Loc (sc : Scope) (x : Str) : Prop := sc.names.lookup x = some .local ∨ sc.names.lookup x = some .cell
def Look (env : Env) (h : Heap) (m : Str → Option Value) (x : Str) (u : Value) : Prop :=
  (env.kindOf x = some .local ∧ m x = some u) ∨ ((env.kindOf x = some .cell ∨ env.kindOf x = some .free) ∧ ∃ c, env.cells.lookup x = some c ∧ h.IsCell c (some u))
structure Cx.Ok (X : Cx) : Prop where
  mod : Mod X.K X.mg X.base
  kind : X.env.scope.kind = .function
  glob : X.env.globals = mainGlobals
  blt : X.env.builtins = builtinsNs
  above : X.s₀.heap.objs.size ≤ X.env.locals
  inj : ∀ x y c, X.env.cells.lookup x = some c → X.env.cells.lookup y = some c → x = y
  has : ∀ x, (X.env.kindOf x = some .cell ∨ X.env.kindOf x = some .free) → ∃ c, X.env.cells.lookup x = some c
  cab : ∀ x c, X.fn x = true → X.env.cells.lookup x = some c → X.s₀.heap.objs.size ≤ c
  hd : X.calm = true → X.A.handled = none
  frames : X.A.frames = some X.stack
  stk : X.stack = X.outer ∨ (X.stack = X.env :: X.outer ∧ X.env.frame = some X.env.locals)
  exf : ∀ b ∈ X.ex, b ≠ X.env.locals ∧ ∀ x c, X.env.cells.lookup x = some c → c ≠ b
  bs : ∀ b o, X.base.get? b = some o → X.s₀.heap.get? b = some o ∧ X.H₀ b = none
  bsz : X.base.objs.size ≤ X.s₀.heap.objs.size
  noex : ∀ b o, X.base.get? b = some o → b ∉ X.ex
  exfs : ∀ b ∈ X.ex, b ∉ X.fs
  funs : X.s₀.heap.FunFrames X.base X.outer
  frf : ∀ b ∈ X.fs, X.H₀ b = none
structure Inv (X : Cx) (pins : List (Addr × Obj)) (σ : List (Option V)) (H : Hp) (s : Shared) : Prop where
  ok : X.Ok
  os : s.os = X.s₀.os
  bare : AllBare s.gens
  base : Un X.fs X.ex X.H₀ H X.s₀.heap s.heap
  loc : ∃ m, s.heap.Ns X.env.locals m ∧ ∀ (i : Nat) (x : Str) (v : V), X.N[i]? = some x → σ[i]? = some (some v) → Vis X.env.scope x → ∃ u, RelV v u ∧ Look X.env s.heap m x u
  cell : ∀ x c, X.env.cells.lookup x = some c → ∃ v, s.heap.IsCell c v
  free : H X.env.locals = none
  freeC : ∀ x c, X.env.cells.lookup x = some c → H c = none
  pin : ∀ p ∈ X.pn ++ pins, s.heap.get? p.1 = some p.2 ∧ H p.1 = none ∧ p.1 ≠ X.env.locals ∧ p.1 ∉ X.fs ∧ ∀ v, p.2.data ≠ .cell v
  hok : HOk X.prog X.w H s.heap
  len : σ.length = X.N.length
section
variable {X : Cx} {pins : List (Addr × Obj)} {σ : List (Option V)} {H H' : Hp} {s : Shared} {h' : Heap}
theorem Cx.Ok.nofr (ok : X.Ok) {b : Addr} {o : Obj} (e : X.base.get? b = some o) : b ∉ X.fs := fun hb => by
  have := (ok.funs.mem hb).1
  rw [e] at this; cases this
theorem Inv.bs (I : Inv X pins σ H s) : ∀ b o, X.base.get? b = some o → s.heap.get? b = some o ∧ H b = none := fun b o e =>
  ⟨I.base.keep b o (I.ok.bs b o e).1 (I.ok.bs b o e).2 (I.ok.nofr e) (I.ok.noex b o e), I.base.free b o (I.ok.bs b o e).1 (I.ok.bs b o e).2 (I.ok.noex b o e)⟩
theorem Inv.bk (I : Inv X pins σ H s) : ∀ b o, X.base.get? b = some o → s.heap.get? b = some o := fun b o e => (I.bs b o e).1
theorem Inv.mod (I : Inv X pins σ H s) : Mod X.K X.mg X.base := I.ok.mod
theorem Inv.kIn (I : Inv X pins σ H s) : X.K.In s.heap := I.ok.mod.kin.keeps I.bk
theorem Inv.nolimit (I : Inv X pins σ H s) : s.heap.NoLimit := I.ok.mod.nolimit.keeps I.bk
theorem Inv.lt (I : Inv X pins σ H s) : X.env.locals < s.heap.objs.size := let ⟨_, hn, _⟩ := I.loc; hn.lt
theorem Inv.sz (I : Inv X pins σ H s) : X.s₀.heap.objs.size ≤ s.heap.objs.size := Nat.le_trans I.ok.above (Nat.le_of_lt I.lt)
theorem Inv.nofs (I : Inv X pins σ H s) {a : Addr} (h : s.heap.objs.size ≤ a) : a ∉ X.fs := fun hb => by
  obtain ⟨_, o, ho, _⟩ := I.ok.funs.mem hb
  exact absurd (Nat.lt_of_lt_of_le (Heap.lt_size ho) (Nat.le_trans I.sz h)) (Nat.lt_irrefl _)
theorem Inv.cne (I : Inv X pins σ H s) : ∀ x c, X.env.cells.lookup x = some c → c ≠ X.env.locals := fun x c e z => by
  obtain ⟨v, o, ho, hd⟩ := I.cell x c e
  obtain ⟨m, ⟨o', es, ep, ho', hd', _⟩, _⟩ := I.loc
  rw [z, ho'] at ho; cases ho; rw [hd'] at hd; cases hd
theorem Inv.funs (I : Inv X pins σ H s) : s.heap.FunFrames X.base X.outer := by
  have all : ∀ (l : List Env), (∀ b ∈ frs l, b ∈ X.fs) → X.s₀.heap.FunFrames X.base l → s.heap.FunFrames X.base l := by
    intro l
    induction l with
    | nil => intro _ _; trivial
    | cons env r ih =>
      intro hs hl
      obtain ⟨hk, ⟨L, o, hf, hn, ho, hd⟩, hr⟩ := hl
      have hL : L ∈ X.fs := hs L (by unfold frs; rw [List.filterMap_cons, hf]; exact List.mem_cons_self)
      obtain ⟨sl, e⟩ := I.base.slot L o ho (I.ok.frf L hL) hL fun z => I.ok.exfs L z hL
      exact ⟨hk, ⟨L, _, hf, hn, e, hd⟩, ih (fun b hb => hs b (by unfold frs; rw [List.filterMap_cons, hf]; exact List.mem_cons_of_mem _ hb)) hr⟩
  exact all X.outer (fun _ hb => hb) I.ok.funs
theorem Inv.stack (I : Inv X pins σ H s) : s.heap.FunFrames X.base X.stack := by
  rcases I.ok.stk with e | ⟨e, hf⟩
  · rw [e]; exact I.funs
  · rw [e]
    obtain ⟨m, hn, _⟩ := I.loc
    refine .cons (by rw [I.ok.kind]; decide) hf hn ?_ I.funs
    exact Heap.get?_none_of_le (Nat.le_trans I.ok.bsz I.ok.above)
theorem Inv.stkSub (I : Inv X pins σ H s) : ∀ b ∈ frs X.stack, b ∈ X.env.locals :: X.fs := fun b hb => by
  rcases I.ok.stk with e | ⟨e, hf⟩
  · rw [e] at hb; exact List.mem_cons_of_mem _ hb
  · rw [e] at hb
    unfold frs at hb
    rw [List.filterMap_cons, hf] at hb
    exact hb
theorem Inv.stkFree (I : Inv X pins σ H s) : ∀ b ∈ frs X.stack, H b = none := fun b hb => by
  rcases List.mem_cons.mp (I.stkSub b hb) with e | hb
  · rw [e]; exact I.free
  · obtain ⟨_, o, ho, _⟩ := I.ok.funs.mem hb
    exact I.base.free b o ho (I.ok.frf b hb) fun z => I.ok.exfs b z hb
theorem Inv.step {g' : Array GenState} {t' : Nat} {d' : Drawn} {ch : List Addr} (I : Inv X pins σ H s)
    (hch : ∀ b ∈ ch, (b ∈ X.ex ∨ X.s₀.heap.objs.size ≤ b) ∧ b ≠ X.env.locals ∧ (∀ x c, X.env.cells.lookup x = some c → c ≠ b) ∧ ∀ p ∈ X.pn ++ pins, p.1 ≠ b)
    (keep : ∀ b o, b ≠ X.env.locals → b ∉ X.fs → b ∉ ch → s.heap.get? b = some o → H b = none → h'.get? b = some o)
    (slot : ∀ b o, b ≠ X.env.locals → b ∈ X.fs → b ∉ ch → s.heap.get? b = some o → H b = none → ∃ sl, h'.get? b = some { o with slots := sl }) (free : ∀ b o, b ∉ ch → s.heap.get? b = some o → H b = none → H' b = none)
    (there : ∀ b o, b ∉ ch → s.heap.get? b = some o → ∃ o', h'.get? b = some o')
    (tups : ∀ b xs, H b = some (.tup xs) → H' b = some (.tup xs)) (frzs : ∀ b o u, H b = some (.frz o u) → H' b = some (.frz o u)) (tbls : ∀ b ps, H b = some (.tbl ps) → ∃ more, H' b = some (.tbl (ps ++ more)))
    (ns : ∀ m, s.heap.Ns X.env.locals m → h'.Ns X.env.locals m) (hok : HOk X.prog X.w H' h') (hg : AllBare g') :
    Inv X pins σ H' { s with heap := h', gens := g', drawn := d', toks := t' } := by
  have neL : ∀ b o, X.s₀.heap.get? b = some o → b ≠ X.env.locals := fun b o e => Nat.ne_of_lt (Nat.lt_of_lt_of_le (Heap.lt_size e) I.ok.above)
  have neC : ∀ b o, X.s₀.heap.get? b = some o → b ∉ X.ex → b ∉ ch := fun b o e hx hb => by
    rcases (hch b hb).1 with z | z
    · exact hx z
    · exact absurd (Nat.lt_of_lt_of_le (Heap.lt_size e) z) (Nat.lt_irrefl _)
  have cellK : ∀ x c, X.env.cells.lookup x = some c → ∀ v, s.heap.IsCell c v → h'.IsCell c v := fun x c e v ⟨o, ho, hd⟩ => by
    have nch : c ∉ ch := fun z => (hch c z).2.2.1 x c e rfl
    by_cases hc : c ∈ X.fs
    · obtain ⟨sl, q⟩ := slot c o (I.cne x c e) hc nch ho (I.freeC x c e)
      exact ⟨_, q, hd⟩
    · exact ⟨o, keep c o (I.cne x c e) hc nch ho (I.freeC x c e), hd⟩
  refine ⟨I.ok, I.os, hg, ⟨fun b o e n hb hx => ?_, fun b o e n hb hx => ?_, fun b o e n hx => ?_, fun b o e hx => ?_, fun b xs e => tups b xs (I.base.tups b xs e), fun b o xs e => frzs b o xs (I.base.frzs b o xs e), fun b ps e => ?_⟩, ?_, fun x c e => ?_, ?_, fun x c e => ?_, fun p hp => ?_, hok, I.len⟩
  · exact keep b o (neL b o e) hb (neC b o e hx) (I.base.keep b o e n hb hx) (I.base.free b o e n hx)
  · obtain ⟨sl, e1⟩ := I.base.slot b o e n hb hx
    obtain ⟨sl', e2⟩ := slot b _ (neL b o e) hb (neC b o e hx) e1 (I.base.free b o e n hx)
    exact ⟨sl', e2⟩
  · obtain ⟨o', e1⟩ := I.base.there b o e hx
    exact free b o' (neC b o e hx) e1 (I.base.free b o e n hx)
  · obtain ⟨o', e1⟩ := I.base.there b o e hx
    exact there b o' (neC b o e hx) e1
  · obtain ⟨m1, e1⟩ := I.base.tbls b ps e
    obtain ⟨m2, e2⟩ := tbls b _ e1
    exact ⟨m1 ++ m2, by rw [e2, Array.append_assoc]⟩
  · obtain ⟨m, hn, hl⟩ := I.loc
    refine ⟨m, ns m hn, fun i x v e1 e2 e3 => ?_⟩
    obtain ⟨u, r, l⟩ := hl i x v e1 e2 e3
    refine ⟨u, r, ?_⟩
    rcases l with l | ⟨k, c, e, z⟩
    · exact .inl l
    · exact .inr ⟨k, c, e, cellK x c e _ z⟩
  · obtain ⟨v, z⟩ := I.cell x c e
    exact ⟨v, cellK x c e v z⟩
  · obtain ⟨m, ⟨o, _, _, ho, _⟩, _⟩ := I.loc
    exact free _ o (fun z => (hch _ z).2.1 rfl) ho I.free
  · obtain ⟨v, o, ho, hd⟩ := I.cell x c e
    exact free c o (fun z => (hch c z).2.2.1 x c e rfl) ho (I.freeC x c e)
  · obtain ⟨e, n, ne, nf, d⟩ := I.pin p hp
    have nch : p.1 ∉ ch := fun z => (hch p.1 z).2.2.2 p hp rfl
    exact ⟨keep p.1 p.2 ne nf nch e n, free p.1 p.2 nch e n, ne, nf, d⟩
theorem Inv.un {t' : Nat} (I : Inv X pins σ H s) (u : Un X.fs [] H H' s.heap h') (hok : HOk X.prog X.w H' h') : Inv X pins σ H' { s with heap := h', toks := t' } := by
  obtain ⟨m, ⟨o, es, ep, ho, r⟩, _⟩ := id I.loc
  obtain ⟨sl, hL⟩ := u.any ho I.free (by simp)
  exact I.step (g' := s.gens) (d' := s.drawn) (ch := []) (fun _ z => nomatch z) (fun b o _ hb _ e n => u.keep b o e n hb (by simp)) (fun b o _ hb _ e n => u.slot b o e n hb (by simp)) (fun b o _ e n => u.free b o e n (by simp)) (fun b o _ e => u.there b o e (by simp)) u.tups u.frzs u.tbls (fun m' hm => by
    obtain ⟨o', es', ep', ho', r'⟩ := hm
    rw [ho] at ho'; cases ho'
    exact ⟨_, es', ep', hL, r'⟩) hok I.bare
theorem Inv.call {g' : Array GenState} {t' : Nat} {d' : Drawn} {ch : List Addr} (I : Inv X pins σ H s) (u : Un (frs X.stack) ch H H' s.heap h') (hok : HOk X.prog X.w H' h') (hg : AllBare g')
    (hch : ∀ b ∈ ch, (b ∈ X.ex ∨ X.s₀.heap.objs.size ≤ b) ∧ b ≠ X.env.locals ∧ (∀ x c, X.env.cells.lookup x = some c → c ≠ b) ∧ ∀ p ∈ X.pn ++ pins, p.1 ≠ b) :
    Inv X pins σ H' { s with heap := h', gens := g', drawn := d', toks := t' } := by
  obtain ⟨m, ⟨o, es, ep, ho, r⟩, _⟩ := id I.loc
  obtain ⟨sl, hL⟩ := u.any ho I.free fun z => (hch _ z).2.1 rfl
  exact I.step (ch := ch) hch (fun b o hL hb hc e n => u.keep b o e n (fun z => (List.mem_cons.mp (I.stkSub b z)).elim hL hb) hc) (fun b o _ _ hc e n => u.any e n hc) (fun b o hc e n => u.free b o e n hc) (fun b o hc e => u.there b o e hc) u.tups u.frzs u.tbls (fun m' hm => by
    obtain ⟨o', es', ep', ho', r'⟩ := hm
    rw [ho] at ho'; cases ho'
    exact ⟨_, es', ep', hL, r'⟩) hok hg
theorem Inv.turned {t' : Nat} {it : Addr} (I : Inv X pins σ H s) (k : ∀ b o, b ≠ it → s.heap.get? b = some o → h'.get? b = some o) (hn : H it = none) (hL : it ≠ X.env.locals)
    (h1 : it ∈ X.ex ∨ X.s₀.heap.objs.size ≤ it) (h2 : ∀ x c, X.env.cells.lookup x = some c → c ≠ it) (h3 : ∀ p ∈ X.pn ++ pins, p.1 ≠ it) : Inv X pins σ H { s with heap := h', toks := t' } := by
  have nit : ∀ b u, H b = some u → b ≠ it := fun b u e z => by rw [z, hn] at e; cases e
  refine I.step (g' := s.gens) (d' := s.drawn) (ch := [it]) (fun b hb => ?_) (fun b o _ _ hc e _ => k b o (fun z => hc (by simp [z])) e) (fun b o _ _ hc e _ => ⟨o.slots, k b o (fun z => hc (by simp [z])) e⟩) (fun _ _ _ _ n => n)
    (fun b o hc e => ⟨o, k b o (fun z => hc (by simp [z])) e⟩) (fun _ _ e => e) (fun _ _ _ e => e) (fun b ps e => ⟨#[], by rw [e]; simp⟩) (fun m hm => ?_) (fun b u e => ?_) I.bare
  · have e : b = it := by simpa using hb
    subst e
    exact ⟨h1, hL, h2, h3⟩
  · obtain ⟨o, es, ep, ho, r⟩ := hm
    exact ⟨o, es, ep, k _ o (Ne.symm hL) ho, r⟩
  · refine (I.hok b u e).stay (fun c v hc q => k c v ?_ q) (fun _ q => q) fun _ _ q => q
    rcases hc with z | z
    · rw [z]; exact nit b u e
    · exact nit c _ z
theorem Inv.tok (I : Inv X pins σ H s) (t : Nat) : Inv X pins σ H { s with toks := t } := I.un (h' := s.heap) (t' := t) Un.refl I.hok
theorem Inv.kept {t' : Nat} (I : Inv X pins σ H s) (k : ∀ b u, s.heap.get? b = some u → h'.get? b = some u) : Inv X pins σ H { s with heap := h', toks := t' } := I.un (Un.kept k) (I.hok.kept k)
theorem Inv.laid {a : Addr} {o : HO} {t' : Nat} (I : Inv X pins σ H s) (k : ∀ b u, s.heap.get? b = some u → h'.get? b = some u) (hp : s.heap.objs.size ≤ a) (new : ObjOk X.prog X.w (upd H a o) h' a o) :
    Inv X pins σ (upd H a o) { s with heap := h', toks := t' } := I.un (Un.laid k hp (I.hok.fresh hp)) (I.hok.laid k hp new)
theorem Inv.write {x e : Addr} {o : HO} {t' : Nat} (I : Inv X pins σ H s) (mu : Mut (H x)) (he : e = x ∨ H e = some (.own x)) (k : ∀ b u, b ≠ e → s.heap.get? b = some u → h'.get? b = some u) (heo : ∃ u, h'.get? e = some u)
    (new : ObjOk X.prog X.w (upd H x o) h' x o) : Inv X pins σ (upd H x o) { s with heap := h', toks := t' } := I.un (Un.write mu he k heo) (I.hok.write mu he k heo new)
theorem Inv.pins_of {pins' : List (Addr × Obj)} (I : Inv X pins σ H s) (h : ∀ p ∈ pins', s.heap.get? p.1 = some p.2 ∧ H p.1 = none ∧ p.1 ≠ X.env.locals ∧ p.1 ∉ X.fs ∧ ∀ v, p.2.data ≠ .cell v) : Inv X pins' σ H s :=
  ⟨I.ok, I.os, I.bare, I.base, I.loc, I.cell, I.free, I.freeC, fun p hp => (List.mem_append.mp hp).elim (fun z => I.pin p (List.mem_append_left _ z)) (h p), I.hok, I.len⟩
theorem nodup_ix {N : List Str} (hN : N.Nodup) {i j : Nat} {x : Str} (a : N[i]? = some x) (b : N[j]? = some x) : i = j := by
  obtain ⟨h1, e1⟩ := List.getElem?_eq_some_iff.mp a
  obtain ⟨h2, e2⟩ := List.getElem?_eq_some_iff.mp b
  exact (List.getElem_inj hN).mp (e1.trans e2.symm)
theorem store_ok2 {M : Model} {A : Around} {E : Value → Shared → Prop} {i : Nat} {x : Str} {v : V} {u : Value} {Q : Unit → Shared → Prop} (I : Inv X pins σ H s) (hN : X.N.Nodup) (hi : X.N[i]? = some x) (hx : Loc X.env.scope x) (r : RelV v u)
    (h : ∀ s', Inv X pins (σ.set i (some v)) H s' → (∃ a, Heap.SameBut a s.heap s'.heap ∧ (a = X.env.locals ∨ X.env.cells.lookup x = some a)) → Q () s') (hf : X.fn x = true ∨ X.env.scope.names.lookup x = some .local := by first | exact .inl rfl | exact .inr rfl | assumption) : wpAny M A (storeName X.env x u) Q E s := by
  obtain ⟨m, hn, hl⟩ := id I.loc
  have hcls : (X.env.scope.kind == .class || (X.env.scope.kind == .module && X.env.locals != X.env.globals)) = false := by rw [I.ok.kind]; rfl
  have hiσ : i < σ.length := by rw [I.len]; exact (List.getElem?_eq_some_iff.mp hi).1
  have cne := I.cne
  have tracked : ∀ {a : Addr} {h' : Heap}, (∃ o, s.heap.get? a = some o ∧ H a = none) → Heap.SameBut a s.heap h' → HOk X.prog X.w H h' := fun {a h'} ha hs b ob e => by
    obtain ⟨_, _, hfree⟩ := ha
    refine (I.hok b ob e).stay (fun c w' hc q => (hs.2 c ?_).trans q) (fun _ q => q) fun _ _ q => q
    rintro rfl
    rcases hc with rfl | hc
    · rw [hfree] at e; cases e
    · rw [hfree] at hc; cases hc
  rcases hx with hk | hk
  · refine wpAny_storeName_local hk hn (fun h' hn' hs => ?_) hcls
    obtain ⟨oL, _, _, hoL, _⟩ := id hn
    refine h _ ⟨I.ok, I.os, I.bare, ⟨fun b o e n hb hx => ?_, fun b o e n hb hx => ?_, I.base.free, fun b o e hx => ?_, I.base.tups, I.base.frzs, I.base.tbls⟩, ⟨_, hn', fun j y v' e1 e2 e3 => ?_⟩, fun y c e => ?_, I.free, I.freeC, fun p hp => ?_, tracked ⟨oL, hoL, I.free⟩ hs, by simpa using I.len⟩ ⟨_, hs, .inl rfl⟩
    · exact (hs.2 b (Nat.ne_of_lt (Nat.lt_of_lt_of_le (Heap.lt_size e) I.ok.above))).trans (I.base.keep b o e n hb hx)
    · obtain ⟨sl, e1⟩ := I.base.slot b o e n hb hx
      exact ⟨sl, (hs.2 b (Nat.ne_of_lt (Nat.lt_of_lt_of_le (Heap.lt_size e) I.ok.above))).trans e1⟩
    · obtain ⟨o', e1⟩ := I.base.there b o e hx
      exact ⟨o', (hs.2 b (Nat.ne_of_lt (Nat.lt_of_lt_of_le (Heap.lt_size e) I.ok.above))).trans e1⟩
    · by_cases hj : j = i
      · subst hj
        rw [hi] at e1; cases e1
        rw [List.getElem?_set_self hiσ] at e2
        cases e2
        exact ⟨u, r, .inl ⟨hk, by simp⟩⟩
      · rw [List.getElem?_set_ne (Ne.symm hj)] at e2
        obtain ⟨u', r', q⟩ := hl j y v' e1 e2 e3
        refine ⟨u', r', ?_⟩
        rcases q with ⟨k, e⟩ | ⟨k, c, e, z⟩
        · refine .inl ⟨k, ?_⟩
          have : y ≠ x := fun e => hj (nodup_ix hN e1 (e ▸ hi))
          simp [this, e]
        · exact .inr ⟨k, c, e, z.sameBut hs (cne y c e)⟩
    · obtain ⟨w', z⟩ := I.cell y c e
      exact ⟨w', z.sameBut hs (cne y c e)⟩
    · obtain ⟨e, n, ne, nf, d⟩ := I.pin p hp
      exact ⟨(hs.2 p.1 ne).trans e, n, ne, nf, d⟩
  · have hfn : X.fn x = true := by
      rcases hf with z | z
      · exact z
      · rw [z] at hk; cases hk
    obtain ⟨c, hc⟩ := I.ok.has x (.inl hk)
    obtain ⟨w', z⟩ := I.cell x c hc
    refine wpAny_storeName_cell I.ok.kind hk hc z (fun h' hc' hs => ?_)
    obtain ⟨oc, hoc, hocd⟩ := id z
    refine h { s with heap := h' } ⟨I.ok, I.os, I.bare, ⟨fun b o e n hb hx => ?_, fun b o e n hb hx => ?_, I.base.free, fun b o e hx => ?_, I.base.tups, I.base.frzs, I.base.tbls⟩, ⟨m, hn.sameBut hs (Ne.symm (cne x c hc)), fun j y v' e1 e2 e3 => ?_⟩, fun y c' e => ?_, I.free, I.freeC, fun p hp => ?_, tracked ⟨oc, hoc, I.freeC x c hc⟩ hs, by simpa using I.len⟩ ⟨c, hs, .inr hc⟩
    · exact (hs.2 b (Nat.ne_of_lt (Nat.lt_of_lt_of_le (Heap.lt_size e) (I.ok.cab x c hfn hc)))).trans (I.base.keep b o e n hb hx)
    · obtain ⟨sl, e1⟩ := I.base.slot b o e n hb hx
      exact ⟨sl, (hs.2 b (Nat.ne_of_lt (Nat.lt_of_lt_of_le (Heap.lt_size e) (I.ok.cab x c hfn hc)))).trans e1⟩
    · obtain ⟨o', e1⟩ := I.base.there b o e hx
      exact ⟨o', (hs.2 b (Nat.ne_of_lt (Nat.lt_of_lt_of_le (Heap.lt_size e) (I.ok.cab x c hfn hc)))).trans e1⟩
    · by_cases hj : j = i
      · subst hj
        rw [hi] at e1; cases e1
        rw [List.getElem?_set_self hiσ] at e2
        cases e2
        exact ⟨u, r, .inr ⟨.inl hk, c, hc, hc'⟩⟩
      · rw [List.getElem?_set_ne (Ne.symm hj)] at e2
        obtain ⟨u', r', q⟩ := hl j y v' e1 e2 e3
        refine ⟨u', r', ?_⟩
        rcases q with q | ⟨k, c', e, z'⟩
        · exact .inl q
        · refine .inr ⟨k, c', e, z'.sameBut hs ?_⟩
          rintro rfl
          exact hj (nodup_ix hN e1 (I.ok.inj _ _ _ e hc ▸ hi))
    · by_cases hcc : c' = c
      · subst hcc; exact ⟨_, hc'⟩
      · obtain ⟨w2, z2⟩ := I.cell y c' e
        exact ⟨w2, z2.sameBut hs hcc⟩
    · obtain ⟨e, n, ne, nf, d⟩ := I.pin p hp
      refine ⟨(hs.2 p.1 ?_).trans e, n, ne, nf, d⟩
      intro q
      rw [q, hoc] at e
      have q' : oc = p.2 := Option.some.inj e
      exact d w' (by rw [← q']; exact hocd)
theorem store_ok {M : Model} {A : Around} {E : Value → Shared → Prop} {i : Nat} {x : Str} {v : V} {u : Value} {Q : Unit → Shared → Prop} (I : Inv X pins σ H s) (hN : X.N.Nodup) (hi : X.N[i]? = some x) (hx : Loc X.env.scope x) (r : RelV v u)
    (h : ∀ s', Inv X pins (σ.set i (some v)) H s' → Q () s') (hf : X.fn x = true ∨ X.env.scope.names.lookup x = some .local := by first | exact .inl rfl | exact .inr rfl | assumption) : wpAny M A (storeName X.env x u) Q E s :=
  store_ok2 I hN hi hx r (fun s' I' _ => h s' I') hf
end
abbrev XK := Value → Option Addr → Hp → Prop
abbrev St := List (Option V)
abbrev VK := V → Hp → Prop
abbrev TE := St → Hp → VK → Prop
abbrev TT := St → Hp → (Bool → Hp → Prop) → Prop
abbrev TA := St → Hp → (List V → Hp → Prop) → Prop
structure Ends where
  nx : St → Hp → Prop
  rt : VK
  bk : St → Hp → Prop := fun _ _ => False
  ct : St → Hp → Prop := fun _ _ => False
abbrev TS := Ends → St → Hp → Prop
def EP (X : Cx) (pins : List (Addr × Obj)) (σ : St) (Q : VK) (u : Value) (s' : Shared) : Prop := ∃ v H', Inv X pins σ H' s' ∧ RelV v u ∧ Q v H'
def TP (X : Cx) (pins : List (Addr × Obj)) (σ : St) (Q : Bool → Hp → Prop) (b : Bool) (s' : Shared) : Prop := ∃ H', Inv X pins σ H' s' ∧ Q b H'
def AP (X : Cx) (pins : List (Addr × Obj)) (σ : St) (Q : List V → Hp → Prop) (us : List Value) (s' : Shared) : Prop := ∃ vs H', Inv X pins σ H' s' ∧ Vals vs us ∧ Q vs H'
def SP (X : Cx) (pins : List (Addr × Obj)) (D : Ends) (f : Flow) (s' : Shared) : Prop :=
  match f with
  | .next => ∃ σ' H', Inv X pins σ' H' s' ∧ D.nx σ' H'
  | .brk => ∃ σ' H', Inv X pins σ' H' s' ∧ D.bk σ' H'
  | .cont => ∃ σ' H', Inv X pins σ' H' s' ∧ D.ct σ' H'
  | .ret u => ∃ v σ' H', Inv X pins σ' H' s' ∧ RelV v u ∧ D.rt v H'
def PE (X : Cx) (e : Expr) (t : TE) : Prop :=
  ∀ (pins : List (Addr × Obj)) (s : Shared) (σ : St) (H : Hp) (Q : VK), Inv X pins σ H s → t σ H Q → wpAny (model X.prog X.w) X.A (eval e X.env) (EP X pins σ Q) X.xe s
def PT (X : Cx) (e : Expr) (t : TT) : Prop :=
  ∀ (pins : List (Addr × Obj)) (s : Shared) (σ : St) (H : Hp) (Q : Bool → Hp → Prop), Inv X pins σ H s → t σ H Q → wpAny (model X.prog X.w) X.A (isTrue e X.env (eval e X.env)) (TP X pins σ Q) X.xe s
def PW (X : Cx) (e : Expr) (t : TT) : Prop :=
  ∀ (whole : Sem Value) (pins : List (Addr × Obj)) (s : Shared) (σ : St) (H : Hp) (Q : Bool → Hp → Prop), Inv X pins σ H s → t σ H Q → wpAny (model X.prog X.w) X.A (isTrue e X.env whole) (TP X pins σ Q) X.xe s
theorem PW.pt {X : Cx} {e : Expr} {t : TT} (h : PW X e t) : PT X e t := h _
def PA (X : Cx) (es : List Expr) (t : TA) : Prop :=
  ∀ (pos : Pos) (pins : List (Addr × Obj)) (s : Shared) (σ : St) (H : Hp) (Q : List V → Hp → Prop), Inv X pins σ H s → t σ H Q → wpAny (model X.prog X.w) X.A (spliced (backTo pos (starEach es X.env))) (AP X pins σ Q) X.xe s
def PS (X : Cx) (st : Stmt) (t : TS) : Prop :=
  ∀ (pins : List (Addr × Obj)) (s : Shared) (σ : St) (H : Hp) (D : Ends), Inv X pins σ H s → t D σ H → wpAny (model X.prog X.w) X.A (exec st X.env) (SP X pins D) X.xe s
def PSs (X : Cx) (st : List Stmt) (t : TS) : Prop :=
  ∀ (pins : List (Addr × Obj)) (s : Shared) (σ : St) (H : Hp) (D : Ends), Inv X pins σ H s → t D σ H → wpAny (model X.prog X.w) X.A (execs st X.env) (SP X pins D) X.xe s
theorem thn {α : Type} {t : Sem α} {Q Q' : α → Shared → Prop} {M : Model} {A : Around} {E : Value → Shared → Prop} {s : Shared} (h : wpAny M A t Q E s) (hQ : ∀ a s, Q a s → Q' a s) : wpAny M A t Q' E s := wpAny_mono h hQ fun _ _ x => x
end L2
namespace L2
open PySem PySem.Spec PyProof.Rows DD
section
variable {X : Cx}
def tVar (i : Nat) : TE := fun σ H Q => ∃ v, σ[i]? = some (some v) ∧ Q v H
def tC (v : V) : TE := fun _ H Q => Q v H
theorem pe_var {i : Nat} {x : Str} {pos : Pos} (hN : X.N[i]? = some x) (hv : Vis X.env.scope x) (hd : (x == ("__debug__" : Str)) = false := by decide) (hcd : (x == ("__classdict__" : Str)) = false := by decide) : PE X (.Name x pos) (tVar i) := by
  intro pins s σ H Q I h
  obtain ⟨v, e, h⟩ := h
  obtain ⟨m, hn, hl⟩ := I.loc
  obtain ⟨u, r, l⟩ := hl i x v hN e hv
  have fin : EP X pins σ Q u s := ⟨v, H, I, r, h⟩
  rcases l with ⟨hk, hm⟩ | ⟨hk, c, hc, hcell⟩
  · exact wpAny_Name (wpAny_loadName_local I.ok.kind hk hn hm fin) hd
  · rcases hk with hk | hk
    · exact wpAny_Name (wpAny_loadName_cell I.ok.kind hk hc hcell fin) hd
    · exact wpAny_Name (wpAny_loadName_free I.ok.kind hk hc hcell fin hcd) hd
theorem pe_int {i j pos} : PE X (.Constant (.int i) j pos) (tC (.int i)) := fun _ _ _ H _ I h => wpAny_Constant_int ⟨.int i, H, I.tok _, ⟨_, rfl⟩, h⟩
theorem pe_bl {b j pos} : PE X (.Constant (.bool b) j pos) (tC (.bl b)) := fun _ _ _ H _ I h => Constant_bool ⟨.bl b, H, I, rfl, h⟩
def Gl (X : Cx) (x : Str) : Prop := X.env.kindOf x = some .globalImplicit
theorem ld_glob {E : Value → Shared → Prop} {pins : List (Addr × Obj)} {s : Shared} {σ : St} {H : Hp} {x : Str} {u : Value} {pos : Pos} {Q : Value → Shared → Prop} (I : Inv X pins σ H s) (hg : Gl X x) (hm : X.mg x = some u) (h : Q u s)
    (hd : (x == ("__debug__" : Str)) = false := by decide) : wpAny (model X.prog X.w) X.A (eval (.Name x pos) X.env) Q E s :=
  Calls.Name_function_global I.ok.kind hg (Calls.loadGlobal_global (by rw [I.ok.glob]; exact I.mod.glob.keeps I.bk) hm h) hd
theorem ld_blt {E : Value → Shared → Prop} {pins : List (Addr × Obj)} {s : Shared} {σ : St} {H : Hp} {x : Str} {u : Value} {pos : Pos} {Q : Value → Shared → Prop} (I : Inv X pins σ H s) (hg : Gl X x) (hm : X.mg x = none) (hv : bootBuiltins x = some u) (h : Q u s)
    (hn : x ≠ "__name__" := by decide) (hd : (x == ("__debug__" : Str)) = false := by decide) : wpAny (model X.prog X.w) X.A (eval (.Name x pos) X.env) Q E s := by
  obtain ⟨mb, h1, h2⟩ := I.mod.blt
  exact Calls.Name_function_global I.ok.kind hg (Calls.loadGlobal_builtin (by rw [I.ok.glob]; exact I.mod.glob.keeps I.bk) hm (by rw [I.ok.blt]; exact h1.keeps I.bk) ((h2 x hn).trans hv) h) hd
theorem pe_bltn {x : Str} {v : V} {u : Value} {pos : Pos} (hg : Gl X x) (hm : X.mg x = none) (hv : bootBuiltins x = some u) (r : RelV v u) (hn : x ≠ "__name__" := by decide) (hd : (x == ("__debug__" : Str)) = false := by decide) : PE X (.Name x pos) (tC v) :=
  fun _ _ _ H _ I h => ld_blt I hg hm hv ⟨v, H, I, r, h⟩ hn hd
variable {a b : Expr} {ta tb : TE} {pos : Pos}
def tB (t : TE) : TT := fun σ H Q => t σ H fun x H1 => ∃ c, x = .bl c ∧ Q c H1
theorem pt_val {e : Expr} {t : TE} (h : PE X e t) (he : ∀ whole, isTrue e X.env whole = (do let v ← whole; standAt e.pos; holding [v] (truthy v)) := by intro _; rfl) : PT X e (tB t) := by
  intro pins s σ H Q I hw
  refine isTrue_plain (thn (h pins s σ H _ I hw) fun v s1 ⟨x, H1, I1, r1, q1⟩ => ?_) (he _)
  obtain ⟨d, rfl, q⟩ := q1
  cases r1
  exact wpAny_truthy_bool ⟨H1, I1, q⟩
variable {tA tB' : TT} {rest : List Expr}
def tAnd (t u : TT) : TT := fun σ H Q => t σ H fun c H1 => if c = true then u σ H1 Q else Q false H1
def tOr (t u : TT) : TT := fun σ H Q => t σ H fun c H1 => if c = true then Q true H1 else u σ H1 Q
def tNot (t : TT) : TT := fun σ H Q => t σ H fun c H1 => Q (!c) H1
theorem pw_and1 (ha : PT X a tA) : PW X (.BoolOp .And [a] pos) tA := by
  intro wh pins s σ H Q I h
  refine isTrue_and (thn (ha pins s σ H Q I h) fun c s1 e => ?_)
  cases c with
  | true => exact isTrue_and_nil e
  | false => exact e
theorem pw_or1 (ha : PT X a tA) : PW X (.BoolOp .Or [a] pos) tA := by
  intro wh pins s σ H Q I h
  refine isTrue_or (thn (ha pins s σ H Q I h) fun c s1 e => ?_)
  cases c with
  | false => exact isTrue_or_nil e
  | true => exact e
theorem pw_and (ha : PT X a tA) (hb : PW X (.BoolOp .And (b :: rest) pos) tB') : PW X (.BoolOp .And (a :: b :: rest) pos) (tAnd tA tB') := by
  intro wh pins s σ H Q I h
  refine isTrue_and (thn (ha pins s σ H _ I h) fun c s1 ⟨H1, I1, q1⟩ => ?_)
  cases c with
  | true => exact hb wh pins s1 σ H1 Q I1 q1
  | false => exact ⟨H1, I1, q1⟩
theorem pw_or (ha : PT X a tA) (hb : PW X (.BoolOp .Or (b :: rest) pos) tB') : PW X (.BoolOp .Or (a :: b :: rest) pos) (tOr tA tB') := by
  intro wh pins s σ H Q I h
  refine isTrue_or (thn (ha pins s σ H _ I h) fun c s1 ⟨H1, I1, q1⟩ => ?_)
  cases c with
  | true => exact ⟨H1, I1, q1⟩
  | false => exact hb wh pins s1 σ H1 Q I1 q1
theorem pt_not (ha : PT X a tA) : PT X (.UnaryOp .Not a pos) (tNot tA) := by
  intro pins s σ H Q I h
  exact isTrue_not (ha pins s σ H (fun c H1 => Q (!c) H1) I h)
def tAndV (ta tb : TE) : TE := fun σ H Q => ta σ H fun x H1 => ∃ c, x = .bl c ∧ if c = true then tb σ H1 Q else Q (.bl false) H1
theorem pe_one {op} {t : TE} (h : PE X a t) : PE X (.BoolOp op [a] pos) t := fun pins s σ H Q I hw => BoolOp_one (h pins s σ H Q I hw)
theorem pe_and (ha : PE X a ta) (hb : PE X (.BoolOp .And (b :: rest) pos) tb) : PE X (.BoolOp .And (a :: b :: rest) pos) (tAndV ta tb) := by
  intro pins s σ H Q I h
  refine BoolOp_and (thn (ha pins s σ H _ I h) fun v s1 ⟨x, H1, I1, r1, q1⟩ => ?_)
  obtain ⟨c, rfl, q1⟩ := q1
  cases r1
  refine wpAny_truthy_bool ?_
  cases c with
  | true => exact hb pins s1 σ H1 Q I1 q1
  | false => exact ⟨.bl false, H1, I1, rfl, q1⟩
end
end L2
namespace L2
open PySem PySem.Spec PyProof.Rows DD
def SqL (K : PySem.W.Frag) (H : Hp) (a : Addr) (xs : List V) : Prop :=
  Rd H a (.lst xs) ∨
    ∃ (o : Obj) (its : Array Value) (n : Nat), K.lookup a = some o ∧ o.cls = .type "list" ∧ o.dict = none ∧ o.data = .seq its n ∧ its.size ≤ sizeLine ∧ Vals xs its.toList
def SqT (K : PySem.W.Frag) (H : Hp) (a : Addr) (xs : List V) : Prop :=
  Rd H a (.tup xs) ∨
    ∃ (o : Obj) (its : Array Value) (n : Nat), K.lookup a = some o ∧ o.cls = .type "tuple" ∧ o.data = .seq its n ∧ its.size ≤ sizeLine ∧ Vals xs its.toList
def absV : Value → Option V
  | .none => some .non
  | .bool b => some (.bl b)
  | .int i _ => some (.int i)
  | .str x _ => some (.str x)
  | .bytes b _ => some (.byt b)
  | .float b _ => some (.flt b)
  | .ref a => some (.ref a)
  | .type n => some (.ty n)
  | _ => none
theorem RelV.abs {x : V} {u : Value} (r : RelV x u) : absV u = some x := by
  cases x with
  | non => cases r; rfl
  | bl _ => cases r; rfl
  | int _ => obtain ⟨t, rfl⟩ := r; rfl
  | str _ => obtain ⟨t, rfl⟩ := r; rfl
  | byt _ => obtain ⟨t, rfl⟩ := r; rfl
  | flt _ => obtain ⟨t, rfl⟩ := r; rfl
  | ref _ => cases r; rfl
  | ty _ => cases r; rfl
theorem RelV.inj {x y : V} {u : Value} (r : RelV x u) (q : RelV y u) : x = y := Option.some.inj (r.abs.symm.trans q.abs)
theorem Vals.inj : ∀ {xs ys : List V} {us : List Value}, Vals xs us → Vals ys us → xs = ys
  | _, _, _, .nil, .nil => rfl
  | _, _, _, .cons r t, .cons r' t' => by rw [r.inj r', Vals.inj t t']
section
variable {X : Cx} {pins : List (Addr × Obj)} {σ : St} {H : Hp} {s : Shared} {a : Addr} {xs ys : List V}
theorem SqL.of {K : PySem.W.Frag} (h : H a = some (.lst xs)) : SqL K H a xs := .inl (.inl h)
theorem SqT.of {K : PySem.W.Frag} (h : H a = some (.tup xs)) : SqT K H a xs := .inl (.inl h)
theorem Inv.list (I : Inv X pins σ H s) (h : SqL X.K H a xs) : ∃ its : List Value, Vals xs its ∧ PlainL s.heap a its.toArray ∧ xs.length ≤ sizeLine := by
  rcases h with h | ⟨o, its, n, hk, hc, hd, hs, hz, r⟩
  · obtain ⟨z, its, n, r, e⟩ := h.ok I.hok
    exact ⟨its, r, ⟨_, n, e, rfl, rfl, rfl⟩, z⟩
  · refine ⟨its.toList, r, ⟨o, n, I.kIn a o hk, hc, hd, by simpa using hs⟩, ?_⟩
    have e := r.length
    simp only [Array.length_toList] at e
    omega
theorem Inv.tuple (I : Inv X pins σ H s) (h : SqT X.K H a xs) : ∃ its : List Value, Vals xs its ∧ IsTup s.heap a its.toArray ∧ xs.length ≤ sizeLine := by
  rcases h with h | ⟨o, its, n, hk, hc, hs, hz, r⟩
  · obtain ⟨z, its, r, p⟩ := h.ok I.hok
    exact ⟨its, r, p.tup, z⟩
  · refine ⟨its.toList, r, ⟨o, I.kIn a o hk, hc, n, by simpa using hs⟩, ?_⟩
    have e := r.length
    simp only [Array.length_toList] at e
    omega
theorem Inv.list_inj (I : Inv X pins σ H s) (h : SqL X.K H a xs) (h' : SqL X.K H a ys) : xs = ys := by
  obtain ⟨its, r, ⟨o, n, e, _, _, d⟩, _⟩ := I.list h
  obtain ⟨its', r', ⟨o', n', e', _, _, d'⟩, _⟩ := I.list h'
  rw [e] at e'; cases e'
  rw [d] at d'
  injection d' with d1 _
  have : its = its' := by simpa using congrArg Array.toList d1
  subst this
  exact r.inj r'
theorem Inv.tuple_inj (I : Inv X pins σ H s) (h : SqT X.K H a xs) (h' : SqT X.K H a ys) : xs = ys := by
  obtain ⟨its, r, ⟨o, e, _, n, d⟩, _⟩ := I.tuple h
  obtain ⟨its', r', ⟨o', e', _, n', d'⟩, _⟩ := I.tuple h'
  rw [e] at e'; cases e'
  rw [d] at d'
  injection d' with d1 _
  have : its = its' := by simpa using congrArg Array.toList d1
  subst this
  exact r.inj r'
end
abbrev Cx.wish (X : Cx) (E : Value → Shared → Prop) : Cx := { X with xe := E }
abbrev Cx.nox (X : Cx) : Cx := X.wish fun _ _ => False
theorem Cx.Ok.wish {X : Cx} (ok : X.Ok) (E : Value → Shared → Prop) : (X.wish E).Ok :=
  ⟨ok.mod, ok.kind, ok.glob, ok.blt, ok.above, ok.inj, ok.has, ok.cab, ok.hd, ok.frames, ok.stk, ok.exf, ok.bs, ok.bsz, ok.noex, ok.exfs, ok.funs, ok.frf⟩
theorem Cx.Ok.unwish {X : Cx} {E : Value → Shared → Prop} (ok : (X.wish E).Ok) : X.Ok :=
  ⟨ok.mod, ok.kind, ok.glob, ok.blt, ok.above, ok.inj, ok.has, ok.cab, ok.hd, ok.frames, ok.stk, ok.exf, ok.bs, ok.bsz, ok.noex, ok.exfs, ok.funs, ok.frf⟩
section
variable {X : Cx} {pins : List (Addr × Obj)} {σ : St} {H : Hp} {s : Shared} {E : Value → Shared → Prop}
theorem Inv.wish (I : Inv X pins σ H s) (E : Value → Shared → Prop) : Inv (X.wish E) pins σ H s := ⟨I.ok.wish E, I.os, I.bare, I.base, I.loc, I.cell, I.free, I.freeC, I.pin, I.hok, I.len⟩
theorem Inv.unwish (I : Inv (X.wish E) pins σ H s) : Inv X pins σ H s := ⟨I.ok.unwish, I.os, I.bare, I.base, I.loc, I.cell, I.free, I.freeC, I.pin, I.hok, I.len⟩
theorem SP.unwish {D : Ends} {f : Flow} {s' : Shared} (h : SP (X.wish E) pins D f s') : SP X pins D f s' := by
  cases f with
  | next => obtain ⟨σ', H', I, q⟩ := h; exact ⟨σ', H', I.unwish, q⟩
  | brk => obtain ⟨σ', H', I, q⟩ := h; exact ⟨σ', H', I.unwish, q⟩
  | cont => obtain ⟨σ', H', I, q⟩ := h; exact ⟨σ', H', I.unwish, q⟩
  | ret u => obtain ⟨v, σ', H', I, r, q⟩ := h; exact ⟨v, σ', H', I.unwish, r, q⟩
theorem PE.nox {e : Expr} {t : TE} (h : PE X.nox e t) : PE X e t := fun pins s σ H Q I hw =>
  wpAny_mono (h pins s σ H Q (I.wish _) hw) (fun _ _ ⟨v, H', I', r, q⟩ => ⟨v, H', I'.unwish, r, q⟩) fun _ _ z => False.elim z
theorem PT.nox {e : Expr} {t : TT} (h : PT X.nox e t) : PT X e t := fun pins s σ H Q I hw =>
  wpAny_mono (h pins s σ H Q (I.wish _) hw) (fun _ _ ⟨H', I', q⟩ => ⟨H', I'.unwish, q⟩) fun _ _ z => False.elim z
theorem PSs.nox {st : List Stmt} {t : TS} (h : PSs X.nox st t) : PSs X st t := fun pins s σ H D I hw =>
  wpAny_mono (h pins s σ H D (I.wish _) hw) (fun _ _ q => q.unwish) fun _ _ z => False.elim z
end
section
variable {X : Cx} {st : Stmt} {rest : List Stmt} {t u : TS} {e : Expr} {te : TE} {pos : Pos}
def tNext : TS := fun D σ H => D.nx σ H
def tSeq (t u : TS) : TS := fun D σ H => t { D with nx := u D } σ H
theorem pss_nil : PSs X [] tNext := fun _ _ σ H _ I h => wpAny_execs_nil ⟨σ, H, I, h⟩
theorem pss_cons (h1 : PS X st t) (h2 : PSs X rest u) : PSs X (st :: rest) (tSeq t u) := by
  intro pins s σ H D I h
  refine wpAny_execs_cons (thn (h1 pins s σ H { D with nx := u D } I h) fun f s1 q => ?_)
  cases f with
  | next =>
    obtain ⟨σ', H', I', q⟩ := q
    exact h2 pins s1 σ' H' D I' q
  | ret v => exact q
  | brk => exact q
  | cont => exact q
theorem pss_one (h1 : PS X st t) : PSs X [st] t := by
  intro pins s σ H D I h
  refine wpAny_execs_cons (thn (h1 pins s σ H D I h) fun f s1 q => ?_)
  cases f with
  | next => exact wpAny_execs_nil q
  | ret v => exact q
  | brk => exact q
  | cont => exact q
theorem Inv.quiet {pins : List (Addr × Obj)} {σ : St} {H : Hp} {s : Shared} (I : Inv X pins σ H s) : interactive X.env = false := by simp [interactive, I.ok.kind]
def tDrop (te : TE) : TS := fun D σ H => te σ H fun _ H1 => D.nx σ H1
theorem ps_expr (he : PE X e te) (hs : swapsWith e none pos.line X.env = pure false := by rfl) : PS X (.Expr e pos) (tDrop te) := by
  intro pins s σ H D I h
  exact wpAny_Expr_any (thn (he pins s σ H _ I h) fun v s1 ⟨x, H1, I1, r1, q1⟩ => ⟨σ, H1, I1, q1⟩) I.quiet hs
def tRet (te : TE) : TS := fun D σ H => te σ H D.rt
theorem ps_ret (he : PE X e te) : PS X (.Return (some e) pos) (tRet te) := by
  intro pins s σ H D I h
  exact wpAny_Return_some (thn (he pins s σ H _ I h) fun v s1 ⟨x, H1, I1, r1, q1⟩ => ⟨x, σ, H1, I1, r1, q1⟩)
def tIfS (c : TT) (t u : TS) : TS := fun D σ H => c σ H fun b H1 => if b = true then t D σ H1 else u D σ H1
theorem ps_if {c : Expr} {a b : List Stmt} {tc : TT} (hc : PT X c tc) (ha : PSs X a t) (hb : PSs X b u) : PS X (.If c a b pos) (tIfS tc t u) := by
  intro pins s σ H D I h
  refine wpAny_If (thn (hc pins s σ H _ I h) fun d s1 ⟨H1, I1, q1⟩ => ?_)
  cases d with
  | true => exact ha pins s1 σ H1 D I1 q1
  | false => exact hb pins s1 σ H1 D I1 q1
end
abbrev TG := V → St → Hp → (St → Hp → Prop) → Prop
abbrev TGs := List V → St → Hp → (St → Hp → Prop) → Prop
def PG (X : Cx) (target : Expr) (t : TG) : Prop :=
  ∀ (pins : List (Addr × Obj)) (s : Shared) (σ : St) (H : Hp) (v : V) (u : Value) (Q : St → Hp → Prop), Inv X pins σ H s → RelV v u → t v σ H Q →
    wpAny (model X.prog X.w) X.A (assign target X.env u) (fun _ s' => ∃ σ' H', Inv X pins σ' H' s' ∧ Q σ' H') X.xe s
def PGs (X : Cx) (ts : List Expr) (t : TGs) : Prop :=
  ∀ (pins : List (Addr × Obj)) (s : Shared) (σ : St) (H : Hp) (vs : List V) (us : List Value) (Q : St → Hp → Prop), Inv X pins σ H s → Vals vs us → t vs σ H Q →
    wpAny (model X.prog X.w) X.A (assignInOrder ((assignEach ts X.env).map (·.2)) us) (fun _ s' => ∃ σ' H', Inv X pins σ' H' s' ∧ Q σ' H') X.xe s
section
variable {X : Cx} {pos : Pos}
def gName (i : Nat) : TG := fun v σ H Q => Q (σ.set i (some v)) H
theorem pg_name {i : Nat} {x : Str} (hN : X.N.Nodup) (hi : X.N[i]? = some x) (hx : Loc X.env.scope x) (hf : X.fn x = true ∨ X.env.scope.names.lookup x = some .local := by first | exact .inl rfl | exact .inr rfl | assumption) : PG X (.Name x pos) (gName i) := by
  intro pins s σ H v u Q I r h
  exact wpAny_assign_Name (store_ok I hN hi hx r (fun s' I' => ⟨_, H, I', h⟩) hf)
def gNil : TGs := fun vs σ H Q => vs = [] ∧ Q σ H
def gCons (t : TG) (u : TGs) : TGs := fun vs σ H Q => ∃ v r, vs = v :: r ∧ t v σ H fun σ' H' => u r σ' H' Q
theorem pgs_nil : PGs X [] gNil := by
  intro pins s σ H vs us Q I r h
  obtain ⟨e, h⟩ := h
  subst e
  cases r
  exact assignInOrder_nil ⟨σ, H, I, h⟩
theorem pgs_cons {e : Expr} {es : List Expr} {t : TG} {u : TGs} (h1 : PG X e t) (h2 : PGs X es u)
    (hs : (assignEach (e :: es) X.env).map (·.2) = assign e X.env :: (assignEach es X.env).map (·.2) := by rfl) : PGs X (e :: es) (gCons t u) := by
  intro pins s σ H vs us Q I r h
  obtain ⟨v, vr, e1, h⟩ := h
  subst e1
  cases r with
  | cons r rr =>
    rw [hs]
    refine assignInOrder_cons (thn (h1 pins s σ H _ _ _ I r h) fun _ s1 ⟨σ1, H1, I1, q1⟩ => ?_)
    exact h2 pins s1 σ1 H1 _ _ Q I1 rr q1
def gTup (K : PySem.W.Frag) (n : Nat) (t : TGs) : TG := fun v σ H Q => ∃ a xs, v = .ref a ∧ SqT K H a xs ∧ xs.length = n ∧ t xs σ H Q
theorem pg_tup {es : List Expr} {k : Nat} {t : TGs} {n : Nat} (hc : X.calm = true) (h : PGs X es t)
    (hn : (assignEach es X.env).length = n := by rfl) (hst : (assignEach es X.env).findIdx? (·.1) = none := by rfl) : PG X (.Tuple es k pos) (gTup X.K n t) := by
  intro pins s σ H v u Q I r hw
  obtain ⟨a, xs, e1, hq, hl, hw⟩ := hw
  subst e1
  cases r
  obtain ⟨its, rv, ht, hz⟩ := I.tuple hq
  refine assign_Tuple_tuple (I.ok.hd hc) ht (by simp [hn, ← hl, rv.length]) hst fun h' hx => ?_
  have I1 : Inv X pins σ H { s with heap := h' } := I.kept (t' := s.toks) fun b o e => hx b o (Nat.ne_of_lt (Heap.lt_size e)) e
  exact h pins _ σ H xs _ Q I1 (by simpa using rv) hw
def tAsg (te : TE) (g : TG) : TS := fun D σ H => te σ H fun x H1 => g x σ H1 D.nx
theorem ps_asg {tg e : Expr} {te : TE} {g : TG} (he : PE X e te) (hg : PG X tg g) (hs : swapsWithSole [tg] e pos.line X.env = pure false := by rfl) (hw : swappedStores [tg] e X.env = pure none := by rfl)
    (h1 : (assignEach [tg] X.env).map (·.2) = [assign tg X.env] := by rfl) : PS X (.Assign [tg] e pos) (tAsg te g) := by
  intro pins s σ H D I h
  refine wpAny_Assign_stores (thn (he pins s σ H _ I h) fun v s1 ⟨x, H1, I1, r1, q1⟩ => ?_) hs hw
  rw [h1]
  exact thn (hg pins s1 σ H1 x v _ I1 r1 q1) fun _ s2 q => q
theorem ps_set {i : Nat} {x : Str} {e : Expr} {te : TE} {pos' : Pos} (hN : X.N.Nodup) (hi : X.N[i]? = some x) (hx : Loc X.env.scope x) (he : PE X e te) (hs : swapsWith e (some (.Name x pos')) pos.line X.env = pure false := by rfl) (hf : X.fn x = true ∨ X.env.scope.names.lookup x = some .local := by first | exact .inl rfl | exact .inr rfl | assumption) :
    PS X (.Assign [.Name x pos'] e pos) (tAsg te (gName i)) := by
  intro pins s σ H D I h
  refine wpAny_Assign_Name (thn (he pins s σ H _ I h) fun v s1 ⟨y, H1, I1, r1, q1⟩ => ?_) hs
  exact store_ok I1 hN hi hx r1 (fun s2 I2 => ⟨_, H1, I2, q1⟩) hf
end
section
variable {X : Cx} {pos : Pos}
def tWhile (c : TT) (tb : TS) : TS := fun D σ H => ∃ W : Nat → St → Hp → Prop, (∃ m, W m σ H) ∧ ∀ m σ H, W m σ H →
  c σ H fun b H1 => if b = true then ∃ N : St → Hp → Prop, (∀ σ' H', N σ' H' → ∃ m', m' < m ∧ W m' σ' H') ∧ tb { D with nx := N, ct := N, bk := D.nx } σ H1 else D.nx σ H1
theorem ps_while {c : Expr} {body : List Stmt} {tc : TT} {tb : TS} (hp : PassesOwn (model X.prog X.w) X.A X.env X.xe) (hc : PT X c tc) (hb : PSs X body tb) : PS X (.While c body [] pos) (tWhile tc tb) := by
  intro pins s σ H D I h
  obtain ⟨W, ⟨m0, w0⟩, turn⟩ := h
  refine wpAny_While (codeAny_whileLoop (fun n s' => ∃ σ' H', Inv X pins σ' H' s' ∧ W n σ' H') ?_ m0 ⟨σ, H, I, w0⟩)
  rintro n s1 ⟨σ1, H1, I1, w1⟩
  refine wpAny_passesOwn hp (thn (hc pins s1 σ1 H1 _ I1 (turn n σ1 H1 w1)) fun b s2 ⟨H2, I2, q2⟩ => ?_)
  cases b with
  | true =>
    obtain ⟨N, hN, q2⟩ := q2
    rw [if_pos rfl]
    refine wpAny_passesOwn hp (thn (hb pins s2 σ1 H2 _ I2 q2) fun f s3 q3 => ?_)
    cases f with
    | next =>
      obtain ⟨σ3, H3, I3, n3⟩ := q3
      obtain ⟨m', hm, w3⟩ := hN σ3 H3 n3
      exact ⟨m', hm, σ3, H3, I3, w3⟩
    | cont =>
      obtain ⟨σ3, H3, I3, n3⟩ := q3
      obtain ⟨m', hm, w3⟩ := hN σ3 H3 n3
      exact ⟨m', hm, σ3, H3, I3, w3⟩
    | brk => exact q3
    | ret v => exact q3
  | false =>
    rw [if_neg Bool.false_ne_true]
    exact wpAny_execs_nil ⟨σ1, H2, I2, q2⟩
end
structure It where
  go : Nat → Hp → Prop
  yld : Nat → Hp → V → Hp → Prop
  stop : Nat → Hp → Prop
def FpOk (X : Cx) (pins : List (Addr × Obj)) (H : Hp) (b : Addr) : Prop :=
  H b = none ∧ b ≠ X.env.locals ∧ b ∉ X.fs ∧ (b ∈ X.ex ∨ X.s₀.heap.objs.size ≤ b) ∧ (∀ x c, X.env.cells.lookup x = some c → c ≠ b) ∧ ∀ p ∈ X.pn ++ pins, p.1 ≠ b
theorem Inv.fpOk {X : Cx} {pins : List (Addr × Obj)} {σ : St} {H H' : Hp} {s : Shared} {b : Addr} (I : Inv X pins σ H s) (hb : s.heap.objs.size ≤ b) (hn : H' b = none) : FpOk X pins H' b := by
  refine ⟨hn, Nat.ne_of_gt (Nat.lt_of_lt_of_le I.lt hb), I.nofs hb, .inr (Nat.le_trans I.sz hb), fun x c e z => ?_, fun p hp z => ?_⟩
  · obtain ⟨v, q⟩ := I.cell x c e
    exact absurd (Nat.lt_of_lt_of_le q.lt (by rw [z]; exact hb)) (Nat.lt_irrefl _)
  · exact absurd (Nat.lt_of_lt_of_le (Heap.lt_size (I.pin p hp).1) (by rw [z]; exact hb)) (Nat.lt_irrefl _)
structure Turn (P : Program) (w : World) (K : PySem.W.Frag) (tg : Expr) (J : It) (fp : List Addr) (it : Addr) (tn : Nat → Heap → Prop) : Prop where
  mem : it ∈ fp
  obj : ∀ i h, tn i h → ∀ b ∈ fp, ∃ o, h.get? b = some o ∧ ∀ v, o.data ≠ .cell v
  keep : ∀ i h h', tn i h → (∀ b ∈ fp, ∀ o, h.get? b = some o → h'.get? b = some o) → tn i h'
  item : ∀ (X : Cx), X.prog = P → X.w = w → X.K = K → X.calm = true → ∀ (i : Nat) (pins : List (Addr × Obj)) (s : Shared) (σ : St) (H : Hp) (E : Value → Shared → Prop), Inv X pins σ H s → (∀ b ∈ fp, FpOk X pins H b) → tn i s.heap → J.go i H →
    wpAny (model P w) X.A (pyNext (.ref it)) (fun r s1 => ∃ u, r = some u ∧
      wpAny (model P w) X.A (letOwnedTupleGo tg (.ref it) u) (fun _ s2 => ∃ x H', Inv X pins σ H' s2 ∧ RelV x u ∧ J.yld i H x H' ∧ tn (i + 1) s2.heap ∧ ∀ b ∈ fp, H' b = none) E s1) E s
  done : ∀ (X : Cx), X.prog = P → X.w = w → X.K = K → X.calm = true → ∀ (i : Nat) (pins : List (Addr × Obj)) (s : Shared) (σ : St) (H : Hp) (E : Value → Shared → Prop), Inv X pins σ H s → (∀ b ∈ fp, FpOk X pins H b) → tn i s.heap → J.stop i H →
    wpAny (model P w) X.A (pyNext (.ref it)) (fun r s1 => r = none ∧ Inv X pins σ H s1) E s
  self : ∀ (A : Around) (i : Nat) (s : Shared) (Q : Value → Shared → Prop) (E : Value → Shared → Prop), tn i s.heap → Q (.ref it) s → wpAny (model P w) A (pyIter (.ref it)) Q E s
abbrev TI := St → Hp → (It → Hp → Prop) → Prop
def PIE (X : Cx) (pins : List (Addr × Obj)) (σ : St) (tg : Expr) (R : It → Hp → Prop) (itv : Value) (s2 : Shared) : Prop :=
  ∃ (it : Addr) (fp : List Addr) (tn : Nat → Heap → Prop) (J : It) (H' : Hp), itv = .ref it ∧ Inv X pins σ H' s2 ∧ Turn X.prog X.w X.K tg J fp it tn ∧ tn 0 s2.heap ∧ (∀ b ∈ fp, FpOk X pins H' b) ∧ R J H'
def PI (X : Cx) (tg iter : Expr) (wi : TI) : Prop :=
  ∀ (pins : List (Addr × Obj)) (s : Shared) (σ : St) (H : Hp) (R : It → Hp → Prop), Inv X pins σ H s → wi σ H R →
    wpAny (model X.prog X.w) X.A (eval iter X.env) (fun v s1 => wpAny (model X.prog X.w) X.A (pyIter v) (PIE X pins σ tg R) X.xe s1) X.xe s
theorem go_of {M : Model} {A : Around} {E : Value → Shared → Prop} {s : Shared} {tg : Expr} {it : Addr} {u : Value} {o : Obj} {n : String} {vs : Array Value} {Q : Unit → Shared → Prop} (ho : s.heap.get? it = some o) (hc : o.cls = .type n) (hd : o.data = .fields vs)
    (hn : ["enumerate", "zip", "dict_itemiterator", "dict_reverseitemiterator", "odict_iterator", "itertools.zip_longest", "itertools.pairwise"].contains n = false) (hQ : Q () s) : wpAny M A (letOwnedTupleGo tg (.ref it) u) Q E s := by
  unfold letOwnedTupleGo
  cases tg <;> first
    | exact wpAny_pure hQ
    | (cases u <;> first
        | exact wpAny_pure hQ
        | (refine wpAny_bind (wpAny_load ho ?_)
           rw [hc, hd]
           show wpAny M A (if (["enumerate", "zip", "dict_itemiterator", "dict_reverseitemiterator", "odict_iterator", "itertools.zip_longest", "itertools.pairwise"].contains n && vs[0]? == some (rawInt _)) = true then _ else _) Q E s
           rw [if_neg (by intro h; rw [hn, Bool.false_and] at h; cases h)]
           exact wpAny_pure hQ))
def Itt (K : PySem.W.Frag) (a : Addr) : It :=
  ⟨fun i H => ∃ xs x, SqT K H a xs ∧ xs[i]? = some x, fun i H x H' => H' = H ∧ ∀ xs, SqT K H a xs → xs[i]? = some x, fun i H => ∃ xs, SqT K H a xs ∧ xs.length ≤ i⟩
def Itr (lo : Int) (n : Nat) : It := ⟨fun i _ => i < n, fun i H x H' => H' = H ∧ x = .int (lo + i), fun i _ => n ≤ i⟩
theorem turn_tuple {P : Program} {w : World} {K : PySem.W.Frag} {tg : Expr} (a it : Addr) : Turn P w K tg (Itt K a) [it] it (fun i h => h.IsTupleIter it a i) where
  mem := by simp
  obj := fun i h st b hb => by
    have e : b = it := by simpa using hb
    subst e
    obtain ⟨o, e, c, d⟩ := st
    exact ⟨o, e, fun v z => by rw [d] at z; cases z⟩
  keep := fun i h h' st k => st.at fun o e => k it (by simp) o e
  item := by
    intro X hP hw hK hc i pins s σ H E I hf st hg
    subst hP hw hK
    obtain ⟨xs, x, hq, hx⟩ := hg
    obtain ⟨its, rv, p, hz⟩ := I.tuple hq
    obtain ⟨u, hu, ru⟩ := rv.get hx
    obtain ⟨f0, f1, f2, f3, f4, f5⟩ := hf it (by simp)
    refine wpAny_pyNext_tuple_item st (show s.heap.IsTuple a its.toArray from p) (x := u) (by simpa using hu) fun h' st' sb => ?_
    have I1 : Inv X pins σ H { s with heap := h' } := I.turned (t' := s.toks) (fun b o hb e => (sb.2 b hb).trans e) f0 f1 f3 f4 f5
    obtain ⟨o, e, c, d⟩ := id st'
    exact ⟨u, rfl, go_of (s := { s with heap := h' }) e c d (by decide) ⟨x, H, I1, ru, ⟨rfl, fun ys hy => by rw [I.tuple_inj hy hq]; exact hx⟩, st', fun b hb => (hf b hb).1⟩⟩
  done := by
    intro X hP hw hK hc i pins s σ H E I hf st hg
    subst hP hw hK
    obtain ⟨xs, hq, hx⟩ := hg
    obtain ⟨its, rv, p, hz⟩ := I.tuple hq
    obtain ⟨f0, f1, f2, f3, f4, f5⟩ := hf it (by simp)
    have hl := rv.length
    exact wpAny_pyNext_tuple_end (I.ok.hd hc) st (show s.heap.IsTuple a its.toArray from p) (by simp; omega) fun h' eb => ⟨rfl, I.turned (t' := s.toks) (fun b o hb e => eb b o hb e) f0 f1 f3 f4 f5⟩
  self := fun _ _ _ _ _ st h => wpAny_pyIter_tupleiter st h
theorem turn_range {P : Program} {w : World} {K : PySem.W.Frag} {tg : Expr} (it : Addr) (lo : Int) (n : Nat) : Turn P w K tg (Itr lo n) [it] it (fun i h => IsRangeIter h it (lo + (i : Nat) * 1) ((n : Int) - (i : Nat)) 1) where
  mem := by simp
  obj := fun i h st b hb => by
    have e : b = it := by simpa using hb
    subst e
    exact ⟨_, st, fun v z => by
      have z' : Data.fields _ = Data.cell v := z
      cases z'⟩
  keep := fun i h h' st k => k it (by simp) _ st
  item := by
    intro X hP hw hK hc i pins s σ H E I hf st hg
    subst hP hw hK
    obtain ⟨f0, f1, f2, f3, f4, f5⟩ := hf it (by simp)
    have W := Walks.range (prog := X.prog) (w := X.w) (I.ok.hd hc) it lo 1 n
    refine W.item i s _ _ hg st fun v h' tk hv st' kk => ?_
    obtain ⟨t, rfl⟩ := hv
    have I1 : Inv X pins σ H { s with heap := h', toks := tk } := I.turned (fun b o hb e => kk b o (by simpa using hb) e) f0 f1 f3 f4 f5
    refine ⟨_, rfl, go_of (s := { s with heap := h', toks := tk }) (n := "range_iterator") st' rfl rfl (by decide) ⟨.int (lo + i), H, I1, ⟨t, ?_⟩, ⟨rfl, rfl⟩, st', fun b hb => (hf b hb).1⟩⟩
    rw [Int.mul_one]
  done := by
    intro X hP hw hK hc i pins s σ H E I hf st hg
    subst hP hw hK
    obtain ⟨f0, f1, f2, f3, f4, f5⟩ := hf it (by simp)
    exact wpAny_pyNext_range_end (I.ok.hd hc) st (by have : n ≤ i := hg; omega) fun h' eb => ⟨rfl, I.turned (t' := s.toks) (fun b o hb e => eb b o hb e) f0 f1 f3 f4 f5⟩
  self := fun _ _ _ _ _ st h => wpAny_pyIter_rangeiter st h
end L2
namespace L2
open PySem PySem.Spec PyProof.Rows DD
section
variable {X : Cx} {tg : Expr}
def iTup (K : PySem.W.Frag) (tl : TE) : TI := fun σ H R => tl σ H fun x H1 => ∃ a, x = .ref a ∧ (∃ xs, SqT K H1 a xs) ∧ R (Itt K a) H1
theorem pi_tup {l : Expr} {tl : TE} (hl : PE X l tl) : PI X tg l (iTup X.K tl) := by
  intro pins s σ H R I h
  refine thn (hl pins s σ H _ I h) fun v s1 ⟨x, H1, I1, r1, q1⟩ => ?_
  obtain ⟨a, e, ⟨xs, hq⟩, q⟩ := q1
  subst e
  cases r1
  obtain ⟨its, rv, p, hz⟩ := I1.tuple hq
  refine wpAny_pyIter_tuple (show s1.heap.IsTuple a its.toArray from p) ?_
  refine ⟨s1.heap.objs.size, [s1.heap.objs.size], _, _, H1, rfl, I1.kept (t' := s1.toks) fun b o e => Heap.get?_push_of_some _ e, turn_tuple a _, ⟨_, Heap.get?_push_size _ rfl, rfl, rfl⟩, fun b hb => ?_, q⟩
  have e : b = s1.heap.objs.size := by simpa using hb
  subst e
  exact I1.fpOk (Nat.le_refl _) (I1.hok.fresh (Nat.le_refl _))
theorem range_it {pins : List (Addr × Obj)} {σ : St} {H : Hp} {s : Shared} {R : It → Hp → Prop} {E : Value → Shared → Prop} {lo hi : Int} {t u v : Tok} {tk : Nat} (I : Inv X pins σ H s) (h1 : -(2 ^ 62) ≤ lo) (h2 : lo < 2 ^ 62) (h3 : -(2 ^ 62) ≤ hi) (h4 : hi < 2 ^ 62)
    (q : R (Itr lo (hi - lo).toNat) H) : wpAny (model X.prog X.w) X.A (pyIter (.ref s.heap.objs.size)) (PIE X pins σ tg R) E { s with heap := s.heap.push { cls := .type "range", data := .fields #[.int lo t, .int hi u, .int 1 v] }, toks := tk } := by
  refine wpAny_pyIter_range (IsRange.new ..) (small_one h1 h2 h3 h4) ?_
  have I1 : Inv X pins σ H { s with heap := s.heap.push { cls := .type "range", data := .fields #[.int lo t, .int hi u, .int 1 v] }, toks := tk } := I.kept fun b o e => Heap.get?_push_of_some _ e
  refine ⟨(s.heap.push { cls := .type "range", data := .fields #[.int lo t, .int hi u, .int 1 v] }).objs.size, [(s.heap.push { cls := .type "range", data := .fields #[.int lo t, .int hi u, .int 1 v] }).objs.size], _, _, H, rfl,
    I1.kept (t' := tk) fun b o e => Heap.get?_push_of_some _ e, turn_range _ lo (hi - lo).toNat, ?_, fun b hb => ?_, q⟩
  · have e1 : lo + ((0 : Nat) : Int) * 1 = lo := by simp
    have e2 : (((hi - lo).toNat : Nat) : Int) - ((0 : Nat) : Int) = Builtin.Range.rangeSize lo hi 1 := by rw [rangeSize_one]; split <;> omega
    show IsRangeIter _ _ (lo + ((0 : Nat) : Int) * 1) ((((hi - lo).toNat : Nat) : Int) - ((0 : Nat) : Int)) 1
    rw [e1, e2]
    exact Heap.get?_push_size _ rfl
  · have e : b = (s.heap.push { cls := .type "range", data := .fields #[.int lo t, .int hi u, .int 1 v] }).objs.size := by simpa using hb
    subst e
    exact I1.fpOk (Nat.le_refl _) (I1.hok.fresh (Nat.le_refl _))
def iRng1 (ta : TA) : TI := fun σ H R => ta σ H fun vs H1 => ∃ j : Int, vs = [.int j] ∧ -(2 ^ 62) ≤ j ∧ j < 2 ^ 62 ∧ R (Itr 0 j.toNat) H1
def iRng2 (ta : TA) : TI := fun σ H R => ta σ H fun vs H1 => ∃ i j : Int, vs = [.int i, .int j] ∧ (-(2 ^ 62) ≤ i ∧ i < 2 ^ 62 ∧ -(2 ^ 62) ≤ j ∧ j < 2 ^ 62) ∧ R (Itr i (j - i).toNat) H1
theorem pi_range1 {a : Expr} {ta : TA} {p pos : Pos} (hg : Gl X "range") (hm : X.mg "range" = none) (ha : PA X [a] ta) (hs : starEach [a] X.env = [(false, eval a X.env)] := by rfl) : PI X tg (.Call (.Name "range" p) [a] [] pos) (iRng1 ta) := by
  intro pins s σ H R I h
  refine Call_ (ld_blt I hg hm boot_range (PyProof.Rows.callWith_type1 (thn (ha pos pins s σ H _ I h) fun us s1 ⟨vs, H1, I1, r1, q1⟩ => ?_) hs rfl))
  obtain ⟨j, e, q1, q2, q⟩ := q1
  subst e
  cases r1 with
  | cons r rr =>
    cases rr
    obtain ⟨t, rfl⟩ := r
    exact call_range_1 (range_it I1 (by omega) (by omega) q1 q2 (by simpa using q))
theorem pi_range2 {a b : Expr} {ta : TA} {p pos : Pos} (hg : Gl X "range") (hm : X.mg "range" = none) (ha : PA X [a, b] ta) (hs : starEach [a, b] X.env = [(false, eval a X.env), (false, eval b X.env)] := by rfl) (hs2 : starEach [b] X.env = [(false, eval b X.env)] := by rfl) :
    PI X tg (.Call (.Name "range" p) [a, b] [] pos) (iRng2 ta) := by
  intro pins s σ H R I h
  refine Call_ (ld_blt I hg hm boot_range (PyProof.Rows.callWith_type1 (thn (ha pos pins s σ H _ I h) fun us s1 ⟨vs, H1, I1, r1, q1⟩ => ?_) (by rw [hs, hs2]) (by rw [hs2]; rfl)))
  obtain ⟨i, j, e, ⟨q1, q2, q3, q4⟩, q⟩ := q1
  subst e
  cases r1 with
  | cons r rr =>
    cases rr with
    | cons r' rr =>
      cases rr
      obtain ⟨t, rfl⟩ := r
      obtain ⟨t', rfl⟩ := r'
      exact call_range_2 (range_it I1 q1 q2 q3 q4 q)
def tFor (wi : TI) (g : TG) (tb : TS) : TS := fun D σ H => wi σ H fun J H1 => ∃ W : Nat → Nat → St → Hp → Prop, (∃ m, W 0 m σ H1) ∧ ∀ i m σ H, W i m σ H →
  (J.stop i H ∧ D.nx σ H) ∨ (J.go i H ∧ ∃ N : St → Hp → Prop, (∀ σ' H', N σ' H' → ∃ m', m' < m ∧ W (i + 1) m' σ' H') ∧ ∀ x H', J.yld i H x H' → g x σ H' fun σ2 H2 => tb { D with nx := N, ct := N, bk := D.nx } σ2 H2)
def pinsAt (fp : List Addr) (h : Heap) : List (Addr × Obj) := fp.filterMap fun b => (h.get? b).map fun o => (b, o)
theorem mem_pinsAt {fp : List Addr} {h : Heap} {b : Addr} {o : Obj} (hb : b ∈ fp) (e : h.get? b = some o) : (b, o) ∈ pinsAt fp h := List.mem_filterMap.mpr ⟨b, hb, by rw [e]; rfl⟩
theorem of_pinsAt {fp : List Addr} {h : Heap} {p : Addr × Obj} (hp : p ∈ pinsAt fp h) : p.1 ∈ fp ∧ h.get? p.1 = some p.2 := by
  obtain ⟨b, hb, e⟩ := List.mem_filterMap.mp hp
  cases q : h.get? b with
  | none => rw [q] at e; cases e
  | some o =>
    rw [q] at e
    have e' : (b, o) = p := Option.some.inj e
    subst e'
    exact ⟨hb, q⟩
theorem Inv.pinned {pins : List (Addr × Obj)} {σ : St} {H : Hp} {s : Shared} {fp : List Addr} (I : Inv X pins σ H s) (hf : ∀ b ∈ fp, FpOk X pins H b) (ho : ∀ b ∈ fp, ∃ o, s.heap.get? b = some o ∧ ∀ v, o.data ≠ .cell v) : Inv X (pins ++ pinsAt fp s.heap) σ H s :=
  I.pins_of fun p hp => (List.mem_append.mp hp).elim (fun z => I.pin p (List.mem_append_right _ z)) fun z => by
    obtain ⟨hb, e⟩ := of_pinsAt z
    obtain ⟨f0, f1, f2, _⟩ := hf p.1 hb
    obtain ⟨o, e', d⟩ := ho p.1 hb
    rw [e] at e'; cases e'
    exact ⟨e, f0, f1, f2, d⟩
theorem Inv.unpinned {pins pl : List (Addr × Obj)} {σ : St} {H : Hp} {s : Shared} (I : Inv X (pins ++ pl) σ H s) : Inv X pins σ H s := I.pins_of fun p hp => I.pin p (List.mem_append_right _ (List.mem_append_left _ hp))
theorem ps_for {iter : Expr} {body : List Stmt} {wi : TI} {g : TG} {tb : TS} {pos : Pos} (hp : PassesOwn (model X.prog X.w) X.A X.env X.xe) (hc : X.calm = true) (hi : PI X tg iter wi) (hg : PG X tg g) (hb : PSs X body tb)
    (hs : ∀ x, foldedSetIterable iter X.env x = pure x := by intro _; rfl) : PS X (.For tg iter body [] pos) (tFor wi g tb) := by
  intro pins s σ H D I h
  refine wpAny_For (thn (hi pins s σ H _ I h) fun v s1 h1 => thn h1 fun itv s2 h2 => ?_) hs
  obtain ⟨it, fp, tn, J, H2, e, I2, T, st2, f2, W, ⟨m0, w0⟩, turn⟩ := h2
  subst e
  have stat : ∀ {H' : Hp}, (∀ b ∈ fp, H' b = none) → ∀ b ∈ fp, FpOk X pins H' b := fun hn b hb => ⟨hn b hb, (f2 b hb).2⟩
  refine codeAny_forLoop_any (fun n s' => ∃ i σ' H', Inv X pins σ' H' s' ∧ tn i s'.heap ∧ (∀ b ∈ fp, H' b = none) ∧ W i n σ' H') ?_ m0 ⟨0, σ, H2, I2, st2, fun b hb => (f2 b hb).1, w0⟩
  rintro n s3 ⟨i, σ3, H3, I3, st3, fr3, w3⟩
  rcases turn i n σ3 H3 w3 with ⟨stop, qn⟩ | ⟨go, N, hN, step⟩
  · refine wpAny_passesOwn hp (thn (T.done X rfl rfl rfl hc i pins s3 σ3 H3 X.xe I3 (stat fr3) st3 stop) fun r s4 ⟨hr, I4⟩ => ?_)
    subst hr
    exact wpAny_execs_nil ⟨σ3, H3, I4, qn⟩
  · refine wpAny_passesOwn hp (thn (T.item X rfl rfl rfl hc i pins s3 σ3 H3 X.xe I3 (stat fr3) st3 go) fun r s4 ⟨u, hr, h4⟩ => ?_)
    subst hr
    refine wpAny_passesOwn hp (thn h4 fun _ s5 ⟨x, H5, I5, r5, y5, st5, fr5⟩ => ?_)
    have I5' := I5.pinned (stat fr5) (T.obj _ _ st5)
    refine wpAny_passesOwn hp (thn (hg _ s5 σ3 H5 x u _ I5' r5 (step x H5 y5)) fun _ s6 ⟨σ6, H6, I6, q6⟩ => ?_)
    refine wpAny_passesOwn hp (thn (hb _ s6 σ6 H6 _ I6 q6) fun f s7 q7 => ?_)
    have again : ∀ {σ7 : St} {H7 : Hp}, Inv X (pins ++ pinsAt fp s5.heap) σ7 H7 s7 → N σ7 H7 → ∃ m, m < n ∧ ∃ i σ' H', Inv X pins σ' H' s7 ∧ tn i s7.heap ∧ (∀ b ∈ fp, H' b = none) ∧ W i m σ' H' := fun {σ7 H7} I7 n7 => by
      obtain ⟨m', hm, w7⟩ := hN σ7 H7 n7
      refine ⟨m', hm, i + 1, σ7, H7, I7.unpinned, T.keep _ _ _ st5 fun b hb o e => (I7.pin (b, o) (List.mem_append_right _ (List.mem_append_right _ (mem_pinsAt hb e)))).1, fun b hb => ?_, w7⟩
      obtain ⟨o, e, d⟩ := T.obj _ _ st5 b hb
      exact (I7.pin (b, o) (List.mem_append_right _ (List.mem_append_right _ (mem_pinsAt hb e)))).2.1
    cases f with
    | next => obtain ⟨σ7, H7, I7, n7⟩ := q7; exact again I7 n7
    | cont => obtain ⟨σ7, H7, I7, n7⟩ := q7; exact again I7 n7
    | brk => obtain ⟨σ7, H7, I7, q7⟩ := q7; exact ⟨σ7, H7, I7.unpinned, q7⟩
    | ret v => obtain ⟨x7, σ7, H7, I7, r7, q7⟩ := q7; exact ⟨x7, σ7, H7, I7.unpinned, r7, q7⟩
end
theorem for_tup {K : PySem.W.Frag} {a : Addr} {xs : List V} {g : TG} {tb : TS} {D : Ends} {σ : St} {H : Hp} (Pv : Nat → St → Hp → Prop) (h0 : Pv 0 σ H) (hl : ∀ i σ H, i ≤ xs.length → Pv i σ H → SqT K H a xs)
    (hs : ∀ i x σ H, xs[i]? = some x → Pv i σ H → g x σ H fun σ2 H2 => tb { D with nx := Pv (i + 1), ct := Pv (i + 1), bk := D.nx } σ2 H2) (hd : ∀ σ H, Pv xs.length σ H → D.nx σ H) :
    ∃ W : Nat → Nat → St → Hp → Prop, (∃ m, W 0 m σ H) ∧ ∀ i m σ H, W i m σ H →
      ((Itt K a).stop i H ∧ D.nx σ H) ∨ ((Itt K a).go i H ∧ ∃ N : St → Hp → Prop, (∀ σ' H', N σ' H' → ∃ m', m' < m ∧ W (i + 1) m' σ' H') ∧ ∀ x H', (Itt K a).yld i H x H' → g x σ H' fun σ2 H2 => tb { D with nx := N, ct := N, bk := D.nx } σ2 H2) := by
  refine ⟨fun i m σ H => m = xs.length - i ∧ i ≤ xs.length ∧ Pv i σ H, ⟨xs.length, by simp, Nat.zero_le _, h0⟩, ?_⟩
  rintro i m σ H ⟨rfl, hi, p⟩
  have q := hl i σ H hi p
  by_cases hlt : i < xs.length
  · refine .inr ⟨⟨xs, xs[i], q, by simp [hlt]⟩, Pv (i + 1), fun σ' H' p' => ⟨xs.length - (i + 1), by omega, rfl, hlt, p'⟩, fun x H' y => ?_⟩
    obtain ⟨e, y⟩ := y
    subst e
    exact hs i x σ _ (y xs q) p
  · have e : i = xs.length := by omega
    subst e
    exact .inl ⟨⟨xs, q, Nat.le_refl _⟩, hd σ H p⟩
theorem for_range {lo : Int} {n : Nat} {g : TG} {tb : TS} {D : Ends} {σ : St} {H : Hp} (Pv : Nat → St → Hp → Prop) (h0 : Pv 0 σ H)
    (hs : ∀ i σ H, i < n → Pv i σ H → g (.int (lo + i)) σ H fun σ2 H2 => tb { D with nx := Pv (i + 1), ct := Pv (i + 1), bk := D.nx } σ2 H2) (hd : ∀ σ H, Pv n σ H → D.nx σ H) :
    ∃ W : Nat → Nat → St → Hp → Prop, (∃ m, W 0 m σ H) ∧ ∀ i m σ H, W i m σ H →
      ((Itr lo n).stop i H ∧ D.nx σ H) ∨ ((Itr lo n).go i H ∧ ∃ N : St → Hp → Prop, (∀ σ' H', N σ' H' → ∃ m', m' < m ∧ W (i + 1) m' σ' H') ∧ ∀ x H', (Itr lo n).yld i H x H' → g x σ H' fun σ2 H2 => tb { D with nx := N, ct := N, bk := D.nx } σ2 H2) := by
  refine ⟨fun i m σ H => m = n - i ∧ i ≤ n ∧ Pv i σ H, ⟨n, by simp, Nat.zero_le _, h0⟩, ?_⟩
  rintro i m σ H ⟨rfl, hi, p⟩
  by_cases hlt : i < n
  · refine .inr ⟨hlt, Pv (i + 1), fun σ' H' p' => ⟨n - (i + 1), by omega, rfl, hlt, p'⟩, fun x H' y => ?_⟩
    obtain ⟨e, y⟩ := y
    subst e y
    exact hs i σ _ hlt p
  · have e : i = n := by omega
    subst e
    exact .inl ⟨Nat.le_refl _, hd σ H p⟩
end L2
namespace L2
open PySem PySem.Spec PyProof.Rows DD
abbrev R2 := V → V → Hp → VK → Prop
def OpR (X : Cx) (f : Value → Value → Sem Value) (r : R2) : Prop :=
  ∀ (pins : List (Addr × Obj)) (s : Shared) (σ : St) (H : Hp) (x y : V) (v u : Value) (Q : VK), Inv X pins σ H s → RelV x v → RelV y u → r x y H Q →
    wpAny (model X.prog X.w) X.A (f v u) (EP X pins σ Q) X.xe s
def UnR (X : Cx) (f : Value → Sem Value) (r : V → Hp → VK → Prop) : Prop :=
  ∀ (pins : List (Addr × Obj)) (s : Shared) (σ : St) (H : Hp) (x : V) (v : Value) (Q : VK), Inv X pins σ H s → RelV x v → r x H Q →
    wpAny (model X.prog X.w) X.A (f v) (EP X pins σ Q) X.xe s
def CallR (X : Cx) (f : Value) (r : List V → Hp → VK → Prop) : Prop :=
  ∀ (pins : List (Addr × Obj)) (s : Shared) (σ : St) (H : Hp) (xs : List V) (us : List Value) (Q : VK), Inv X pins σ H s → Vals xs us → r xs H Q →
    wpAny (model X.prog X.w) X.A (call f us) (EP X pins σ Q) X.xe s
def tOp (r : R2) (ta tb : TE) : TE := fun σ H Q => ta σ H fun x H1 => tb σ H1 fun y H2 => r x y H2 Q
def tUn (r : V → Hp → VK → Prop) (ta : TE) : TE := fun σ H Q => ta σ H fun x H1 => r x H1 Q
def rI (C : Int → Int → Prop) (g : Int → Int → V) : R2 := fun x y H Q => ∃ i j, x = .int i ∧ y = .int j ∧ C i j ∧ Q (g i j) H
def rI0 (g : Int → Int → V) : R2 := fun x y H Q => ∃ i j, x = .int i ∧ y = .int j ∧ Q (g i j) H
def rU (g : Int → V) : V → Hp → VK → Prop := fun x H Q => ∃ i, x = .int i ∧ Q (g i) H
section
variable {X : Cx} {a b c : Expr} {ta tb tc : TE} {pos : Pos}
theorem binT (ha : PE X a ta) (hb : PE X b tb) {pins : List (Addr × Obj)} {s : Shared} {σ : St} {H : Hp} {R : V → V → Hp → Prop} (I : Inv X pins σ H s)
    (h : ta σ H fun x H1 => tb σ H1 fun y H2 => R x y H2) {Q : Value → Shared → Prop} {f : Value → Value → Sem Value}
    (hf : ∀ v u s2 x y H2, Inv X pins σ H2 s2 → RelV x v → RelV y u → R x y H2 → wpAny (model X.prog X.w) X.A (f v u) Q X.xe s2) :
    wpAny (model X.prog X.w) X.A (eval a X.env) (fun v s₁ => wpAny (model X.prog X.w) X.A (eval b X.env) (fun u s₂ => wpAny (model X.prog X.w) X.A (f v u) Q X.xe s₂) X.xe s₁) X.xe s := by
  refine thn (ha pins s σ H _ I h) fun v s1 ⟨x, H1, I1, r1, q1⟩ => ?_
  refine thn (hb pins s1 σ H1 _ I1 q1) fun u s2 ⟨y, H2, I2, r2, q2⟩ => ?_
  exact hf v u s2 x y H2 I2 r1 r2 q2
theorem pe_op {op : Operator} {r : R2} (ho : OpR X (binaryOp op) r) (ha : PE X a ta) (hb : PE X b tb) : PE X (.BinOp a op b pos) (tOp r ta tb) := by
  intro pins s σ H Q I h
  exact wpAny_BinOp (binT ha hb I h fun v u s2 x y H2 I2 rx ry q => ho pins s2 σ H2 x y v u Q I2 rx ry q)
theorem pe_un {op : UnaryOp} {r : V → Hp → VK → Prop} (ho : UnR X (unaryOp op) r) (ha : PE X a ta) : PE X (.UnaryOp op a pos) (tUn r ta) := by
  intro pins s σ H Q I h
  exact UnaryOp_ (thn (ha pins s σ H _ I h) fun v s1 ⟨x, H1, I1, r1, q1⟩ => ho pins s1 σ H1 x v Q I1 r1 q1)
theorem opI {f : Value → Value → Sem Value} {C : Int → Int → Prop} {g : Int → Int → Int}
    (rule : ∀ (i j : Int) (t u : Tok) (s : Shared) (Q : Value → Shared → Prop) (E : Value → Shared → Prop), C i j → Q (.int (g i j) s.toks) { s with toks := s.toks + 1 } → wpAny (model X.prog X.w) X.A (f (.int i t) (.int j u)) Q E s) :
    OpR X f (rI C fun i j => .int (g i j)) := by
  intro pins s σ H x y v u Q I rx ry h
  obtain ⟨i, j, rfl, rfl, hc, q⟩ := h
  obtain ⟨t, rfl⟩ := rx
  obtain ⟨t', rfl⟩ := ry
  exact rule i j t t' s _ _ hc ⟨.int (g i j), H, I.tok _, ⟨_, rfl⟩, q⟩
theorem opI0 {f : Value → Value → Sem Value} {g : Int → Int → Int}
    (rule : ∀ (i j : Int) (t u : Tok) (s : Shared) (Q : Value → Shared → Prop) (E : Value → Shared → Prop), Q (.int (g i j) s.toks) { s with toks := s.toks + 1 } → wpAny (model X.prog X.w) X.A (f (.int i t) (.int j u)) Q E s) :
    OpR X f (rI0 fun i j => .int (g i j)) := by
  intro pins s σ H x y v u Q I rx ry h
  obtain ⟨i, j, rfl, rfl, q⟩ := h
  obtain ⟨t, rfl⟩ := rx
  obtain ⟨t', rfl⟩ := ry
  exact rule i j t t' s _ _ ⟨.int (g i j), H, I.tok _, ⟨_, rfl⟩, q⟩
theorem opB0 {f : Value → Value → Sem Value} {g : Int → Int → Bool}
    (rule : ∀ (i j : Int) (t u : Tok) (s : Shared) (Q : Value → Shared → Prop) (E : Value → Shared → Prop), Q (.bool (g i j)) s → wpAny (model X.prog X.w) X.A (f (.int i t) (.int j u)) Q E s) :
    OpR X f (rI0 fun i j => .bl (g i j)) := by
  intro pins s σ H x y v u Q I rx ry h
  obtain ⟨i, j, rfl, rfl, q⟩ := h
  obtain ⟨t, rfl⟩ := rx
  obtain ⟨t', rfl⟩ := ry
  exact rule i j t t' s _ _ ⟨.bl (g i j), H, I, rfl, q⟩
def CPow (i j : Int) : Prop := 0 ≤ j ∧ j ≤ 1000000 ∧ i.natAbs < 2 ^ 64
def CMul (i j : Int) : Prop := (-(2 ^ 64) < i ∧ i < 2 ^ 64) ∨ (-(2 ^ 64) < j ∧ j < 2 ^ 64)
theorem CMul.ok {i j : Int} (h : CMul i j) : IntMulOk i j := by
  rcases h with ⟨h1, h2⟩ | ⟨h1, h2⟩
  · exact .of_left (intBits_le_64 h1 h2)
  · exact .of_right (intBits_le_64 h1 h2)
theorem op_add : OpR X (binaryOp .Add) (rI0 fun i j => .int (i + j)) := opI0 fun _ _ _ _ _ _ _ q => add_int q
theorem op_sub : OpR X (binaryOp .Sub) (rI0 fun i j => .int (i - j)) := opI0 fun _ _ _ _ _ _ _ q => sub_int q
theorem op_mod : OpR X (binaryOp .Mod) (rI (fun _ j => 0 < j) fun i j => .int (i % j)) := opI fun i j _ _ _ _ _ hc q => by
  have h1 : (0 : Int) < j := hc
  exact mod_int' (by omega) (by rw [Int.fmod_eq_emod_of_nonneg i (by omega)]; exact q)
theorem op_pow : OpR X (binaryOp .Pow) (rI CPow fun i j => .int (i ^ j.toNat)) := opI fun _ _ _ _ _ _ _ hc q => pow_int_small hc.1 hc.2.1 hc.2.2 q
theorem unI {f : Value → Sem Value} {g : Int → Int}
    (rule : ∀ (i : Int) (t : Tok) (s : Shared) (Q : Value → Shared → Prop) (E : Value → Shared → Prop), Q (.int (g i) s.toks) { s with toks := s.toks + 1 } → wpAny (model X.prog X.w) X.A (f (.int i t)) Q E s) :
    UnR X f (rU fun i => .int (g i)) := by
  intro pins s σ H x v Q I rx h
  obtain ⟨i, rfl, q⟩ := h
  obtain ⟨t, rfl⟩ := rx
  exact rule i t s _ _ ⟨.int (g i), H, I.tok _, ⟨_, rfl⟩, q⟩
theorem un_neg : UnR X (unaryOp .USub) (rU fun i => .int (-i)) := unI fun _ _ _ _ _ q => neg_int q
end
def scal : V → V → Bool
  | .non, .non => true | .non, .int _ => true | .int _, .non => true | .non, .bl _ => true | .bl _, .non => true | .non, .str _ => true | .str _, .non => true
  | .int _, .int _ => true | .bl _, .bl _ => true | .str _, .str _ => true | .byt _, .byt _ => true
  | .int _, .str _ => true | .str _, .int _ => true | .bl _, .str _ => true | .str _, .bl _ => true
  | _, _ => false
def rEq : R2 := fun x y H Q => scal x y = true ∧ Q (.bl (decide (x = y))) H
def rNe : R2 := fun x y H Q => scal x y = true ∧ Q (.bl (!decide (x = y))) H
theorem dec_int {i j : Int} : decide (V.int i = V.int j) = (i == j) := by
  rw [Bool.eq_iff_iff]
  simp
theorem dec_bl {i j : Bool} : decide (V.bl i = V.bl j) = (i == j) := by
  rw [Bool.eq_iff_iff]
  simp
theorem dec_str {i j : Str} : decide (V.str i = V.str j) = (i == j) := by
  rw [Bool.eq_iff_iff]
  simp
theorem dec_byt {i j : Array UInt8} : decide (V.byt i = V.byt j) = (i.toList == j.toList) := by
  rw [Bool.eq_iff_iff]
  cases i
  cases j
  simp
section
variable {X : Cx} {a b c : Expr} {ta tb tc : TE} {pos : Pos}
theorem fin_bl {pins : List (Addr × Obj)} {σ : St} {H : Hp} {s : Shared} {Q : VK} {k k' : Bool} (I : Inv X pins σ H s) (q : Q (.bl k) H) (e : k = k') : EP X pins σ Q (.bool k') s := by
  subst e
  exact ⟨.bl k, H, I, rfl, q⟩
theorem op_eq : OpR X (compareOp .Eq) rEq := by
  intro pins s σ H x y v u Q I rx ry h
  obtain ⟨hs, q⟩ := h
  cases x with
  | non =>
    cases rx
    cases y with
    | non => cases ry; exact PySem.EqNone.eq_none_none (fin_bl I q (by simp))
    | bl j => cases ry; exact PySem.EqNone.eq_none_bool (fin_bl I q (by simp))
    | int j => obtain ⟨t', rfl⟩ := ry; exact PySem.EqNone.eq_none_int (fin_bl I q (by simp))
    | str j => obtain ⟨t', rfl⟩ := ry; exact PySem.EqNone.eq_none_str (fin_bl I q (by simp))
    | _ => exact absurd (show false = true from hs) Bool.false_ne_true
  | bl i =>
    cases rx
    cases y with
    | non => cases ry; exact PySem.EqNone.eq_bool_none (fin_bl I q (by simp))
    | bl j => cases ry; exact eq_bool (fin_bl I q dec_bl)
    | str j => obtain ⟨t', rfl⟩ := ry; exact PySem.EqMixed.eq_bool_str (fin_bl I q (by simp))
    | _ => exact absurd (show false = true from hs) Bool.false_ne_true
  | int i =>
    obtain ⟨t, rfl⟩ := rx
    cases y with
    | non => cases ry; exact PySem.EqNone.eq_int_none (fin_bl I q (by simp))
    | int j => obtain ⟨t', rfl⟩ := ry; exact eq_int (fin_bl I q dec_int)
    | str j => obtain ⟨t', rfl⟩ := ry; exact PySem.EqMixed.eq_int_str (fin_bl I q (by simp))
    | _ => exact absurd (show false = true from hs) Bool.false_ne_true
  | str i =>
    obtain ⟨t, rfl⟩ := rx
    cases y with
    | non => cases ry; exact PySem.EqNone.eq_str_none (fin_bl I q (by simp))
    | bl j => cases ry; exact PySem.EqMixed.eq_str_bool (fin_bl I q (by simp))
    | int j => obtain ⟨t', rfl⟩ := ry; exact PySem.EqMixed.eq_str_int (fin_bl I q (by simp))
    | str j => obtain ⟨t', rfl⟩ := ry; exact eq_str (fin_bl I q dec_str)
    | _ => exact absurd (show false = true from hs) Bool.false_ne_true
  | byt i =>
    obtain ⟨t, rfl⟩ := rx
    cases y with
    | byt j => obtain ⟨t', rfl⟩ := ry; exact PySem.W.eq_bytes (fin_bl I q dec_byt)
    | _ => exact absurd (show false = true from hs) Bool.false_ne_true
  | _ => cases y <;> exact absurd (show false = true from hs) Bool.false_ne_true
theorem op_ne : OpR X (compareOp .NotEq) rNe := by
  intro pins s σ H x y v u Q I rx ry h
  obtain ⟨hs, q⟩ := h
  cases x with
  | non =>
    cases rx
    cases y with
    | non => cases ry; exact PySem.EqNone.ne_none_none (fin_bl I q (by simp))
    | bl j => cases ry; exact PySem.EqNone.ne_none_bool (fin_bl I q (by simp))
    | int j => obtain ⟨t', rfl⟩ := ry; exact PySem.EqNone.ne_none_int (fin_bl I q (by simp))
    | str j => obtain ⟨t', rfl⟩ := ry; exact PySem.EqNone.ne_none_str (fin_bl I q (by simp))
    | _ => exact absurd (show false = true from hs) Bool.false_ne_true
  | bl i =>
    cases rx
    cases y with
    | non => cases ry; exact PySem.EqNone.ne_bool_none (fin_bl I q (by simp))
    | bl j => cases ry; exact ne_bool (fin_bl I q (congrArg not dec_bl))
    | str j => obtain ⟨t', rfl⟩ := ry; exact PySem.EqMixed.ne_bool_str (fin_bl I q (by simp))
    | _ => exact absurd (show false = true from hs) Bool.false_ne_true
  | int i =>
    obtain ⟨t, rfl⟩ := rx
    cases y with
    | non => cases ry; exact PySem.EqNone.ne_int_none (fin_bl I q (by simp))
    | int j => obtain ⟨t', rfl⟩ := ry; exact ne_int (fin_bl I q (congrArg not dec_int))
    | str j => obtain ⟨t', rfl⟩ := ry; exact PySem.EqMixed.ne_int_str (fin_bl I q (by simp))
    | _ => exact absurd (show false = true from hs) Bool.false_ne_true
  | str i =>
    obtain ⟨t, rfl⟩ := rx
    cases y with
    | non => cases ry; exact PySem.EqNone.ne_str_none (fin_bl I q (by simp))
    | bl j => cases ry; exact PySem.EqMixed.ne_str_bool (fin_bl I q (by simp))
    | int j => obtain ⟨t', rfl⟩ := ry; exact PySem.EqMixed.ne_str_int (fin_bl I q (by simp))
    | str j => obtain ⟨t', rfl⟩ := ry; exact ne_str (fin_bl I q (congrArg not dec_str))
    | _ => exact absurd (show false = true from hs) Bool.false_ne_true
  | byt i =>
    obtain ⟨t, rfl⟩ := rx
    cases y with
    | byt j => obtain ⟨t', rfl⟩ := ry; exact PySem.W.ne_bytes (fin_bl I q (congrArg not dec_byt))
    | _ => exact absurd (show false = true from hs) Bool.false_ne_true
  | _ => cases y <;> exact absurd (show false = true from hs) Bool.false_ne_true
theorem op_lt : OpR X (compareOp .Lt) (rI0 fun i j => .bl (decide (i < j))) := opB0 fun _ _ _ _ _ _ _ q => lt_int q
theorem op_gt : OpR X (compareOp .Gt) (rI0 fun i j => .bl (decide (j < i))) := opB0 fun _ _ _ _ _ _ _ q => gt_int q
theorem op_ge : OpR X (compareOp .GtE) (rI0 fun i j => .bl (decide (j ≤ i))) := opB0 fun _ _ _ _ _ _ _ q => ge_int q
theorem nomark (b : Expr) {op : CmpOp} (h : op ≠ .In := by decide) (h2 : op ≠ .NotIn := by decide) : behindInMarks op b = false := by
  have e1 : (op == CmpOp.In) = false := by cases op <;> first | rfl | exact absurd rfl h
  have e2 : (op == CmpOp.NotIn) = false := by cases op <;> first | rfl | exact absurd rfl h2
  cases b <;> simp [behindInMarks, e1, e2]
theorem pe_cmpR {op : CmpOp} {r : R2} (ho : OpR X (compareOp op) r) (ha : PE X a ta) (hb : PE X b tb) (hm : behindInMarks op b = false) : PE X (.Compare a [op] [b] pos) (tOp r ta tb) := by
  intro pins s σ H Q I h
  exact wpAny_Compare1 (binT ha hb I h fun v u s2 x y H2 I2 rx ry q => ho pins s2 σ H2 x y v u Q I2 rx ry q) hm
def tTest (t : TE) : TT := fun σ H Q => t σ H fun x H' => ∃ k, x = .bl k ∧ Q k H'
theorem pt_cmpR {op : CmpOp} {r : R2} (ho : OpR X (compareOp op) r) (ha : PE X a ta) (hb : PE X b tb) (hm : behindInMarks op b = false) : PT X (.Compare a [op] [b] pos) (tTest (tOp r ta tb)) := by
  intro pins s σ H Q I h
  refine wpAny_isTrue_Compare1 (thn (ha pins s σ H _ I h) fun v s1 ⟨x, H1, I1, r1, q1⟩ => thn (hb pins s1 σ H1 _ I1 q1) fun u s2 ⟨y, H2, I2, r2, q2⟩ =>
    thn (ho pins s2 σ H2 x y v u _ I2 r1 r2 q2) fun c s3 ⟨z, H3, I3, r3, k, e, q3⟩ => ?_) hm
  subst e
  cases r3
  exact wpAny_truthy_bool ⟨H3, I3, q3⟩
theorem line63 : (sizeLine : Nat) < 2 ^ 63 := by rw [sizeLine_eq]; decide
theorem vals1 {x : V} {us : List Value} (r : Vals [x] us) : ∃ u, us = [u] ∧ RelV x u := by
  cases r with
  | cons r1 r2 => cases r2; exact ⟨_, rfl, r1⟩
theorem vals2 {x y : V} {us : List Value} (r : Vals [x, y] us) : ∃ u w', us = [u, w'] ∧ RelV x u ∧ RelV y w' := by
  cases r with
  | cons r1 r2 =>
    cases r2 with
    | cons r3 r4 => cases r4; exact ⟨_, _, rfl, r1, r3⟩
theorem call_max2 (hc : X.calm = true) : CallR X (.builtin "max") (fun xs H Q => ∃ i j, xs = [.int i, .int j] ∧ Q (.int (if j > i then j else i)) H) := by
  intro pins s σ H xs us Q I r h
  obtain ⟨i, j, rfl, q⟩ := h
  obtain ⟨u, w', rfl, ⟨t, rfl⟩, ⟨t', rfl⟩⟩ := vals2 r
  refine max_two_ints (I.ok.hd hc) fun h' tk k => ⟨_, H, I.kept k, ?_, q⟩
  by_cases hj : j > i
  · rw [if_pos hj, if_pos hj]; exact ⟨_, rfl⟩
  · rw [if_neg hj, if_neg hj]; exact ⟨_, rfl⟩
theorem call_min2 (hc : X.calm = true) : CallR X (.builtin "min") (fun xs H Q => ∃ i j, xs = [.int i, .int j] ∧ Q (.int (if j < i then j else i)) H) := by
  intro pins s σ H xs us Q I r h
  obtain ⟨i, j, rfl, q⟩ := h
  obtain ⟨u, w', rfl, ⟨t, rfl⟩, ⟨t', rfl⟩⟩ := vals2 r
  refine min_two_ints (I.ok.hd hc) fun h' tk k => ⟨_, H, I.kept k, ?_, q⟩
  by_cases hj : j < i
  · rw [if_pos hj, if_pos hj]; exact ⟨_, rfl⟩
  · rw [if_neg hj, if_neg hj]; exact ⟨_, rfl⟩
theorem call_int1 : CallR X (.type "int") (fun xs H Q => (∃ i, xs = [.int i] ∧ Q (.int i) H) ∨ ∃ k, xs = [.bl k] ∧ Q (.int (if k then 1 else 0)) H) := by
  intro pins s σ H xs us Q I r h
  rcases h with ⟨i, rfl, q⟩ | ⟨k, rfl, q⟩
  · obtain ⟨u, rfl, t, rfl⟩ := vals1 r
    exact call_int_int ⟨.int i, H, I, ⟨_, rfl⟩, q⟩
  · obtain ⟨u, rfl, r1⟩ := vals1 r
    cases r1
    exact call_int_bool ⟨.int (if k then 1 else 0), H, I.tok _, ⟨_, rfl⟩, q⟩
end
end L2
namespace L2
open PySem PySem.Spec PyProof.Rows DD
structure ObjM (h : Heap) (x dx C : Addr) (mA : Str → Option Value) : Prop where
  obj : h.get? x = some (PySem.W.instObj C dx)
  ns : h.Ns1 dx mA
  ne : dx ≠ x
theorem lookIn_ns {h : Heap} {dx : Addr} {mA : Str → Option Value} (n : h.Ns1 dx mA) : ∃ od, h.get? dx = some od ∧ ∀ name, PySem.W.lookIn name od = some (mA name) := by
  obtain ⟨o, es, ep, ho, hd, hk, _, hm⟩ := n
  refine ⟨o, ho, fun name => ?_⟩
  have e := hm name
  unfold nsFind findBy at e
  rw [← Array.find?_toList] at e
  unfold PySem.W.lookIn
  rw [hd]
  dsimp only
  split
  · rename_i y q
    rw [q] at e
    exact congrArg some e
  · rename_i q
    rw [q] at e
    have a : es.toList.any (·.refKey) = false := by
      rw [List.any_eq_false]
      intro y hy
      obtain ⟨z, t, hkey⟩ := hk y (Array.mem_toList_iff.mp hy)
      simp [DictEntry.refKey, hkey]
    have a' : ¬ es.toList.any (·.refKey) = true := by rw [a]; exact Bool.false_ne_true
    rw [if_neg a']
    exact congrArg some e
theorem ObjM.look {h : Heap} {x dx C : Addr} {mA : Str → Option Value} (I : ObjM h x dx C mA) : ∃ od, PySem.W.InstAt h x (PySem.W.instObj C dx) C (some od) ∧ ∀ name, PySem.W.lookIn name od = some (mA name) :=
  let ⟨od, ho, hl⟩ := lookIn_ns I.ns
  ⟨od, ⟨I.obj, rfl, rfl, ho⟩, hl⟩
section
variable {prog : Program} {w : World} {A : Around} {E : Value → Shared → Prop} {s : Shared} {K : PySem.W.Frag} {x dx C f : Addr} {mA : Str → Option Value} {name : Str} {v : Value}
end
section
variable {P : Program} {w : World} {H H' : Hp} {h h' : Heap} {a C dx : Addr} {fs fs' : List (Str × V)}
theorem ins_get (hok : HOk P w H h) (e : H a = some (.ins C dx fs)) : ∃ mA, ObjM h a dx C mA ∧ (∀ f, RelO (fs.lookup f) (mA f)) ∧ PySem.Within mA (fs.map (·.1)) ∧ fs.length ≤ 1000 ∧ H dx = some (.own a) := by
  obtain ⟨d, z, ne, ob, mA, n, r, q⟩ := (show ObjOk P w H h a (.ins C dx fs) from hok a _ e)
  exact ⟨mA, ⟨ob, n, ne⟩, r, q, z, d⟩
end
structure Cls (K : PySem.W.Frag) (C : Addr) : Prop where
  pg : PySem.W.plainGet K C Str.empty = true
  hd : PySem.W.hasDictIn K C = true
  po : PySem.W.plainOver K C = true
  sa : PySem.W.findIn K (.ref C) "__setattr__" = some (some (.builtin "object.__setattr__"))
theorem Cls.get {K : PySem.W.Frag} {C : Addr} (c : Cls K C) (f : Str) : PySem.W.plainGet K C f = true := c.pg
structure Con (K : PySem.W.Frag) (C : Addr) (f : Str) (v : V) (u : Value) : Prop where
  at_ : PySem.W.findIn K (.ref C) f = some (some u)
  rel : RelV v u
  get : PySem.W.specialIn K u "__get__" = some none
  cp : PySem.W.copiedNames.contains f = false
structure Meth (K : PySem.W.Frag) (C : Addr) (m : Str) (f : Addr) : Prop where
  at_ : PySem.W.findIn K (.ref C) m = some (some (.ref f))
  fn : PySem.W.isFn K (.ref f) = true
  kp : PySem.W.keepIn K (.ref f) = true
section
variable {X : Cx} {pins : List (Addr × Obj)} {σ : St} {H : Hp} {s : Shared} {a C dx : Addr} {fs : List (Str × V)} {f : Str} {v : V} {A : Around} {E : Value → Shared → Prop}
end
section
variable {X : Cx} {o e value : Expr} {f : Str} {pos pos' tpos : Pos} {ta tv : TE}
end
section
variable {X : Cx} {pins : List (Addr × Obj)} {σ : St} {H : Hp} {s : Shared} {A : Around} {E : Value → Shared → Prop} {Q : Value → Shared → Prop} {c : Value} {b : Bool}
inductive TyOf (K : PySem.W.Frag) (H : Hp) : V → Value → Prop where
  | non : TyOf K H .non (.type "NoneType")
  | bl (x : Bool) : TyOf K H (.bl x) (.type "bool")
  | int (i : Int) : TyOf K H (.int i) (.type "int")
  | str (x : Str) : TyOf K H (.str x) (.type "str")
  | flt (x : UInt64) : TyOf K H (.flt x) (.type "float")
  | lst {a : Addr} {xs : List V} (e : H a = some (.lst xs)) : TyOf K H (.ref a) (.type "list")
  | frz {a : Addr} {o : Obj} {xs : List V} (e : H a = some (.frz o (.lst xs))) : TyOf K H (.ref a) (.type "list")
  | tup {a : Addr} {xs : List V} (e : H a = some (.tup xs)) : TyOf K H (.ref a) (.type "tuple")
  | dK {a : Addr} {kvs : List (Key × V)} (e : H a = some (.dK kvs)) : TyOf K H (.ref a) (.type "dict")
  | dT {a : Addr} {kvs : List (D × V)} (e : H a = some (.dT kvs)) : TyOf K H (.ref a) (.type "dict")
  | ins {a C dx : Addr} {fs : List (Str × V)} (e : H a = some (.ins C dx fs)) (cl : Cls K C) (ha : PySem.W.findIn K (.ref C) "__class__" = some (some (.builtin "object.__class__")))
      (hn : PySem.W.specialIn K (.builtin "object.__class__") "__get__" = some (some (.builtin "getset_descriptor.__get__"))) (htk : PySem.W.takesIn K (.builtin "object.__class__") = some true)
      (hm : PySem.W.mroIn K C (.type "object") = some true) : TyOf K H (.ref a) (.ref C)
theorem isinst_ok {x : V} {u t : Value} (I : Inv X pins σ H s) (rx : RelV x u) (ty : TyOf X.K H x t) (e : PySem.W.kitOne X.K t c = some b) (h : ∀ tk, Q (.bool b) { s with toks := tk }) :
    wpAny (model X.prog X.w) A (call (.builtin "isinstance") [u, c]) Q E s := by
  cases ty with
  | non => cases (show u = Value.none from rx); exact PySem.W.kia_one PySem.W.kitx_none I.kIn True.intro e (fun z => nomatch z) h
  | bl y => cases (show u = Value.bool y from rx); exact PySem.W.kia_one PySem.W.kitx_bool I.kIn True.intro e (fun z => nomatch z) h
  | int i => obtain ⟨t, q⟩ := (show ∃ t, u = Value.int i t from rx); cases q; exact PySem.W.kia_one PySem.W.kitx_int I.kIn True.intro e (fun z => nomatch z) h
  | str y => obtain ⟨t, q⟩ := (show ∃ t, u = Value.str y t from rx); cases q; exact PySem.W.kia_one PySem.W.kitx_str I.kIn True.intro e (fun z => nomatch z) h
  | flt y => obtain ⟨t, q⟩ := (show ∃ t, u = Value.float y t from rx); cases q; exact PySem.W.kia_one PySem.W.kitx_float I.kIn True.intro e (fun z => nomatch z) h
  | @lst a xs ea =>
    cases (show u = Value.ref a from rx)
    obtain ⟨_, _, n, _, h1⟩ := (show ObjOk X.prog X.w H s.heap a (.lst xs) from I.hok a _ ea)
    exact PySem.W.kia_one PySem.W.kitx_list I.kIn ⟨_, h1, rfl⟩ e (fun z => nomatch z) h
  | @frz a ob xs ea =>
    cases (show u = Value.ref a from rx)
    obtain ⟨_, _, _, n, _, h1⟩ := (show ObjOk X.prog X.w H s.heap a (.frz ob (.lst xs)) from I.hok a _ ea)
    exact PySem.W.kia_one PySem.W.kitx_list I.kIn ⟨_, h1, rfl⟩ e (fun z => nomatch z) h
  | @tup a xs ea =>
    cases (show u = Value.ref a from rx)
    obtain ⟨_, _, _, p⟩ := (show ObjOk X.prog X.w H s.heap a (.tup xs) from I.hok a _ ea)
    obtain ⟨o, h1, h2, _⟩ := p
    exact PySem.W.kia_one PySem.W.kitx_tuple I.kIn ⟨o, h1, h2⟩ e (fun z => nomatch z) h
  | @dK a kvs ea =>
    cases (show u = Value.ref a from rx)
    obtain ⟨_, _, vs, _, p⟩ := (show ObjOk X.prog X.w H s.heap a (.dK kvs) from I.hok a _ ea)
    obtain ⟨o, es, ep, h1, h2, _⟩ := p
    exact PySem.W.kia_one PySem.W.kitx_dict I.kIn ⟨o, h1, h2.1⟩ e (fun z => nomatch z) h
  | @dT a kvs ea =>
    cases (show u = Value.ref a from rx)
    obtain ⟨_, _, xs, _, o, es, ep, h1, h2, _⟩ := (show ObjOk X.prog X.w H s.heap a (.dT kvs) from I.hok a _ ea)
    exact PySem.W.kia_one PySem.W.kitx_dict I.kIn ⟨o, h1, h2.1⟩ e (fun z => nomatch z) h
  | @ins a C dx fs ea cl ha hn htk hm =>
    cases (show u = Value.ref a from rx)
    obtain ⟨mA, O, _⟩ := ins_get I.hok ea
    obtain ⟨od, J, _⟩ := O.look
    exact PySem.W.kia_one (PySem.W.kitx_own (cl.get _) cl.hd ha hn htk hm) I.kIn J e (fun z => nomatch z) h
end
end L2
namespace L2
open PySem PySem.Spec PyProof.Rows DD
structure Room (k : Nat) (A : Around) : Prop where
  hd : A.handled = none
  dp : A.depth + 3 * k + 5 < recursionLimit
  un : A.units + 16 * k + 200 < cLine
theorem Room.mono {j k : Nat} {A : Around} (r : Room k A) (h : j ≤ k) : Room j A := ⟨r.hd, by have := r.dp; omega, by have := r.un; omega⟩
theorem Room.deeper {k : Nat} {A : Around} (r : Room (k + 1) A) (env : Env) : Room k (A.deeper env) :=
  ⟨r.hd, by have := r.dp; show A.depth + 1 + 3 * k + 5 < _; omega, by have := r.un; show A.units + 3 + 16 * k + 200 < _; omega⟩
theorem Room.in1 {k : Nat} {A : Around} (r : Room (k + 1) A) : Room k A.in1 :=
  ⟨r.hd, by have := r.dp; show A.depth + 3 * k + 5 < _; omega, by have := r.un; show A.units + 1 + 16 * k + 200 < _; omega⟩
theorem Room.depth {k : Nat} {A : Around} (r : Room k A) : A.depth < recursionLimit := by have := r.dp; omega
theorem Room.units {k : Nat} {A : Around} (r : Room k A) : A.units + 64 < cLine := by have := r.un; omega
def tNil : TA := fun _ H Q => Q [] H
def tCons (ta : TE) (tr : TA) : TA := fun σ H Q => ta σ H fun x H1 => tr σ H1 fun xs H2 => Q (x :: xs) H2
section
variable {X : Cx} {e : Expr} {es : List Expr} {te : TE} {t : TA} {pos : Pos}
theorem pa_nil : PA X [] tNil := fun _ _ _ _ H Q I h => Calls.spliced_nil ⟨[], H, I, .nil, h⟩
theorem pa_cons (ha : PE X e te) (hr : PA X es t) (hs : starEach (e :: es) X.env = (false, eval e X.env) :: starEach es X.env := by rfl) : PA X (e :: es) (tCons te t) := by
  intro pos pins s σ H Q I h
  rw [hs]
  show wpAny _ _ (spliced ((false, eval e X.env) :: backTo pos (starEach es X.env))) _ _ s
  refine Calls.spliced_cons (thn (ha pins s σ H _ I h) fun u s1 ⟨x, H1, I1, r1, q1⟩ => ?_)
  exact thn (hr pos pins s1 σ H1 _ I1 q1) fun us s2 ⟨xs, H2, I2, r2, q2⟩ => ⟨x :: xs, H2, I2, .cons r1 r2, q2⟩
def tTup (t : TA) : TE := fun σ H Q => t σ H fun xs H1 => xs.length ≤ sizeLine ∧ ∀ p, H1 p = none → Q (.ref p) (upd H1 p (.tup xs))
def tLst (t : TA) : TE := fun σ H Q => t σ H fun xs H1 => xs.length ≤ sizeLine ∧ ∀ p, H1 p = none → Q (.ref p) (upd H1 p (.lst xs))
theorem pe_tup {x1} (h : PA X es t) : PE X (.Tuple es x1 pos) (tTup t) := by
  intro pins s σ H Q I hq
  refine wpAny_Tuple_spliced (thn (h pos pins s σ H _ I hq) fun us s1 ⟨xs, H1, I1, r, z, q⟩ => ⟨by rw [← r.length]; exact z, ?_⟩)
  have hf : H1 s1.heap.objs.size = none := I1.hok.fresh (Nat.le_refl _)
  refine ⟨.ref s1.heap.objs.size, upd H1 s1.heap.objs.size (.tup xs), I1.laid (t' := s1.toks) (fun b u e => Heap.get?_push_of_some _ e) (Nat.le_refl _) ?_, rfl, q _ hf⟩
  exact ⟨z, us, r, IsTp.new _ _⟩
theorem pe_lst (h : PA X es t) : PE X (.List es pos) (tLst t) := by
  intro pins s σ H Q I hq
  refine wpAny_List_spliced (thn (h pos pins s σ H _ I hq) fun us s1 ⟨xs, H1, I1, r, z, q⟩ => ⟨by rw [← r.length]; exact z, ?_⟩)
  have hf : H1 s1.heap.objs.size = none := I1.hok.fresh (Nat.le_refl _)
  refine ⟨.ref s1.heap.objs.size, upd H1 s1.heap.objs.size (.lst xs), I1.laid (t' := s1.toks) (fun b u e => Heap.get?_push_of_some _ e) (Nat.le_refl _) ?_, rfl, q _ hf⟩
  exact ⟨z, us, 0, r, Heap.get?_push_size _ rfl⟩
end
abbrev Sp := List V → Hp → VK → XK → Prop
abbrev CXT := List Env → Hp → Shared → XK → Value → Shared → Prop
structure Env0 (P : Program) (w : World) (K : PySem.W.Frag) (mg : Str → Option Value) (base : Heap) (A : Around) (outer : List Env) (s : Shared) (H : Hp) : Prop where
  frames : A.frames = some outer
  mod : Mod K mg base
  bs : ∀ b o, base.get? b = some o → s.heap.get? b = some o ∧ H b = none
  bsz : base.objs.size ≤ s.heap.objs.size
  funs : s.heap.FunFrames base outer
  frf : ∀ b ∈ frs outer, H b = none
  hok : HOk P w H s.heap
  bare : AllBare s.gens
def CE (outer : List Env) (P : Program) (w : World) (H : Hp) (s : Shared) (Q : VK) (u : Value) (s' : Shared) : Prop :=
  ∃ v H', s'.os = s.os ∧ AllBare s'.gens ∧ Un (frs outer) [] H H' s.heap s'.heap ∧ HOk P w H' s'.heap ∧ RelV v u ∧ Q v H'
def CR (CX : CXT) (outer : List Env) (P : Program) (w : World) (H : Hp) (s : Shared) (Q : VK) (E : XK) (r : Result) (s' : Shared) : Prop :=
  match r with
  | .ok (.ret u) => CE outer P w H s Q u s'
  | .ok _ => False
  | .error e => CX outer H s E e s'
structure FnOk (P : Program) (w : World) (K : PySem.W.Frag) (mg : Str → Option Value) (base : Heap) (CX : CXT) (k : Nat) (f : Addr) (fd : FuncData) (ps : List Str) (sp : Sp) : Prop where
  len : ∀ vs H Q E, sp vs H Q E → vs.length = ps.length
  run : ∀ (A : Around) (outer : List Env) (s : Shared) (H : Hp) (args : Args) (us : List Value) (vs : List V) (Q : VK) (E : XK), Room k A → Env0 P w K mg base A outer s H → BindsTo s fd args (ps.zip us) → Vals vs us → sp vs H Q E →
    codeAny (model P w) A (.call (.ref f) args) (CR CX outer P w H s Q E) s
theorem FnOk.mono {P : Program} {w : World} {K : PySem.W.Frag} {mg : Str → Option Value} {base : Heap} {CX : CXT} {j k : Nat} {f : Addr} {fd : FuncData} {ps : List Str} {sp : Sp} (F : FnOk P w K mg base CX j f fd ps sp) (h : j ≤ k) :
    FnOk P w K mg base CX k f fd ps sp := ⟨F.len, fun A outer s H args us vs Q E hr => F.run A outer s H args us vs Q E (hr.mono h)⟩
theorem FnOk.imp {P : Program} {w : World} {K : PySem.W.Frag} {mg : Str → Option Value} {base : Heap} {CX : CXT} {k : Nat} {f : Addr} {fd : FuncData} {ps : List Str} {sp sp' : Sp} (F : FnOk P w K mg base CX k f fd ps sp)
    (h : ∀ vs H Q E, sp' vs H Q E → sp vs H Q E) : FnOk P w K mg base CX k f fd ps sp' :=
  ⟨fun vs H Q E q => F.len vs H Q E (h _ _ _ _ q), fun A outer s H args us vs Q E hr he hb hv hs => F.run A outer s H args us vs Q E hr he hb hv (h _ _ _ _ hs)⟩
theorem Env0.in1 {P : Program} {w : World} {K : PySem.W.Frag} {mg : Str → Option Value} {base : Heap} {A : Around} {outer : List Env} {s : Shared} {H : Hp} (e : Env0 P w K mg base A outer s H) :
    Env0 P w K mg base A.in1 outer s H := ⟨e.frames, e.mod, e.bs, e.bsz, e.funs, e.frf, e.hok, e.bare⟩
section
variable {X : Cx} {pins : List (Addr × Obj)} {σ : St} {H : Hp} {s s' : Shared}
theorem Inv.env0 (I : Inv X pins σ H s) : Env0 X.prog X.w X.K X.mg X.base X.A X.stack s H :=
  ⟨I.ok.frames, I.ok.mod, I.bs, Nat.le_trans I.ok.bsz I.sz, I.stack, I.stkFree, I.hok, I.bare⟩
theorem Inv.after {Q : VK} {u : Value} (I : Inv X pins σ H s) (h : CE X.stack X.prog X.w H s Q u s') : EP X pins σ Q u s' := by
  obtain ⟨v, H', os, bare, un, hok, r, q⟩ := h
  obtain ⟨hh, g, d, t, os'⟩ := s'
  obtain rfl : os' = s.os := os
  exact ⟨v, H', I.call (h' := hh) (g' := g) (d' := d) (t' := t) (ch := []) un hok bare (fun b z => absurd z (by simp)), r, q⟩
end
def tCall (sp : Sp) (dvs : List V) (E : XK) (t : TA) : TE := fun σ H Q => t σ H fun vs H1 => sp (vs ++ dvs) H1 Q E
def Binds (K : PySem.W.Frag) (fd : FuncData) (ps : List Str) (ds : List Value) : Prop :=
  ∀ (s : Shared) (us : List Value), K.In s.heap → (us ++ ds).length = ps.length → BindsTo s fd ⟨us, []⟩ (ps.zip (us ++ ds))
theorem Binds.all {K : PySem.W.Frag} {fd : FuncData} {ps : List Str} (h : ∀ us : List Value, us.length = ps.length → bindArgs fd ⟨us, []⟩ = pure (ps.zip us)) : Binds K fd ps [] := fun s us _ hl => by
  rw [List.append_nil] at hl ⊢
  exact .of_eq (h us hl)
def Passes (CX : CXT) (X : Cx) (E : XK) : Prop := ∀ (pins : List (Addr × Obj)) (σ : St) (H : Hp) (s : Shared) (e : Value) (s' : Shared), Inv X pins σ H s → CX X.stack H s E e s' → X.xe e s'
section
variable {X : Cx} {CX : CXT} {k : Nat} {f C : Addr} {fd : FuncData} {ps : List Str} {sp : Sp} {dvs : List V} {ds : List Value} {E : XK} {x m : Str} {p pos apos : Pos} {e o : Expr} {es : List Expr} {ta : TE} {t : TA}
theorem run_fn {pins : List (Addr × Obj)} {σ : St} {H : Hp} {s : Shared} {Q : VK} {us : List Value} {vs : List V} (F : FnOk X.prog X.w X.K X.mg X.base CX k f fd ps sp) (hr : Room k X.A) (hb : Binds X.K fd ps ds) (hd : Vals dvs ds) (hx : Passes CX X E)
    (I : Inv X pins σ H s) (r : Vals vs us) (h : sp (vs ++ dvs) H Q E) : wpAny (model X.prog X.w) X.A (call (.ref f) us) (EP X pins σ Q) X.xe s := by
  have r2 : Vals (vs ++ dvs) (us ++ ds) := r.append hd
  have hl : (us ++ ds).length = ps.length := by rw [← r2.length]; exact F.len _ _ _ _ h
  refine wpAny_call (codeAny_mono (F.run X.A X.stack s H ⟨us, []⟩ (us ++ ds) (vs ++ dvs) Q E hr I.env0 (hb s us I.kIn hl) r2 h) fun r s' hq => ?_)
  cases r with
  | error e => exact hx pins σ H s e s' I hq
  | ok fl =>
    cases fl with
    | ret u => exact I.after hq
    | next => exact False.elim hq
    | brk => exact False.elim hq
    | cont => exact False.elim hq
theorem pe_call (F : FnOk X.prog X.w X.K X.mg X.base CX k f fd ps sp) (hr : Room k X.A) (hg : Gl X x) (hm : X.mg x = some (.ref f)) (hk : PySem.W.keepIn X.K (.ref f) = true) (hb : Binds X.K fd ps ds) (hd : Vals dvs ds) (hx : Passes CX X E)
    (ha : PA X (e :: es) t) (hdb : (x == ("__debug__" : Str)) = false := by decide) (he : starEach (e :: es) X.env = (false, eval e X.env) :: starEach es X.env := by rfl) (hpl : (backTo pos (starEach es X.env)).any (·.1) = false := by rfl) :
    PE X (.Call (.Name x p) (e :: es) [] pos) (tCall sp dvs E t) := by
  intro pins s σ H Q I h
  refine wpAny_Call_Name_kw (ld_glob I hg hm ?_ hdb)
  refine PySem.W.callWith_K (h₀ := X.base) I.ok.mod.kin hk (thn (ha pos pins s σ H _ I h) fun us s1 ⟨vs, H1, I1, r, q⟩ => ⟨I1.kIn, ?_⟩) he hpl
  exact run_fn F hr hb hd hx I1 r q
structure Mk (K : PySem.W.Frag) (C f : Addr) : Prop where
  makes : PySem.W.makesIn K C = true
  init : PySem.W.findIn K (.ref C) "__init__" = some (some (.ref f))
  fn : PySem.W.isFn K (.ref f) = true
  kp : PySem.W.keepIn K (.ref C) = true
end
section
variable {X : Cx} {CX : CXT} {k : Nat} {f C : Addr} {fd : FuncData} {ps ks : List Str} {sp : Sp} {E : XK} {x m : Str} {p pos apos kpos : Pos} {e o : Expr} {es : List Expr} {kws : List Keyword} {te ta : TE} {t tk : TA} {nm : Option Str}
structure KBinds (K : PySem.W.Frag) (fd : FuncData) (ps ks : List Str) (g : List Value → List Value → List Value) (gV : List V → List V → List V) : Prop where
  to : ∀ (s : Shared) (us ws : List Value), K.In s.heap → (g us ws).length = ps.length → BindsTo s fd ⟨us, ks.zip ws⟩ (ps.zip (g us ws))
  rel : ∀ {vs : List V} {us : List Value} {zs : List V} {ws : List Value}, Vals vs us → Vals zs ws → Vals (gV vs zs) (g us ws)
variable {g : List Value → List Value → List Value} {gV : List V → List V → List V}
end
structure FnScope (N P : List Str) (sc : Scope) : Prop where
  kind : sc.kind = .function
  co : sc.isCoroutine = false
  gen : sc.isGenerator = false
  nd : N.Nodup
  pre : N.take P.length = P
  par : ∀ x ∈ P, sc.names.lookup x = some .local ∨ sc.names.lookup x = some .cell
  nofree : ∀ y ∈ sc.names, y.2 ≠ .free
theorem bindL_out {kindOf : Str → Option NameKind} {x : Str} : ∀ {binds : List (Str × Value)} {m : Str → Option Value}, (∀ v, (x, v) ∉ binds) → bindL kindOf binds m x = m x
  | [], _, _ => rfl
  | (n, v) :: r, m, h => by
    unfold bindL
    rw [bindL_out fun w hw => h w (List.mem_cons_of_mem _ hw)]
    split
    · have : x ≠ n := by rintro rfl; exact h v List.mem_cons_self
      simp [this]
    · rfl
theorem bindC_out {kindOf : Str → Option NameKind} {x : Str} : ∀ {binds : List (Str × Value)} {m : Str → Option Value}, (∀ v, (x, v) ∉ binds) → bindC kindOf binds m x = m x
  | [], _, _ => rfl
  | (n, v) :: r, m, h => by
    unfold bindC
    rw [bindC_out fun w hw => h w (List.mem_cons_of_mem _ hw)]
    split
    · rfl
    · have : x ≠ n := by rintro rfl; exact h v List.mem_cons_self
      simp [this]
theorem bindL_get {kindOf : Str → Option NameKind} {x : Str} {v : Value} : ∀ {P : List Str} {vs : List Value} {i : Nat} {m : Str → Option Value}, P.Nodup → P[i]? = some x → vs[i]? = some v → kindOf x = some .local →
    bindL kindOf (P.zip vs) m x = some v
  | [], _, _, _, _, h, _, _ => by simp at h
  | _ :: _, [], _, _, _, _, h, _ => by simp at h
  | p :: P, w :: vs, 0, m, nd, h1, h2, hk => by
    simp at h1 h2; subst h1; subst h2
    show bindL kindOf ((p, w) :: P.zip vs) m p = _
    unfold bindL
    rw [bindL_out fun v hv => (List.nodup_cons.mp nd).1 (List.of_mem_zip hv).1, if_pos hk]
    simp
  | p :: P, w :: vs, i + 1, m, nd, h1, h2, hk => by
    show bindL kindOf ((p, w) :: P.zip vs) m x = _
    unfold bindL
    exact bindL_get (i := i) (List.nodup_cons.mp nd).2 (by simpa using h1) (by simpa using h2) hk
theorem bindC_get {kindOf : Str → Option NameKind} {x : Str} {v : Value} : ∀ {P : List Str} {vs : List Value} {i : Nat} {m : Str → Option Value}, P.Nodup → P[i]? = some x → vs[i]? = some v → kindOf x ≠ some .local →
    bindC kindOf (P.zip vs) m x = some v
  | [], _, _, _, _, h, _, _ => by simp at h
  | _ :: _, [], _, _, _, _, h, _ => by simp at h
  | p :: P, w :: vs, 0, m, nd, h1, h2, hk => by
    simp at h1 h2; subst h1; subst h2
    show bindC kindOf ((p, w) :: P.zip vs) m p = _
    unfold bindC
    rw [bindC_out fun v hv => (List.nodup_cons.mp nd).1 (List.of_mem_zip hv).1, if_neg hk]
    simp
  | p :: P, w :: vs, i + 1, m, nd, h1, h2, hk => by
    show bindC kindOf ((p, w) :: P.zip vs) m x = _
    unfold bindC
    exact bindC_get (i := i) (List.nodup_cons.mp nd).2 (by simpa using h1) (by simpa using h2) hk
def start (N : List Str) (vs : List V) : St := vs.map some ++ List.replicate (N.length - vs.length) none
def cxOf (CX : CXT) (P : Program) (w : World) (K : PySem.W.Frag) (mg : Str → Option Value) (base : Heap) (N : List Str) (qual : Str) (scope : Scope) (f : Addr) (cd : Value) (A : Around) (outer : List Env) (s : Shared) (H : Hp) (E : XK) : Cx where
  prog := P
  w := w
  K := K
  mg := mg
  base := base
  A := A.deeper (envOfC qual scope s.heap.objs.size f cd)
  N := N
  s₀ := s
  H₀ := H
  env := envOfC qual scope s.heap.objs.size f cd
  outer := outer
  stack := envOfC qual scope s.heap.objs.size f cd :: outer
  ex := []
  calm := true
  fn := fun _ => true
  pn := []
  xe := fun e s' => wpAny (model P w) (A.deeper (envOfC qual scope s.heap.objs.size f cd)) (leaving (envOfC qual scope s.heap.objs.size f cd) e) (fun _ s'' => CX outer H s E e s'') (fun e' s'' => CX outer H s E e' s'') s'
theorem cell_has {sc : Scope} {n : Nat} {x : Str} (h : sc.names.lookup x = some .cell) : ∃ c, (cellsFrom n sc.names []).lookup x = some c := by
  have q := PySem.W.cellsFrom_some sc.names n [] (.inl h)
  exact Option.isSome_iff_exists.mp q
theorem inv_start {CX : CXT} {P : Program} {w : World} {K : PySem.W.Frag} {mg : Str → Option Value} {base : Heap} {N ps : List Str} {qual : Str} {scope : Scope} {f : Addr} {cd : Value} {A : Around} {outer : List Env} {s s1 : Shared} {H : Hp} {E : XK} {us : List Value} {vs : List V}
    (S : FnScope N ps scope) (hd : A.handled = none) (e0 : Env0 P w K mg base A outer s H) (hl : vs.length = ps.length) (r : Vals vs us)
    (x : InCallC s s.heap.objs.size (bindL (envOfC qual scope s.heap.objs.size f cd).kindOf (ps.zip us) fun _ => none) (cellsFrom (s.heap.objs.size + 1) scope.names []) (bindC (envOfC qual scope s.heap.objs.size f cd).kindOf (ps.zip us) fun _ => none) s1) :
    Inv (cxOf CX P w K mg base N qual scope f cd A outer s H E) [] (start N vs) H s1 := by
  have hpl : ps.length ≤ N.length := by have := congrArg List.length S.pre; rw [List.length_take] at this; omega
  obtain ⟨h1, tk, rfl, hk⟩ := x.done
  have noA : ∀ b : Addr, b ∉ (cxOf CX P w K mg base N qual scope f cd A outer s H E).ex := fun b z => absurd (show b ∈ ([] : List Addr) from z) (by simp)
  refine ⟨⟨e0.mod, S.kind, rfl, rfl, Nat.le_refl _, fun y z c h1 h2 => ?_, fun y hy => ?_, fun y c _ h => ?_, fun _ => hd, Around.frames_deeper e0.frames, .inr ⟨rfl, rfl⟩, fun b z => absurd z (noA b), e0.bs, e0.bsz, fun b _ _ => noA b, fun b z => absurd z (noA b), e0.funs, e0.frf⟩,
    rfl, e0.bare, Un.kept hk, ⟨_, x.toInCall.ns, fun i y v h1 h2 h3 => ?_⟩, fun y c h => ⟨_, x.cell y c h⟩, e0.hok.fresh (Nat.le_refl _), fun y c h => ?_, fun p hp => absurd (show p ∈ ([] : List (Addr × Obj)) from hp) (by simp), e0.hok.kept hk, ?_⟩
  · exact name_of_addr x.apart (PySem.mem_of_lookup h1) (PySem.mem_of_lookup h2)
  · have hy : scope.names.lookup y = some .cell ∨ scope.names.lookup y = some .free := hy
    rcases hy with hy | hy
    · exact cell_has hy
    · exact absurd rfl (S.nofree _ (PySem.mem_of_lookup hy))
  · exact Nat.le_of_lt (x.above y c (PySem.mem_of_lookup h))
  · have hi : i < vs.length := by
      unfold start at h2
      by_cases hi : i < vs.length
      · exact hi
      · rw [List.getElem?_append_right (by simpa using hi)] at h2
        rw [List.getElem?_replicate] at h2
        split at h2 <;> cases h2
    have ha : vs[i]? = some v := by
      unfold start at h2
      rw [List.getElem?_append_left (by simpa using hi), List.getElem?_map] at h2
      cases e : vs[i]? with
      | none => rw [e] at h2; cases h2
      | some a => rw [e] at h2; cases h2; rfl
    obtain ⟨u, hu, rv⟩ := r.get ha
    have hp : ps[i]? = some y := by
      rw [← S.pre, List.getElem?_take_of_lt (by omega)]; exact h1
    have ndP : ps.Nodup := by rw [← S.pre]; exact S.nd.sublist (List.take_sublist _ _)
    refine ⟨u, rv, ?_⟩
    rcases S.par y (List.mem_of_getElem? hp) with k | k
    · exact .inl ⟨k, bindL_get ndP hp hu k⟩
    · obtain ⟨c, e⟩ := cell_has (n := s.heap.objs.size + 1) k
      refine .inr ⟨.inl k, c, e, ?_⟩
      have q := x.cell y c e
      rw [bindC_get ndP hp hu (by show scope.names.lookup y ≠ _; rw [k]; decide)] at q
      exact q
  · exact e0.hok.fresh (Nat.le_of_lt (x.above y c (PySem.mem_of_lookup h)))
  · unfold start
    show _ = N.length
    rw [List.length_append, List.length_map, List.length_replicate]
    omega
theorem fn_of {CX : CXT} {P : Program} {w : World} {K : PySem.W.Frag} {mg : Str → Option Value} {base : Heap} {k : Nat} {f : Addr} {name qual : Str} {params : Arguments} {body : List Stmt} {scope : Scope} {dV kV doc pm cdv ct oc : Value} {an od : Option Addr}
    {osl : Array (Option Value)} {N ps : List Str} {sp : Sp} (lk : K.lookup f = some ⟨oc, od, .func (PySem.W.fnOf name qual params body scope dV kV doc pm an cdv ct), osl⟩) (hcd : PySem.W.codeIn K cdv qual = true) (S : FnScope N ps scope)
    (len : ∀ vs H Q E, sp vs H Q E → vs.length = ps.length)
    (hbody : ∀ (A : Around) (outer : List Env) (s : Shared) (H : Hp) (vs : List V) (Q : VK) (E : XK), Room k (A.deeper (envOfC qual scope s.heap.objs.size f cdv)) → sp vs H Q E →
      ∃ t, PSs (cxOf CX P w K mg base N qual scope f cdv A outer s H E) body t ∧ t { nx := fun _ H' => Q .non H', rt := Q } (start N vs) H) :
    FnOk P w K mg base CX (k + 1) f (PySem.W.fnOf name qual params body scope dV kV doc pm an cdv ct) ps sp := by
  refine ⟨len, fun A outer s H args us vs Q E hr e0 hb r hsp => ?_⟩
  have hl := len _ _ _ _ hsp
  have KX : K.In s.heap := e0.mod.kin.keeps fun b o e => (e0.bs b o e).1
  have lim : s.heap.NoLimit := e0.mod.nolimit.keeps fun b o e => (e0.bs b o e).1
  have hkind : ∀ y ∈ ps.zip us, scope.names.lookup y.1 = some .local ∨ (scope.names.lookup y.1 = some .cell ∧ ((cellsFrom (s.heap.objs.size + 1) scope.names []).lookup y.1).isSome = true) := fun ⟨n, v⟩ hy => by
    rcases S.par n (List.of_mem_zip hy).1 with q | q
    · exact .inl q
    · exact .inr ⟨q, PySem.W.cellsFrom_some _ _ _ (.inl q)⟩
  refine codeAny_call_function hr.depth (KX _ _ lk) rfl S.co S.gen rfl (PySem.W.codeRec_of KX hcd) (hb _ _ _ _ ?_)
  refine wpAny_newFunctionEnv_cells S.kind hkind fun env he s1 x => ?_
  subst he
  refine ⟨lim.keeps x.toInCall.keep, codeAny_func ?_⟩
  obtain ⟨t, ht, hq⟩ := hbody A outer s H vs Q E (hr.deeper _) hsp
  have I : Inv (cxOf CX P w K mg base N qual scope f cdv A outer s H E) [] (start N vs) H s1 := inv_start S hr.hd e0 hl r x
  refine wpAny_mono (ht [] s1 (start N vs) H _ I hq) (fun fl s' hs => ?_) fun e s' hs => hs
  have fin : ∀ {σ' : St} {H' : Hp} {v : V} {u : Value}, Inv (cxOf CX P w K mg base N qual scope f cdv A outer s H E) [] σ' H' s' → RelV v u → Q v H' → CE outer P w H s Q u s' :=
    fun {σ' H' v u} J rv q => ⟨v, H', J.os, J.bare, J.base, J.hok, rv, q⟩
  cases fl with
  | ret u =>
    obtain ⟨v, σ', H', J, rv, q⟩ := hs
    exact fin J rv q
  | next =>
    obtain ⟨σ', H', J, q⟩ := hs
    exact fin (v := V.non) (u := Value.none) J rfl q
  | brk =>
    obtain ⟨_, _, _, q⟩ := hs
    exact False.elim q
  | cont =>
    obtain ⟨_, _, _, q⟩ := hs
    exact False.elim q
end L2
namespace L2
open PySem PySem.Spec PyProof.Rows DD
section
variable {X : Cx} {x : Str} {p pos : Pos} {e : Expr} {es : List Expr} {t : TA} {id T : String} {r : List V → Hp → VK → Prop}
def tCB (r : List V → Hp → VK → Prop) (t : TA) : TE := fun σ H Q => t σ H fun vs H1 => r vs H1 Q
theorem pe_callB (hc : CallR X (.builtin id) r) (hg : Gl X x) (hm : X.mg x = none) (hv : bootBuiltins x = some (.builtin id)) (ha : PA X (e :: es) t) (hn : x ≠ "__name__" := by decide) (hdb : (x == ("__debug__" : Str)) = false := by decide)
    (he : starEach (e :: es) X.env = (false, eval e X.env) :: starEach es X.env := by rfl) (hpl : (backTo pos (starEach es X.env)).any (·.1) = false := by rfl) : PE X (.Call (.Name x p) (e :: es) [] pos) (tCB r t) := by
  intro pins s σ H Q I h
  refine wpAny_Call_Name_kw (ld_blt I hg hm hv ?_ hn hdb)
  exact PyProof.Rows.callWith_builtin1 (thn (ha pos pins s σ H _ I h) fun us s1 ⟨vs, H1, I1, r1, q1⟩ => hc pins s1 σ H1 vs us Q I1 r1 q1) he hpl
theorem pe_callTy (hc : CallR X (.type T) r) (hg : Gl X x) (hm : X.mg x = none) (hv : bootBuiltins x = some (.type T)) (ha : PA X (e :: es) t) (hn : x ≠ "__name__" := by decide) (hdb : (x == ("__debug__" : Str)) = false := by decide)
    (he : starEach (e :: es) X.env = (false, eval e X.env) :: starEach es X.env := by rfl) (hpl : (backTo pos (starEach es X.env)).any (·.1) = false := by rfl) : PE X (.Call (.Name x p) (e :: es) [] pos) (tCB r t) := by
  intro pins s σ H Q I h
  refine wpAny_Call_Name_kw (ld_blt I hg hm hv ?_ hn hdb)
  exact PyProof.Rows.callWith_type1 (thn (ha pos pins s σ H _ I h) fun us s1 ⟨vs, H1, I1, r1, q1⟩ => hc pins s1 σ H1 vs us Q I1 r1 q1) he hpl
end
end L2
namespace HT
open PySem PyProof.Rows
section
open PySem.SeqAt
open PySem.AutoSeq1 (wpAny_loadPart')
open PySem.MeetsSeq PySem.MeetsSeq2 PySem.MeetsSeq3
end
section
variable {prog : Program} {w : World} {A : Around} {E : Value → Shared → Prop} {s : Shared}
end
end HT
namespace L2
open PySem PySem.Spec PyProof.Rows DD
abbrev TO := St → Hp → (Option Int → Hp → Prop) → Prop
section
variable {X : Cx} {e : Expr} {te : TE} {lo hi : Option Expr} {tl th : TO} {pos p2 : Pos}
end
end L2
namespace L2
open PySem PySem.Spec PyProof.Rows DD
def ixN (n : Nat) (i : Int) : Option Nat := if 0 ≤ i then (if i < n then some i.toNat else none) else if -(n : Int) ≤ i then some (i + n).toNat else none
def atI {α : Type} (xs : List α) (i : Int) : Option α := (ixN xs.length i).bind fun j => xs[j]?
theorem ixN_seq {n : Nat} {i : Int} {j : Nat} (h : ixN n i = some j) : seqIndex? i n = some j ∧ j < n ∧ -(n : Int) ≤ i ∧ i < n := by
  unfold ixN at h
  by_cases h0 : 0 ≤ i
  · rw [if_pos h0] at h
    by_cases h1 : i < n
    · rw [if_pos h1] at h
      have e : i.toNat = j := Option.some.inj h
      exact ⟨by rw [seqIndex_of h0 h1, e], by omega, by omega, h1⟩
    · rw [if_neg h1] at h; cases h
  · rw [if_neg h0] at h
    by_cases h1 : -(n : Int) ≤ i
    · rw [if_pos h1] at h
      have e : (i + n).toNat = j := Option.some.inj h
      exact ⟨by rw [seqIndex_neg (by omega) h1, e], by omega, h1, by omega⟩
    · rw [if_neg h1] at h; cases h
theorem atI_get {α : Type} {xs : List α} {i : Int} {v : α} (h : atI xs i = some v) : ∃ j, seqIndex? i xs.length = some j ∧ xs[j]? = some v ∧ j < xs.length ∧ -(xs.length : Int) ≤ i ∧ i < xs.length := by
  unfold atI at h
  cases e : ixN xs.length i with
  | none => rw [e] at h; cases h
  | some j =>
    rw [e] at h
    obtain ⟨h1, h2, h3, h4⟩ := ixN_seq e
    exact ⟨j, h1, h, h2, h3, h4⟩
theorem atI_nat {α : Type} {xs : List α} {j : Nat} {v : α} (h : xs[j]? = some v) : atI xs (j : Int) = some v := by
  have hj : j < xs.length := (List.getElem?_eq_some_iff.mp h).1
  have e : ixN xs.length (j : Int) = some j := by
    unfold ixN
    rw [if_pos (by omega), if_pos (by omega)]; simp
  unfold atI; rw [e]; exact h
theorem atI_last {α : Type} (xs : List α) (v : α) : atI (xs ++ [v]) (-1) = some v := by
  have hl : (xs ++ [v]).length = xs.length + 1 := by simp
  have e : ixN (xs ++ [v]).length (-1) = some xs.length := by
    unfold ixN
    rw [hl, if_neg (by decide), if_pos (by omega)]
    congr 1
    omega
  unfold atI
  rw [e]
  show (xs ++ [v])[xs.length]? = some v
  simp
def PlainIx (b : Expr) : Prop := ∀ o i, subscripted b false o i = operate [o, i] (getItem o i)
def IxR (X : Cx) (r : R2) : Prop :=
  ∀ (value slice : Expr) (pins : List (Addr × Obj)) (s : Shared) (σ : St) (H : Hp) (x y : V) (v u : Value) (Q : VK), Inv X pins σ H s → RelV x v → RelV y u → r x y H Q →
    subscripted slice false v u = operate [v, u] (getItem v u) → wpAny (model X.prog X.w) X.A (subscriptTail value slice v u) (EP X pins σ Q) X.xe s
def MtR (X : Cx) (id : String) (r : V → List V → Hp → VK → Prop) : Prop :=
  ∀ (pins : List (Addr × Obj)) (s : Shared) (σ : St) (H : Hp) (x : V) (xs : List V) (v : Value) (us : List Value) (Q : VK), Inv X pins σ H s → RelV x v → Vals xs us → r x xs H Q →
    wpAny (model X.prog X.w) X.A (call (.builtin id) (v :: us)) (EP X pins σ Q) X.xe s
section
variable {X : Cx} {a b : Expr} {ta tb : TE} {pos : Pos}
theorem pe_ix {r : R2} (hr : IxR X r) (ha : PE X a ta) (hb : PE X b tb) (hs : PlainIx b) : PE X (.Subscript a b pos) (tOp r ta tb) := by
  intro pins s σ H Q I h
  exact Subscript_ (binT ha hb I h fun v u s2 x y H2 I2 rx ry q => hr a b pins s2 σ H2 x y v u Q I2 rx ry q (hs _ _))
def rIxL (K : PySem.W.Frag) : R2 := fun x y H Q => ∃ p xs i v, x = .ref p ∧ y = .int i ∧ SqL K H p xs ∧ atI xs i = some v ∧ Q v H
def rIxT (K : PySem.W.Frag) : R2 := fun x y H Q => ∃ p xs i v, x = .ref p ∧ y = .int i ∧ SqT K H p xs ∧ atI xs i = some v ∧ Q v H
theorem ix_list : IxR X (rIxL X.K) := by
  intro value slice pins s σ H x y v u Q I rx ry h hs
  obtain ⟨p, xs, i, z, rfl, rfl, hq, he, q⟩ := h
  cases rx
  obtain ⟨t, rfl⟩ := ry
  obtain ⟨its, r, pl, hz⟩ := I.list hq
  obtain ⟨j, h1, h2, h3, h4, h5⟩ := atI_get he
  obtain ⟨w, ew, rw'⟩ := r.get h2
  have hl := r.length
  have hn := line63
  have fin : EP X pins σ Q w s := ⟨z, H, I, rw', q⟩
  by_cases h0 : 0 ≤ i
  · have hj : i.toNat = j := by
      rw [seqIndex_of h0 h5] at h1
      exact Option.some.inj h1
    exact item_listR pl.isList h0 (by omega) (by rw [hj]; simpa using ew) fin hs
  · have hj : (i + (its.toArray.size : Int)).toNat = j := by
      rw [seqIndex_neg (by omega) h4] at h1
      rw [List.size_toArray, ← hl]
      exact Option.some.inj h1
    exact subscriptTail_builtinR (x := w) pl.isList.typeIs slot_list_getitem.lookup
      (wpAny_getItem_list_neg (Q := fun r s' => r = w ∧ EP X pins σ Q r s') pl.isList (by omega) (by rw [List.size_toArray] <;> omega) (by omega) (by rw [hj]; simpa using ew) ⟨rfl, fin⟩) hs
theorem ix_tup : IxR X (rIxT X.K) := by
  intro value slice pins s σ H x y v u Q I rx ry h hs
  obtain ⟨p, xs, i, z, rfl, rfl, hq, he, q⟩ := h
  cases rx
  obtain ⟨t, rfl⟩ := ry
  obtain ⟨its, r, pl, hz⟩ := I.tuple hq
  obtain ⟨j, h1, h2, h3, h4, h5⟩ := atI_get he
  obtain ⟨w, ew, rw'⟩ := r.get h2
  have hl := r.length
  have hn := line63
  have fin : EP X pins σ Q w s := ⟨z, H, I, rw', q⟩
  exact subscriptTail_builtinR (x := w) pl.typeIs slot_tuple_getitem.lookup
    (getItem_tuple (j := j) (Q := fun r s' => r = w ∧ EP X pins σ Q r s') pl (by omega) (by omega) (by rw [List.size_toArray, ← hl]; exact h1) (by simpa using ew) ⟨rfl, fin⟩) hs
theorem Inv.lst {pins : List (Addr × Obj)} {σ : St} {H : Hp} {s : Shared} {p : Addr} {xs : List V} (I : Inv X pins σ H s) (h : H p = some (.lst xs)) :
    ∃ (its : List Value) (n : Nat), Vals xs its ∧ s.heap.get? p = some { cls := .type "list", data := .seq its.toArray n } ∧ xs.length ≤ sizeLine := by
  obtain ⟨z, its, n, r, e⟩ := I.hok p _ h
  exact ⟨its, n, r, e, z⟩
theorem call_len_seq : CallR X (.builtin "len") (fun xs H Q => ∃ p ys, xs = [.ref p] ∧ (SqL X.K H p ys ∨ SqT X.K H p ys) ∧ Q (.int ys.length) H) := by
  intro pins s σ H xs us Q I r h
  obtain ⟨p, ys, rfl, hq, q⟩ := h
  obtain ⟨u, rfl, rx⟩ := vals1 r
  cases rx
  have hn := line63
  rcases hq with hq | hq
  · obtain ⟨its, r', pl, hz⟩ := I.list hq
    have hlen := r'.length
    exact Calls.call_len_list pl.isList (by simp only [List.size_toArray] <;> omega) ⟨.int ys.length, H, I.tok _, ⟨s.toks + 1, by rw [List.size_toArray, hlen]⟩, q⟩
  · obtain ⟨its, r', pl, hz⟩ := I.tuple hq
    have hlen := r'.length
    exact len_tuple pl (by simp only [List.size_toArray] <;> omega) ⟨.int ys.length, H, I.tok _, ⟨s.toks + 1, by rw [List.size_toArray, hlen]⟩, q⟩
def tyV (K : PySem.W.Frag) (T : String) (x : V) (H : Hp) : Prop := match x with
  | .str _ => T = "str"
  | .int _ => T = "int"
  | .ref p => (T = "list" ∧ ∃ xs, SqL K H p xs) ∨ (T = "tuple" ∧ ∃ o, K.lookup p = some o ∧ o.cls = .type "tuple" ∧ o.dict = none) ∨
      (T = "dict" ∧ ((∃ kvs, H p = some (.dK kvs)) ∨ ∃ kvs, H p = some (.dT kvs))) ∨ (T = "set" ∧ ∃ S n, H p = some (.set S n))
  | _ => False
theorem tyV_is {pins : List (Addr × Obj)} {σ : St} {H : Hp} {s : Shared} {T : String} {x : V} {v : Value} (I : Inv X pins σ H s) (r : RelV x v) (ty : tyV X.K T x H) :
    s.TypeIs v T ∧ ∀ a, v = .ref a → ∃ ob, s.heap.get? a = some ob ∧ ob.dict = none := by
  cases x with
  | str z =>
    obtain ⟨t, rfl⟩ := r
    cases (show T = "str" from ty)
    exact ⟨typeIs_str s z t, fun _ e => nomatch e⟩
  | int i =>
    obtain ⟨t, rfl⟩ := r
    cases (show T = "int" from ty)
    exact ⟨typeIs_int s i t, fun _ e => nomatch e⟩
  | ref p =>
    cases r
    rcases ty with ⟨rfl, xs, hq⟩ | ⟨rfl, o, hk, hc, hd⟩ | ⟨rfl, hk⟩ | ⟨rfl, S, n, hk⟩
    · obtain ⟨its, _, pl, _⟩ := I.list hq
      refine ⟨pl.isList.typeIs, fun a e => ?_⟩
      cases e
      obtain ⟨o, n, e, c, hd, _⟩ := pl
      exact ⟨o, e, hd⟩
    · refine ⟨⟨o, I.kIn p o hk, hc⟩, fun a e => ?_⟩
      cases e
      exact ⟨o, I.kIn _ o hk, hd⟩
    · have z : ∃ o, s.heap.get? p = some o ∧ o.ExactDict := by
        rcases hk with ⟨kvs, hk⟩ | ⟨kvs, hk⟩
        · obtain ⟨_, _, _, _, o, _, _, e, ex, _⟩ := I.hok p _ hk
          exact ⟨o, e, ex⟩
        · obtain ⟨_, _, _, _, o, _, _, e, ex, _⟩ := I.hok p _ hk
          exact ⟨o, e, ex⟩
      obtain ⟨o, e, ex⟩ := z
      refine ⟨⟨o, e, ex.1⟩, fun a e2 => ?_⟩
      cases e2
      exact ⟨o, e, ex.2.1⟩
    · obtain ⟨o, _, _, _, e, ex, _⟩ := I.hok p _ hk
      refine ⟨⟨o, e, ex.1⟩, fun a e2 => ?_⟩
      cases e2
      exact ⟨o, e, ex.2.1⟩
  | _ => exact False.elim ty
def tBM (K : PySem.W.Frag) (T : String) (r : V → List V → Hp → VK → Prop) (to : TE) (t : TA) : TE := fun σ H Q => to σ H fun x H1 => tyV K T x H1 ∧ t σ H1 fun xs H2 => r x xs H2 Q
variable {o e : Expr} {es : List Expr} {to : TE} {t : TA} {name : Str} {apos cpos : Pos} {T id : String} {r : V → List V → Hp → VK → Prop}
theorem pe_bm (pa : PlainAttrs T) (slot : Slot T name id) (hty : typeOf (.builtin id) = pure (.type "method_descriptor")) (hm : MtR X id r) (ho : PE X o to) (ha : PA X (e :: es) t)
    (hbase : attributeBase o name X.env (eval o X.env) = eval o X.env := by rfl)
    (hfew : ((backTo cpos (starEach (e :: es) X.env)).all (fun x => !x.1) && (backToKw cpos (keywordEach [] X.env)).all (fun x => x.1.isSome)
      && decide ((e :: es).length + ([] : List Keyword).length + (if ([] : List Keyword).isEmpty then 0 else 1) < 30)) = true := by rfl)
    (hline : (apos.endLine == cpos.line) = true := by rfl) (hs : starEach (e :: es) X.env = (false, eval e X.env) :: starEach es X.env := by rfl) (hplain : (backTo cpos (starEach es X.env)).any (·.1) = false := by rfl) :
    PE X (.Call (.Attribute o name apos) (e :: es) [] cpos) (tBM X.K T r to t) := by
  intro pins s σ H Q I h
  refine wpAny_Call_method_late hbase hfew hline rfl (thn (ho pins s σ H _ I h) fun v s1 ⟨x, H1, I1, r1, ty, q1⟩ => ?_)
  obtain ⟨h1, h2⟩ := tyV_is I1 r1 ty
  refine ⟨T, id, pa, slot, hty, h1, h2, ?_⟩
  have hA := ha cpos pins s1 σ H1 _ I1 q1
  rw [hs] at hA ⊢
  refine Calls.callWith_builtin (by show (false || (backTo cpos (starEach es X.env)).any (·.1)) = false; rw [hplain] <;> rfl) (Calls.evalArgs_plain ?_)
  exact thn hA fun us s2 ⟨vs, H2, I2, r2, q2⟩ => hm pins s2 σ H2 x vs v us Q I2 r1 r2 q2
end
end L2
namespace L2
open PySem PySem.Spec PyProof.Rows DD
def MtM (X : Cx) (id : String) (r : V → List V → Hp → VK → Prop) : Prop :=
  ∀ (pins : List (Addr × Obj)) (s : Shared) (σ : St) (H : Hp) (x : V) (xs : List V) (v : Value) (us : List Value) (Q : VK), Inv X pins σ H s → RelV x v → Vals xs us → r x xs H Q →
    wpAny (model X.prog X.w) X.A (call (.builtin id) (v :: us)) (EP X pins σ Q) X.xe s
theorem Vals.one : ∀ {x : V} {us : List Value}, Vals [x] us → ∃ u, us = [u] ∧ RelV x u
  | _, _, .cons r .nil => ⟨_, rfl, r⟩
theorem Vals.zero : ∀ {us : List Value}, Vals [] us → us = []
  | _, .nil => rfl
section
variable {X : Cx} {pins : List (Addr × Obj)} {σ : St} {H : Hp} {s : Shared} {l b : Addr} {xs ys zs : List V}
theorem Inv.lset {its its' : List Value} {n : Nat} {f : Array Value → Array Value} {t' : Nat} (I : Inv X pins σ H s) (hH : H l = some (.lst xs))
    (e : s.heap.get? l = some { cls := .type "list", data := .seq its.toArray n }) (hf : f its.toArray = its'.toArray) (hv : Vals ys its') (hz : ys.length ≤ sizeLine) :
    Inv X pins σ (upd H l (.lst ys)) { s with heap := s.heap.update l (Obj.mapSeq f), toks := t' } := by
  have q := PySem.IsL.update e f
  rw [hf] at q
  refine I.write (x := l) (e := l) (by rw [hH]; exact trivial) (.inl rfl) (fun b' u hb hu => (Heap.get?_update_other s.heap (Obj.mapSeq f) (Ne.symm hb)).trans hu) ⟨_, q⟩ ?_
  exact ⟨hz, its', _, hv, q⟩
theorem Inv.fresh (I : Inv X pins σ H s) : H s.heap.objs.size = none := I.hok.fresh (Nat.le_refl _)
theorem Inv.lstM (I : Inv X pins σ H s) (hH : H l = some (.lst xs)) : xs.length ≤ sizeLine ∧ ∃ (its : List Value) (n : Nat), Vals xs its ∧ xs.length = its.length ∧ s.heap.get? l = some { cls := .type "list", data := .seq its.toArray n } := by
  obtain ⟨z, its, n, r, e⟩ := I.hok l _ hH
  exact ⟨z, its, n, r, r.length, e⟩
end
section
variable {X : Cx}
def rAppend : V → List V → Hp → VK → Prop := fun x vs H Q => ∃ l xs y, x = .ref l ∧ vs = [y] ∧ H l = some (.lst xs) ∧ xs.length < sizeLine ∧ Q .non (upd H l (.lst (xs ++ [y])))
theorem mt_append : MtM X "list.append" rAppend := by
  intro pins s σ H x vs v us Q I rx rv h
  obtain ⟨l, xs, y, rfl, rfl, hH, hz, q⟩ := h
  cases rx
  obtain ⟨u, rfl, ru⟩ := rv.one
  obtain ⟨z, its, n, r, hl, e⟩ := I.lstM hH
  refine call_meets F.slot_list_append ⟨_, e, rfl⟩ F.entry_list_append (F.args_list_append_2 _ _) (PySem.list_append l its.toArray n u (by rw [List.size_toArray]; omega)) ⟨e, ?_⟩
  refine ⟨.non, _, I.lset (its' := its ++ [u]) hH e (by simp) (r.append (.cons ru .nil)) ?_, rfl, q⟩
  rw [List.length_append, List.length_singleton]
  omega
end
section
variable {prog : Program} {w : World} {A : Around} {E : Value → Shared → Prop} {s : Shared}
end
section
variable {X : Cx}
end
end L2
namespace L2
open PySem PySem.Spec PyProof.Rows DD
section
variable {κ : Type} [DecidableEq κ]
def valV (kvs : List (κ × V)) (k : κ) : Option V := (kvs.find? fun kv => decide (kv.1 = k)).map (·.2)
def putK (kvs : List (κ × V)) (k : κ) (v : V) : List (κ × V) :=
  if (kvs.any fun kv => decide (kv.1 = k)) = true then kvs.map (fun kv => if kv.1 = k then (kv.1, v) else kv) else kvs ++ [(k, v)]
def dropK (kvs : List (κ × V)) (k : κ) : List (κ × V) := kvs.filter fun kv => decide (kv.1 ≠ k)
theorem valV_pos {p : κ × V} {r : List (κ × V)} {k : κ} (e : p.1 = k) : valV (p :: r) k = some p.2 := by simp [valV, List.find?_cons, e]
theorem valV_neg {p : κ × V} {r : List (κ × V)} {k : κ} (e : ¬ p.1 = k) : valV (p :: r) k = valV r k := by simp [valV, List.find?_cons, e]
theorem RelO.getD {o : Option V} {u : Option Value} {d : V} {d' : Value} (r : RelO o u) (rd : RelV d d') : RelV (o.getD d) (u.getD d') := by
  cases o with
  | none => cases u with
    | none => exact rd
    | some _ => exact (show False from r).elim
  | some _ => cases u with
    | none => exact (show False from r).elim
    | some _ => exact r
theorem KV.any {kvs : List (κ × V)} {vs : List (κ × Value)} (r : KV kvs vs) (k : κ) : (kvs.any fun kv => decide (kv.1 = k)) = vs.any fun kv => decide (kv.1 = k) := by
  unfold KV at r
  induction r with
  | nil => rfl
  | cons h t ih => rw [List.any_cons, List.any_cons, ih, h.1]
theorem KV.drop {kvs : List (κ × V)} {vs : List (κ × Value)} (r : KV kvs vs) (k : κ) : KV (dropK kvs k) (without vs k) := by
  unfold KV at r ⊢
  unfold dropK without
  induction r with
  | nil => exact .nil
  | @cons p q ps qs h t ih =>
    obtain ⟨h1, h2⟩ := h
    rw [List.filter_cons, List.filter_cons]
    by_cases e : p.1 = k
    · have a : ¬ decide (p.1 ≠ k) = true := by simp [e]
      have b : ¬ decide (q.1 ≠ k) = true := by simp [h1.symm.trans e]
      rw [if_neg a, if_neg b]; exact ih
    · have e' : ¬ q.1 = k := fun z => e (h1.trans z)
      have a : decide (p.1 ≠ k) = true := by simp [e]
      have b : decide (q.1 ≠ k) = true := by simp [e']
      rw [if_pos a, if_pos b]; exact .cons ⟨h1, h2⟩ ih
theorem KV.length {kvs : List (κ × V)} {vs : List (κ × Value)} (r : KV kvs vs) : kvs.length = vs.length := Paired.length r
end
abbrev KT (H : Hp) : List (D × V) → List (D × Addr × Value) → Prop := Paired fun p q => p.1 = q.1 ∧ DKey H p.1 q.2.1 ∧ RelV p.2 q.2.2
theorem KT.keeps {H H' : Hp} {kvs : List (D × V)} {xs : List (D × Addr × Value)} (r : KT H kvs xs) (ht : ∀ b ys, H b = some (.tup ys) → H' b = some (.tup ys)) : KT H' kvs xs :=
  Paired.mapP r fun _ _ z => ⟨z.1, z.2.1.mono ht, z.2.2⟩
section
variable {P : Program} {w : World} {H : Hp} {h : Heap} {a : Addr}
theorem is_of_n (ok : HOk P w H h) : ∀ (n : Nat) {d : D} {v : V} {u : Value}, sz d ≤ n → DV H d v → RelV v u → Is h d u := by
  intro n
  induction n using Nat.strongRecOn with
  | _ n ih =>
  intro d v u hn z r
  have tup : ∀ ds, d = ofL ds → Is h d u := by
    intro ds e
    subst e
    obtain ⟨a, vs, rfl, t, al⟩ := dv_tup.mp z
    obtain rfl : u = Value.ref a := r
    obtain ⟨_, its, rv, p⟩ := (show ObjOk P w H h a (.tup vs) from ok a _ t)
    refine is_tup.mpr ⟨a, its, rfl, p.tup, ?_⟩
    have go : ∀ (l : List D) (ys : List V) (us : List Value), (∀ y ∈ l, y ∈ ds) → All2 (DV H) l ys → Vals ys us → All2 (Is h) l us := by
      intro l
      induction l with
      | nil => intro ys us _ q q2; cases q; cases q2; exact .nil
      | cons y l ihl =>
        intro ys us hm q q2
        cases q with
        | cons q1 q1' =>
          cases q2 with
          | cons r1 r2 =>
            have := sz_mem (hm y List.mem_cons_self)
            exact .cons (ih (sz y) (by omega) (Nat.le_refl _) q1 r1) (ihl _ _ (fun z hz => hm z (List.mem_cons_of_mem _ hz)) q1' r2)
    exact go ds vs its (fun _ hy => hy) al rv
  cases d with
  | non =>
    obtain rfl : v = .non := (by simpa only [DV] using z)
    exact (by simp only [Is]; exact r)
  | int i =>
    obtain rfl : v = .int i := (by simpa only [DV] using z)
    exact (by simp only [Is]; exact r)
  | str x =>
    obtain rfl : v = .str x := (by simpa only [DV] using z)
    exact (by simp only [Is]; exact r)
  | nil => exact tup [] rfl
  | cons x y =>
    obtain ⟨_, _, _, _, _, _, z1⟩ := (by simpa only [DV] using z)
    obtain ⟨ds, rfl, _⟩ := dvs_iff.mp z1
    exact tup (x :: ds) rfl
theorem DV.is {d : D} {v : V} {u : Value} (z : DV H d v) (ok : HOk P w H h) (r : RelV v u) : Is h d u := is_of_n ok (sz d) (Nat.le_refl _) z r
end
def DGet (H : Hp) (a : Addr) (y : V) (r : Option V) : Prop :=
  (∃ kvs k, Rd H a (.dK kvs) ∧ y = kV k ∧ r = valV kvs k) ∨ ∃ kvs k b, Rd H a (.dT kvs) ∧ y = .ref b ∧ DKey H k b ∧ r = valV kvs k
def DPut (H : Hp) (a : Addr) (y v : V) (H' : Hp) : Prop :=
  (∃ kvs k, H a = some (.dK kvs) ∧ y = kV k ∧ kvs.length < sizeLine ∧ H' = upd H a (.dK (putK kvs k v))) ∨
  ∃ kvs k b, H a = some (.dT kvs) ∧ y = .ref b ∧ DKey H k b ∧ kvs.length < sizeLine ∧ H' = upd H a (.dT (putK kvs k v))
theorem DGet.k {H : Hp} {a : Addr} {kvs : List (Key × V)} {k : Key} (e : H a = some (.dK kvs)) : DGet H a (kV k) (valV kvs k) := .inl ⟨kvs, k, .inl e, rfl, rfl⟩
theorem DGet.t {H : Hp} {a b : Addr} {kvs : List (D × V)} {k : D} (e : H a = some (.dT kvs)) (eb : DKey H k b) : DGet H a (.ref b) (valV kvs k) := .inr ⟨kvs, k, b, .inl e, rfl, eb, rfl⟩
theorem DPut.k {H : Hp} {a : Addr} {kvs : List (Key × V)} {k : Key} {v : V} (e : H a = some (.dK kvs)) (hl : kvs.length < sizeLine) : DPut H a (kV k) v (upd H a (.dK (putK kvs k v))) := .inl ⟨kvs, k, e, rfl, hl, rfl⟩
theorem DPut.t {H : Hp} {a b : Addr} {kvs : List (D × V)} {k : D} {v : V} (e : H a = some (.dT kvs)) (eb : DKey H k b) (hl : kvs.length < sizeLine) :
    DPut H a (.ref b) v (upd H a (.dT (putK kvs k v))) := .inr ⟨kvs, k, b, e, rfl, eb, hl, rfl⟩
section
variable {X : Cx} {pins : List (Addr × Obj)} {σ : St} {H : Hp} {s : Shared} {a : Addr} {y v : V} {u r : Value} {o : Option V} {A : Around} {E : Value → Shared → Prop}
end
section
variable {X : Cx} {pins : List (Addr × Obj)} {σ : St} {H : Hp} {s : Shared} {a : Addr} {kvs : List (Key × V)} {k : Key} {u : Value} {A : Around} {E : Value → Shared → Prop}
end
section
variable {X : Cx} {o i e value : Expr} {pos pos' tpos : Pos} {td ty tv : TE}
end
section
variable {X : Cx} {pos : Pos}
end
structure M1 (X : Cx) (o : Expr) (m : Str) (apos : Pos) (e : Expr) (cpos : Pos) : Prop where
  base : attributeBase o m X.env (eval o X.env) = eval o X.env
  few : ((backTo cpos (starEach [e] X.env)).all (fun x => !x.1) && (backToKw cpos (keywordEach [] X.env)).all (fun x => x.1.isSome)
    && decide (([e] : List Expr).length + ([] : List Keyword).length + (if ([] : List Keyword).isEmpty then 0 else 1) < 30)) = true
  line : (apos.endLine == cpos.line) = true
  trees : backTo cpos (starEach [e] X.env) = [(false, eval e X.env)]
structure M2 (X : Cx) (o : Expr) (m : Str) (apos : Pos) (e f : Expr) (cpos : Pos) : Prop where
  base : attributeBase o m X.env (eval o X.env) = eval o X.env
  few : ((backTo cpos (starEach [e, f] X.env)).all (fun x => !x.1) && (backToKw cpos (keywordEach [] X.env)).all (fun x => x.1.isSome)
    && decide (([e, f] : List Expr).length + ([] : List Keyword).length + (if ([] : List Keyword).isEmpty then 0 else 1) < 30)) = true
  line : (apos.endLine == cpos.line) = true
  trees : backTo cpos (starEach [e, f] X.env) = [(false, eval e X.env), (false, eval f X.env)]
section
variable {X : Cx} {pins : List (Addr × Obj)} {σ : St} {H : Hp} {s : Shared} {a : Addr} {y d : V} {u r : Value} {o : Option V} {A : Around} {E : Value → Shared → Prop}
end
section
variable {X : Cx} {o e f : Expr} {apos cpos : Pos} {td ty tx : TE}
end
section
variable {X : Cx} {pins : List (Addr × Obj)} {σ : St} {H : Hp} {s : Shared} {a : Addr} {kvs : List (Key × V)} {A : Around} {E : Value → Shared → Prop}
end
section
variable {X : Cx} {pins : List (Addr × Obj)} {σ : St} {H : Hp} {s : Shared} {a : Addr} {y : V} {u : Value} {A : Around} {E : Value → Shared → Prop}
end
end L2
namespace Att
open PySem PySem.W PySem.Calls PyProof.Rows
theorem ints_of_wellAll {P : Params} {h : Heap} : ∀ (ns : List Int) (vs : List Value), WellAll P h vs (ns.map WData.int) → IntsAre vs ns := by
  intro ns
  induction ns with
  | nil =>
    intro vs w
    rw [List.map_nil] at w
    cases w
    exact .nil
  | cons n ns ih =>
    intro vs w
    rw [List.map_cons] at w
    cases w with
    | cons a b =>
      cases a
      exact .cons _ _ (ih _ b)
theorem script_of {l : OpenLaw} {n : Nat} (hn : l.most = some n) {P : Params} {h : Heap} {args : List WData} {vals : List Value}
    (hpre : l.row.toRowW.claim.pre args = true) (hwl : WellAll P h vals args) :
    ∃ a vs ns, vals = [Value.ref a] ∧ args = [WData.list (ns.map WData.int)] ∧ h.get? a = some { cls := .type "list", data := .seq vs.toArray } ∧ IntsAre vs ns ∧ ns.length ≤ n := by
  have hsh : WShape.hasAll [] args [.list .int] = true := (pre_splitW hpre).1
  have hc : l.pre.holds [] { args := args } = true := (pre_splitW hpre).2
  obtain ⟨d, r, rfl, h1, h2⟩ := hasAllW_cons hsh
  obtain rfl := hasAllW_nil h2
  obtain ⟨xs, rfl, h3⟩ := hasW_list h1
  obtain ⟨ns, rfl⟩ := items_int h3
  have hlen : ns.length ≤ n := by
    unfold OpenLaw.pre at hc
    have h4 : (WTm.not (.lt (.lit (.int (n : Int))) (.len (.arg 0)))).holds [] { args := [.list (ns.map .int)] } = true := by
      have h4 := (holds_andW hc).1
      rw [hn] at h4
      exact h4
    have h5 := condW_of h4 (w_not (w_lt w_lit (w_len_list (w_arg rfl))))
    rw [List.length_map] at h5
    refine Nat.le_of_not_lt fun q => ?_
    have q' : (n : Int) < ((ns.length : Nat) : Int) := by omega
    first
      | (rw [decide_eq_true q'] at h5; exact absurd h5 (by decide))
      | (simp at h5; omega)
  cases hwl with
  | cons w1 w2 =>
    cases w2
    cases w1 with
    | list ho hall => exact ⟨_, _, ns, rfl, rfl, ho, ints_of_wellAll ns _ hall, hlen⟩
theorem post_true (l : OpenLaw) (args : List WData) : l.row.toRowW.claim.post args (.bool true) args = true :=
  postW_of (r := l.row.toRowW) (X := (true == true))
    (show WShape.has [] (.bool true) .bool = true by first | rfl | decide | simp [WShape.has, WShape.arms, WShape.armsAll])
    (show (WTm.eq .res (.lit (.bool true))).value [] { args := args, res := some (.bool true), after := args } = some (.bool (true == true)) from w_eq_bool (w_res rfl) w_lit) rfl
section
variable {prog : Program} {w : World} {A : Around} {E : Value → Shared → Prop} {s : Shared} {K : Frag}
end
end Att
namespace L2
open PySem PySem.Spec PyProof.Rows DD
theorem vals_ints : ∀ {vs : List Value} {ns : List Int}, IntsAre vs ns → Vals (ns.map V.int) vs
  | _, _, .nil => .nil
  | _, _, .cons n t h => .cons ⟨t, rfl⟩ (vals_ints h)
def Only (H : Hp) : Prop := ∀ b, H b = none ∨ ∃ o xs, H b = some (.frz o (.lst xs))
theorem law_call {P : Program} {w : World} {K : PySem.W.Frag} {mg mb : Str → Option Value} {CX : CXT} {k : Nat} {fa a : Addr} {fd : FuncData} {x : Str} {sp : Sp} {s₁ : Shared} {vs : List Value} {ns : List Int}
    (KX : K.In s₁.heap) (hns : s₁.heap.Ns mainGlobals mg) (hb : s₁.heap.Ns builtinsNs mb) (hbb : ∀ x : Str, x ≠ "__name__" → mb x = bootBuiltins x) (hlim : s₁.heap.NoLimit) (hg : s₁.gens = #[])
    (ha : s₁.heap.get? a = some { cls := .type "list", data := .seq vs.toArray }) (hi : IntsAre vs ns) (hl : ns.length ≤ sizeLine) (hr : Room k callerA)
    (F : ∀ base : Heap, K.In base → base.Ns mainGlobals mg → FnOk P w K mg base CX k fa fd [x] sp) (hbind : ∀ (s : Shared) (u : Value), BindsTo s fd ⟨[u], []⟩ [(x, u)])
    (hsp : ∀ H : Hp, Only H → SqL K H a (ns.map V.int) → sp [.ref a] H (fun v _ => v = .bl true) fun _ _ _ => False)
    (hCX : ∀ H e s', CX [] H s₁ (fun _ _ _ => False) e s' → False) :
    codeAny (model P w) callerA (.call (.ref fa) ⟨[.ref a], []⟩) (fun r s' => r = .ok (.ret (.bool true)) ∧ OldK s₁.heap s'.heap ∧ s'.os = s₁.os ∧ AllBare s'.gens) s₁ := by
  have rv := vals_ints hi
  have lenV := hi.length
  have core : ∀ H : Hp, Only H → SqL K H a (ns.map V.int) → HOk P w H s₁.heap → (∀ b, H b ≠ none → b = a) → (H a ≠ none → K.lookup a = none) →
      codeAny (model P w) callerA (.call (.ref fa) ⟨[.ref a], []⟩) (fun r s' => r = .ok (.ret (.bool true)) ∧ OldK s₁.heap s'.heap ∧ s'.os = s₁.os ∧ AllBare s'.gens) s₁ := by
    intro H hO hS hok hA hK
    have base_of : ∀ {b : Addr} {o : Obj}, s₁.heap.get? b = some o → H b = none → (hidT s₁.heap H).get? b = some o := fun e n => hidT_get e n
    have noA : ∀ {b : Addr} {o : Obj} {es : Array DictEntry} {ep : Nat}, s₁.heap.get? b = some o → o.data = .dict es ep → H b = none := fun {b o es ep} e d => by
      cases q : H b with
      | none => rfl
      | some u =>
        have e' : b = a := hA b (by rw [q]; simp)
        subst e'
        rw [ha] at e; cases e
        have d' : Data.seq vs.toArray _ = Data.dict es ep := d
        cases d'
    have nsK : ∀ {b : Addr} {m : Str → Option Value}, s₁.heap.Ns b m → (hidT s₁.heap H).Ns b m := fun {b m} ⟨o, es, ep, e, d, r⟩ => ⟨o, es, ep, base_of e (noA e d), d, r⟩
    have hKb : K.In (hidT s₁.heap H) := fun b o e => base_of (KX b o e) (by
      cases q : H b with
      | none => rfl
      | some u =>
        have e' : b = a := hA b (by rw [q]; simp)
        subst e'
        rw [hK (by rw [q]; simp)] at e; cases e)
    have hM : Mod K mg (hidT s₁.heap H) := ⟨hKb, nsK hns, ⟨mb, nsK hb, hbb⟩, let ⟨mc, h1, h2⟩ := hlim; ⟨mc, nsK h1, h2⟩⟩
    have e0 : Env0 P w K mg (hidT s₁.heap H) callerA [] s₁ H := ⟨rfl, hM, fun b o e => of_hidT e, Nat.le_of_eq (hidT_size _ _), trivial, fun b hb => absurd (show b ∈ ([] : List Addr) from hb) (by simp), hok, .of_eq hg⟩
    refine codeAny_mono ((F _ hKb (nsK hns)).run callerA [] s₁ H ⟨[.ref a], []⟩ [.ref a] [.ref a] _ _ hr e0 (hbind s₁ (.ref a)) (.cons rfl .nil) (hsp H hO hS)) fun r s' h => ?_
    cases r with
    | error e => exact (hCX H e s' h).elim
    | ok fl =>
      cases fl with
      | next => exact False.elim h
      | brk => exact False.elim h
      | cont => exact False.elim h
      | ret u =>
        obtain ⟨v, H', os, bare, un, hok', r', q⟩ := h
        have q' : v = .bl true := q
        subst q'
        obtain rfl : u = Value.bool true := r'
        refine ⟨rfl, OldK.of_keep fun b o e => ?_, os, bare⟩
        cases q : H b with
        | none => exact un.keep b o e q (by intro z; exact absurd (show b ∈ ([] : List Addr) from z) (by simp)) (by simp)
        | some u =>
          rcases hO b with z | ⟨ob, xs, z⟩
          · rw [q] at z; cases z
          · have z2 := un.frzs b ob _ z
            obtain ⟨e1, _⟩ := hok b _ z
            obtain ⟨e2, _⟩ := hok' b _ z2
            rw [e] at e1; cases e1
            exact e2
  cases hk : K.lookup a with
  | some o =>
    have e := KX a o hk
    rw [ha] at e
    cases e
    refine core (fun _ => none) (fun _ => .inl rfl) (.inr ⟨_, vs.toArray, _, hk, rfl, rfl, rfl, by rw [List.size_toArray, lenV]; exact hl, by simpa using rv⟩) (fun b u z => by have z' : (none : Option HO) = some u := z; cases z') (fun b z => absurd rfl z) fun z => absurd rfl z
  | none =>
    refine core (fun b => if b = a then some (.frz { cls := .type "list", data := .seq vs.toArray } (.lst (ns.map V.int))) else none) (fun b => ?_) (.inl (.inr ⟨{ cls := .type "list", data := .seq vs.toArray }, if_pos rfl⟩)) (fun b u z => ?_) (fun b z => ?_) fun _ => hk
    · by_cases hb : b = a
      · exact .inr ⟨_, _, if_pos hb⟩
      · exact .inl (if_neg hb)
    · by_cases hb : b = a
      · have z' := (if_pos hb).symm.trans z
        cases z'
        subst hb
        exact ⟨ha, by rw [List.length_map]; exact hl, vs, _, rv, ha⟩
      · have z' := (if_neg hb).symm.trans z
        cases z'
    · by_cases hb : b = a
      · exact hb
      · exact absurd (if_neg hb) z
end L2
namespace L2
open PySem PySem.Spec PyProof.Rows DD
end L2
namespace L2
open PySem PySem.Spec PyProof.Rows DD
def defArgs (s : Stmt) : Arguments := match s with
  | .FunctionDef _ a _ _ _ _ _ _ _ _ => a
  | _ => { posonlyargs := [], args := [], vararg := none, kwonlyargs := [], kw_defaults := [], kwarg := none, defaults := [] }
def defBody (s : Stmt) : List Stmt := match s with
  | .FunctionDef _ _ b _ _ _ _ _ _ _ => b
  | _ => []
def defScope (s : Stmt) : Scope := match s with
  | .FunctionDef _ _ _ _ _ _ sc _ _ _ => sc
  | _ => { kind := .function, names := [], isGenerator := false, isCoroutine := false }
abbrev CX0 : CXT := fun _ _ _ _ _ _ => False
abbrev E0 : XK := fun _ _ _ => False
theorem pass0 {X : Cx} : Passes CX0 X E0 := fun _ _ _ _ _ _ _ h => h.elim
structure Fun (K : PySem.W.Frag) (x qual : Str) (st : Stmt) (f : Addr) (fd : FuncData) : Prop where
  ex : ∃ (oc : Value) (od : Option Addr) (kV doc pm : Value) (an : Option Addr) (cdv ct : Value) (osl : Array (Option Value)),
    fd = PySem.W.fnOf x qual (defArgs st) (defBody st) (defScope st) .none kV doc pm an cdv ct ∧ K.lookup f = some ⟨oc, od, .func fd, osl⟩ ∧ PySem.W.codeIn K cdv qual = true
  kp : PySem.W.keepIn K (.ref f) = true
section
variable {P : Program} {w : World} {K : PySem.W.Frag} {mg : Str → Option Value} {base : Heap}
theorem Fun.ok {x qual : Str} {st : Stmt} {f : Addr} {fd : FuncData} {N ps : List Str} {k : Nat} {sp : Sp} (F : Fun K x qual st f fd) (S : FnScope N ps (defScope st)) (len : ∀ vs H Q E, sp vs H Q E → vs.length = ps.length)
    (hbody : ∀ (cdv : Value) (A : Around) (outer : List Env) (s : Shared) (H : Hp) (vs : List V) (Q : VK) (E : XK), Room k (A.deeper (envOfC qual (defScope st) s.heap.objs.size f cdv)) → sp vs H Q E →
      ∃ t, PSs (cxOf CX0 P w K mg base N qual (defScope st) f cdv A outer s H E).nox (defBody st) t ∧ t { nx := fun _ H' => Q .non H', rt := Q } (start N vs) H) : FnOk P w K mg base CX0 (k + 1) f fd ps sp := by
  obtain ⟨oc, od, kV, doc, pm, an, cdv, ct, osl, rfl, lk, hcd⟩ := F.ex
  refine fn_of lk hcd S len fun A outer s H vs Q E hr hsp => ?_
  obtain ⟨t, h, q⟩ := hbody cdv A outer s H vs Q E hr hsp
  exact ⟨t, h.nox, q⟩
theorem Fun.binds {x qual : Str} {st : Stmt} {f : Addr} {fd : FuncData} {ps : List Str} (F : Fun K x qual st f fd)
    (h : ∀ (kV doc pm : Value) (an : Option Addr) (cdv ct : Value) (us : List Value), us.length = ps.length → bindArgs (PySem.W.fnOf x qual (defArgs st) (defBody st) (defScope st) .none kV doc pm an cdv ct) ⟨us, []⟩ = pure (ps.zip us)) : Binds K fd ps [] := by
  obtain ⟨oc, od, kV, doc, pm, an, cdv, ct, osl, rfl, lk, hcd⟩ := F.ex
  exact .all (h kV doc pm an cdv ct)
theorem fun_mk {x qual : Str} {st : Stmt} {f : Addr} {oc : Value} {od an : Option Addr} {osl : Array (Option Value)} {kV doc pm cdv ct : Value} (l : K.lookup f = some ⟨oc, od, .func (PySem.W.fnOf x qual (defArgs st) (defBody st) (defScope st) .none kV doc pm an cdv ct), osl⟩)
    (c : PySem.W.codeIn K cdv qual = true) (k : PySem.W.keepIn K (.ref f) = true) : Fun K x qual st f (PySem.W.fnOf x qual (defArgs st) (defBody st) (defScope st) .none kV doc pm an cdv ct) := ⟨⟨oc, od, kV, doc, pm, an, cdv, ct, osl, rfl, l, c⟩, k⟩
end
theorem small1000 {n : Nat} (h : n ≤ 1000) : n < sizeLine := Nat.lt_of_le_of_lt h (by decide)
section
variable {X : Cx}
theorem pv (i : Nat) {x : Str} {pos : Pos} (hN : X.N[i]? = some x := by rfl) (hv : Vis X.env.scope x := by first | exact Or.inl rfl | exact Or.inr (Or.inl rfl) | exact Or.inr (Or.inr rfl)) (hd : (x == ("__debug__" : Str)) = false := by decide)
    (hcd : (x == ("__classdict__" : Str)) = false := by decide) : PE X (.Name x pos) (tVar i) := pe_var hN hv hd hcd
end
theorem iteF {A B : Prop} (h : B) : if false = true then A else B := by
  rw [if_neg Bool.false_ne_true]
  exact h
theorem ite2 {c A B : Prop} [Decidable c] (h1 : c → A) (h2 : ¬ c → B) : if c then A else B := by
  by_cases h : c
  · rw [if_pos h]
    exact h1 h
  · rw [if_neg h]
    exact h2 h
theorem iteNS {c A B : Prop} [Decidable c] (hc : c) (h : B) : if (!decide c) = true then A else B := by
  rw [decide_eq_true hc]
  exact iteF h
def Same (H H' : Hp) : Prop := ∀ b o, H b = some o → H' b = some o
theorem Same.refl (H : Hp) : Same H H := fun _ _ h => h
theorem Same.trans {H H1 H2 : Hp} (a : Same H H1) (b : Same H1 H2) : Same H H2 := fun c o h => b c o (a c o h)
theorem Same.free {H H' : Hp} (e : Same H H') {l : Addr} (h : H' l = Option.none) : H l = Option.none := by
  cases q : H l with
  | none => rfl
  | some o =>
    rw [e l o q] at h
    cases h
theorem Same.seq {K : PySem.W.Frag} {H H' : Hp} {a : Addr} {xs : List V} (e : Same H H') (h : SqL K H a xs) : SqL K H' a xs := by
  rcases h with (h | ⟨o, h⟩) | h
  · exact .inl (.inl (e _ _ h))
  · exact .inl (.inr ⟨o, e _ _ h⟩)
  · exact .inr h
section
variable {X : Cx}
end
section
variable {κ : Type} [DecidableEq κ]
end
end L2
namespace L2
open PySem PySem.Spec PyProof.Rows DD
section
variable {X : Cx}
end
section
variable {X : Cx}
end
end L2
namespace S
open PySem PySem.W PyProof.Rows
structure Ord (lt : Nat → Nat → Bool) : Prop where
  irr : ∀ a, lt a a = false
  trans : ∀ a b c, lt a b = true → lt b c = true → lt a c = true
  tot : ∀ a b, a ≠ b → lt a b = false → lt b a = true
section
variable {lt : Nat → Nat → Bool}
abbrev at_ (p : Array Nat) (i : Nat) : Nat := p.getD i 0
theorem at_get {p : Array Nat} {i : Nat} : at_ p i = (p[i]?).getD 0 := by
  unfold at_
  simp [Array.getD_eq_getD_getElem?]
def Up (lt : Nat → Nat → Bool) (p : Array Nat) (m : Nat) : Prop := ∀ i j, i < j → j < m → lt (at_ p i) (at_ p j) = true
def Dn (lt : Nat → Nat → Bool) (p : Array Nat) (m : Nat) : Prop := ∀ i j, i < j → j < m → lt (at_ p j) (at_ p i) = true
theorem Up.more (O : Ord lt) {p : Array Nat} {n : Nat} (h1 : 1 ≤ n) (h : Up lt p n) (h2 : lt (at_ p (n - 1)) (at_ p n) = true) : Up lt p (n + 1) := fun i j hij hj => by
  by_cases e : j = n
  · subst e
    by_cases e2 : i = j - 1
    · subst e2; exact h2
    · exact O.trans _ _ _ (h i (j - 1) (by omega) (by omega)) h2
  · exact h i j hij (by omega)
theorem Dn.more (O : Ord lt) {p : Array Nat} {n : Nat} (h1 : 1 ≤ n) (h : Dn lt p n) (h2 : lt (at_ p n) (at_ p (n - 1)) = true) : Dn lt p (n + 1) := fun i j hij hj => by
  by_cases e : j = n
  · subst e
    by_cases e2 : i = j - 1
    · subst e2; exact h2
    · exact O.trans _ _ _ h2 (h i (j - 1) (by omega) (by omega))
  · exact h i j hij (by omega)
end
end S
namespace S
open PySem PySem.W PyProof.Rows
structure OrdW (lt : Nat → Nat → Bool) : Prop where
  irr : ∀ a, lt a a = false
  asy : ∀ a b, lt a b = true → lt b a = false
  neg : ∀ a b c, lt b a = false → lt c b = false → lt c a = false
section
variable {lt : Nat → Nat → Bool}
def UpW (lt : Nat → Nat → Bool) (p : Array Nat) (m : Nat) : Prop := ∀ i j, i < j → j < m → lt (at_ p j) (at_ p i) = false
def DnW (lt : Nat → Nat → Bool) (p : Array Nat) (m : Nat) : Prop := ∀ i j, i < j → j < m → lt (at_ p i) (at_ p j) = false
def EqW (lt : Nat → Nat → Bool) (p : Array Nat) (a b : Nat) : Prop := ∀ i j, a ≤ i → i < b → a ≤ j → j < b → lt (at_ p i) (at_ p j) = false
theorem UpW.more (O : OrdW lt) {p : Array Nat} {n : Nat} (h1 : 1 ≤ n) (h : UpW lt p n) (h2 : lt (at_ p n) (at_ p (n - 1)) = false) : UpW lt p (n + 1) := fun i j hij hj => by
  by_cases e : j = n
  · subst e
    by_cases e2 : i = j - 1
    · subst e2; exact h2
    · exact O.neg _ _ _ (h i (j - 1) (by omega) (by omega)) h2
  · exact h i j hij (by omega)
theorem DnW.more (O : OrdW lt) {p : Array Nat} {n : Nat} (h1 : 1 ≤ n) (h : DnW lt p n) (h2 : lt (at_ p (n - 1)) (at_ p n) = false) : DnW lt p (n + 1) := fun i j hij hj => by
  by_cases e : j = n
  · subst e
    by_cases e2 : i = j - 1
    · subst e2; exact h2
    · exact O.neg _ _ _ h2 (h i (j - 1) (by omega) (by omega))
  · exact h i j hij (by omega)
theorem rev_in {p : Array Nat} {a n : Nat} (h : n ≤ p.size) (k : Nat) : at_ (kas_rev p a n) k = if a ≤ k ∧ k < n then at_ p (a + n - 1 - k) else at_ p k := by
  rw [at_get]
  unfold kas_rev
  rw [getElem?_mirror_all h]
  by_cases hk : a ≤ k ∧ k < n
  · rw [if_pos hk, if_pos hk, at_get]
  · rw [if_neg hk, if_neg hk, at_get]
theorem DnW.turn {p : Array Nat} {a n m : Nat} (hn : n ≤ p.size) (d : DnW lt p m) (q : EqW lt p a n) (hm : n ≤ m) : DnW lt (kas_rev p a n) m := fun i j hij hj => by
  rw [rev_in hn, rev_in hn]
  by_cases h1 : a ≤ i ∧ i < n
  · rw [if_pos h1]
    by_cases h2 : a ≤ j ∧ j < n
    · rw [if_pos h2]
      exact q _ _ (by omega) (by omega) (by omega) (by omega)
    · rw [if_neg h2]
      exact d _ _ (by omega) hj
  · rw [if_neg h1]
    by_cases h2 : a ≤ j ∧ j < n
    · rw [if_pos h2]
      exact d _ _ (by omega) (by omega)
    · rw [if_neg h2]
      exact d _ _ hij hj
end
end S
namespace S
open PySem PySem.W PyProof.Rows
def Few (n : Nat) (p : Array Nat) : Prop := 0 < n ∧ ∀ x ∈ p.toList, x < n
theorem Few.at {n : Nat} {p : Array Nat} (h : Few n p) (i : Nat) : p.getD i 0 < n := by
  by_cases hi : i < p.size
  · have e : p.getD i 0 = p.toList[i]'(by simpa using hi) := by simp [Array.getD, hi]
    rw [e]
    exact h.2 _ (List.getElem_mem _)
  · have e : p.getD i 0 = 0 := by simp [Array.getD, hi]
    rw [e]
    exact h.1
end S
namespace DD
open PySem PySem.SeqAt PySem.W PyProof.Rows
section
variable {prog : Program} {w : World} {A : Around} {E : Value → Shared → Prop} {s : Shared}
theorem one_lt {b : Bool} {d e : D} {v u : Value} {Q : Bool → Shared → Prop} (h1 : Is s.heap d v) (h2 : Is s.heap e u) (hc : cm d e = true) (u1 : A.units + dep d < cLine) (u2 : A.units + dep e < cLine) (q : Q (lt d e) s) : wpAny (model prog w) A (oneLt' b v u) Q E s := by
  have low : A.units < cLine := by omega
  cases b with
  | false =>
    rw [oneLt'_eq]
    rw [if_neg Bool.false_ne_true]
    exact wpAny_bind (rcLt h1 h2 hc u1 u2 prog w E _ (wpAny_truthy_bool q))
  | true =>
    have tup : ∀ ds es : List D, d = ofL ds → e = ofL es → wpAny (model prog w) A (oneLt' true v u) Q E s := by
      intro ds es e1 e2
      subst e1 e2
      obtain ⟨a, its, rfl, t, al⟩ := is_tup.mp h1
      obtain ⟨a', its', rfl, t', al'⟩ := is_tup.mp h2
      obtain ⟨⟨cls, dd, data, sl⟩, ho, rfl, n, rfl⟩ := id t
      obtain ⟨⟨cls2, dd2, data2, sl2⟩, ho2, rfl, n2, rfl⟩ := id t'
      rw [oneLt'_eq, if_pos rfl]
      have eu : A.in1.units = A.units + 1 := rfl
      refine wpAny_bind (wpAny_cRoomFor_or (.inr low) (wpAny_bind (wpAny_callSpecialIfBound?_slot ⟨_, ho, rfl⟩ F.slot_tuple_lt (call_meets F.slot_tuple_lt ⟨_, ho, rfl⟩ F.entry_tuple_lt (F.args_tuple_lt_2 _ _) (tuple_LtAt a a' its its' n n2 dd dd2 sl sl2 ds es)
        ⟨ho, ho2, al, al', fun x hx y hy v u q1 q2 => ?_, hc, wpAny_truthy_bool q⟩))))
      have m1 := dep_mem hx
      have m2 := dep_mem hy
      exact ⟨eqAt q1 q2 (by omega) (by omega), fun c1 _ => rcLt q1 q2 c1 (by omega) (by omega)⟩
    have go : ∀ {z : D} {v : Value}, Is s.heap z v → (∃ x y, z = .cons x y) → ∃ ds, z = ofL ds := by
      rintro z v hz ⟨x, y, rfl⟩
      obtain ⟨_, _, _, _, _, _, z1⟩ := (by simpa only [Is] using hz)
      obtain ⟨ds, rfl, _⟩ := are_iff.mp z1
      exact ⟨x :: ds, rfl⟩
    cases d with
    | non => cases e <;> cases hc
    | int i =>
      cases e with
      | int j =>
        obtain ⟨t, rfl⟩ := (show ∃ t, v = .int i t by simpa only [Is] using h1)
        obtain ⟨t', rfl⟩ := (show ∃ t, u = .int j t by simpa only [Is] using h2)
        exact oneLt_int q
      | _ => cases hc
    | str i =>
      cases e with
      | str j =>
        obtain ⟨t, rfl⟩ := (show ∃ t, v = .str i t by simpa only [Is] using h1)
        obtain ⟨t', rfl⟩ := (show ∃ t, u = .str j t by simpa only [Is] using h2)
        exact oneLt_str q
      | _ => cases hc
    | nil =>
      cases e with
      | nil => exact tup [] [] rfl rfl
      | cons x y =>
        obtain ⟨es, e2⟩ := go h2 ⟨x, y, rfl⟩
        exact tup [] es rfl e2
      | _ => cases hc
    | cons x y =>
      obtain ⟨ds, e1⟩ := go h1 ⟨x, y, rfl⟩
      cases e with
      | nil => exact tup ds [] e1 rfl
      | cons x' y' =>
        obtain ⟨es, e2⟩ := go h2 ⟨x', y', rfl⟩
        exact tup ds es e1 e2
      | _ => cases hc
end
end DD
namespace DD
open PySem PySem.SeqAt PySem.W PyProof.Rows
section
variable {prog : Program} {w : World} {A : Around} {E : Value → Shared → Prop} {s : Shared}
end
end DD
namespace DD
open PySem PySem.SeqAt PySem.W PyProof.Rows PySem.Calls
section
variable {prog : Program} {w : World} {A : Around} {E : Value → Shared → Prop} {s : Shared}
structure Row (prog : Program) (w : World) (A : Around) (I S n : Nat) (J : Nat → List Value → Heap → Prop) : Prop where
  step : ∀ (i : Nat) (vs : List Value) (s : Shared) (E : Value → Shared → Prop) (Q : Option Value → Shared → Prop), i < n → J i vs s.heap → (∀ v h', J (i + 1) (vs ++ [v]) h' → (∀ b o, b ≠ I → s.heap.get? b = some o → h'.get? b = some o) → Q (some v) { s with heap := h' }) → wpAny (model prog w) A (pyNext (.ref I)) Q E s
  last : ∀ (vs : List Value) (s : Shared) (E : Value → Shared → Prop) (Q : Option Value → Shared → Prop), J n vs s.heap → (∀ h', J (n + 1) vs h' → (∀ b o, b ≠ I → s.heap.get? b = some o → h'.get? b = some o) → Q none { s with heap := h' }) → wpAny (model prog w) A (pyNext (.ref I)) Q E s
  keep : ∀ (i : Nat) (vs : List Value) (h h' : Heap), J i vs h → (∃ o, h.get? S = some o ∧ o.cls = .type "list") → (∀ b o, b ≠ S → h.get? b = some o → h'.get? b = some o) → J i vs h'
end
end DD
namespace L2
open PySem PySem.Spec PyProof.Rows DD
section
variable {X : Cx} {pins : List (Addr × Obj)} {σ : St} {H H' : Hp} {s : Shared} {h' : Heap}
end
section
variable {P : Program} {w : World} {H : Hp} {h : Heap} {d : Addr}
end
def DItems (H : Hp) (d : Addr) (ps : List (D × D)) : Prop :=
  (∃ kvs, Rd H d (.dT kvs) ∧ All2 (fun (p : D × D) (q : D × V) => p.1 = q.1 ∧ DV H p.2 q.2) ps kvs) ∨ (∃ kvs, Rd H d (.dK kvs) ∧ All2 (fun (p : D × D) (q : Key × V) => DV H p.1 (kV q.1) ∧ DV H p.2 q.2) ps kvs)
structure Sortable (ds : List D) : Prop where
  nd : ds.Nodup
  cm : ∀ x ∈ ds, ∀ y ∈ ds, DD.cm x y = true
  dep : ∀ x ∈ ds, DD.dep x ≤ 8
  few : ds.length < 64
theorem All2.imp {α β : Type} {R T : α → β → Prop} (f : ∀ a b, R a b → T a b) : ∀ {l : List α} {r : List β}, All2 R l r → All2 T l r
  | _, _, .nil => .nil
  | _, _, .cons h t => .cons (f _ _ h) (All2.imp f t)
theorem Same.dv {H H' : Hp} (e : Same H H') {d : D} {v : V} (z : DV H d v) : DV H' d v := z.mono fun b xs q => e b _ q
section
variable {X : Cx}
end
end L2
namespace L2
open PySem PySem.Spec PyProof.Rows DD
theorem All2.of_get {α β : Type} {R : α → β → Prop} : ∀ {l : List α} {r : List β}, l.length = r.length → (∀ (i : Nat) (h1 : i < l.length) (h2 : i < r.length), R l[i] r[i]) → All2 R l r
  | [], [], _, _ => .nil
  | [], _ :: _, h, _ => by cases h
  | _ :: _, [], h, _ => by cases h
  | a :: l, b :: r, h, k => .cons (k 0 (Nat.zero_lt_succ _) (Nat.zero_lt_succ _)) (All2.of_get (Nat.succ.inj h) fun i h1 h2 => k (i + 1) (Nat.succ_lt_succ h1) (Nat.succ_lt_succ h2))
theorem Is.up {h h' : Heap} (kp : ∀ b o, h.get? b = some o → h'.get? b = some o) {d : D} {v : Value} (z : Is h d v) : Is h' d v := z.mono fun b its ⟨u, e, k⟩ => ⟨u, kp _ _ e, k⟩
section
variable {X : Cx}
end
end L2
namespace L2
open PySem PySem.Spec PyProof.Rows DD PySem.SeqAt
section
variable {X : Cx}
end
end L2
namespace L2
open PySem PySem.Spec PyProof.Rows DD
open Builtin.Int (intBits)
theorem bt_len : bootBuiltins "len" = some (.builtin "len") := by decide +kernel
theorem bt_max : bootBuiltins "max" = some (.builtin "max") := by decide +kernel
theorem bt_min : bootBuiltins "min" = some (.builtin "min") := by decide +kernel
theorem bt_isinstance : bootBuiltins "isinstance" = some (.builtin "isinstance") := by decide +kernel
theorem bt_int : bootBuiltins "int" = some (.type "int") := by decide +kernel
theorem bt_tuple : bootBuiltins "tuple" = some (.type "tuple") := by decide +kernel
theorem bt_bool : bootBuiltins "bool" = some (.type "bool") := by decide +kernel
structure Bl (mg : Str → Option Value) : Prop where
  len_ : mg "len" = none
  max_ : mg "max" = none
  min_ : mg "min" = none
  isinstance_ : mg "isinstance" = none
  int_ : mg "int" = none
  bool_ : mg "bool" = none
  range_ : mg "range" = none
  sorted_ : mg "sorted" = none
  tuple_ : mg "tuple" = none
  list_ : mg "list" = none
  str_ : mg "str" = none
  dict_ : mg "dict" = none
  abs_ : mg "abs" = none
  enumerate_ : mg "enumerate" = none
  reversed_ : mg "reversed" = none
  any_ : mg "any" = none
  all_ : mg "all" = none
  sum_ : mg "sum" = none
  zip_ : mg "zip" = none
abbrev Bits (m : Nat) (x : Int) : Prop := intBits x ≤ m
theorem bits_of {m : Nat} {x : Int} (h : x.natAbs < 2 ^ m) : Bits m x := intBits_le_iff.mpr h
theorem Bits.lt {m : Nat} {x : Int} (h : Bits m x) : x.natAbs < 2 ^ m := intBits_le_iff.mp h
theorem Bits.mono {m n : Nat} {x : Int} (h : Bits m x) (k : m ≤ n) : Bits n x := Nat.le_trans h k
theorem Bits.mul {m n : Nat} {x y : Int} (h : Bits m x) (k : Bits n y) : Bits (m + n) (x * y) := intBits_mul_le h k
theorem Bits.add {m n : Nat} {x y : Int} (h : Bits m x) (k : Bits n y) : Bits (max m n + 1) (x + y) := intBits_add_le h k
theorem Bits.sub {m n : Nat} {x y : Int} (h : Bits m x) (k : Bits n y) : Bits (max m n + 1) (x - y) := intBits_sub_le h k
theorem Bits.neg {m : Nat} {x : Int} (h : Bits m x) : Bits m (-x) := intBits_neg_le h
theorem Bits.abs {m : Nat} {x y : Int} (h : Bits m y) (k : x.natAbs ≤ y.natAbs) : Bits m x := intBits_le_of_natAbs k h
theorem mulOk {a b : Int} {m n : Nat} (ha : Bits m a) (hb : Bits n b) (h : m + n ≤ 134217728) : IntMulOk a b := by
  unfold IntMulOk
  intro q
  have q3 := (Bool.and_eq_true_iff.mp q).2
  have q4 : ((intBits a : Int) + (intBits b : Int)) > (bitsLine : Int) := of_decide_eq_true q3
  rw [bitsLine_eq] at q4
  have h1 : intBits a ≤ m := ha
  have h2 : intBits b ≤ n := hb
  omega
section
variable {X : Cx}
theorem op_mulB : OpR X (binaryOp .Mult) (rI IntMulOk fun i j => .int (i * j)) := opI fun _ _ _ _ _ _ _ hc q => mul_int q hc
theorem op_fdivB : OpR X (binaryOp .FloorDiv) (rI (fun _ j => 0 < j ∧ Bits 9000 j) fun i j => .int (i / j)) := opI fun i j _ _ _ _ _ hc q => by
  have h1 : (0 : Int) < j := hc.1
  have h2 : j.natAbs < 2 ^ 9000 := hc.2.lt
  refine floordiv_int (by omega) (by rw [Int.fdiv_eq_ediv_of_nonneg i (by omega)]; exact q) (.inl (PyProof.noPylong_of_log2 ?_))
  exact (Nat.log2_lt (by omega)).mpr h2
theorem pe_powc {a b c : Int} {j j' : Nat} {p p' pos : Pos} (h : 0 ≤ b ∧ b ≤ 1000000 ∧ a.natAbs < 2 ^ 64 ∧ a ^ b.toNat = c) :
    PE X (.BinOp (.Constant (.int a) j p) .Pow (.Constant (.int b) j' p') pos) (tC (.int c)) := fun pins s σ H Q I hq =>
  pe_op op_pow pe_int pe_int pins s σ H Q I ⟨a, b, rfl, rfl, ⟨h.1, h.2.1, h.2.2.1⟩, by show Q (V.int (a ^ b.toNat)) H; rw [h.2.2.2]; exact hq⟩
theorem call_intB : CallR X (.type "int") (fun xs H Q => ∃ k, xs = [.bl k] ∧ Q (.int (if k = true then 1 else 0)) H) := by
  intro pins s σ H xs us Q I r h
  obtain ⟨k, rfl, q⟩ := h
  exact call_int1 pins s σ H [.bl k] us Q I r (.inr ⟨k, rfl, q⟩)
theorem call_isinst : CallR X (.builtin "isinstance") (fun xs H Q => ∃ x n t b, xs = [x, .ty n] ∧ TyOf X.K H x t ∧ PySem.W.kitOne X.K t (.type n) = some b ∧ Q (.bl b) H) := by
  intro pins s σ H xs us Q I r h
  obtain ⟨x, n, t, b, rfl, ty, e, q⟩ := h
  obtain ⟨u, w', rfl, rx, ry⟩ := vals2 r
  obtain rfl : w' = Value.type n := ry
  exact isinst_ok I rx ty e fun tk => ⟨.bl b, H, I.tok _, rfl, q⟩
theorem kit_ii (K : PySem.W.Frag) : PySem.W.kitOne K (.type "int") (.type "int") = some true := by
  show (if (Value.type "int" == Value.type "int") = true then some true else _) = some true
  exact if_pos (by decide +kernel)
theorem kit_ib (K : PySem.W.Frag) : PySem.W.kitOne K (.type "int") (.type "bool") = some false := by
  show (if (Value.type "int" == Value.type "bool") = true then some true else if PySem.W.kitMeta "bool" = true then (PySem.fastBuiltinMro "int").map (·.contains (Value.type "bool")) else none) = some false
  decide +kernel
end
def Ok (P : Program) (w : World) (K : PySem.W.Frag) (mg : Str → Option Value) (base : Heap) (n : Nat) (x : Str) (ps : List Str) (sp : Sp) : Prop :=
  ∃ f fd, FnOk P w K mg base CX0 n f fd ps sp ∧ Binds K fd ps [] ∧ PySem.W.keepIn K (.ref f) = true ∧ mg x = some (.ref f)
def Has (K : PySem.W.Frag) (mg : Str → Option Value) (x : Str) (st : Stmt) (ps : List Str) : Prop :=
  ∃ f fd, Fun K x x st f fd ∧ Binds K fd ps [] ∧ mg x = some (.ref f)
section
variable {P : Program} {w : World} {K : PySem.W.Frag} {mg : Str → Option Value} {base : Heap}
theorem Has.fn {x : Str} {st : Stmt} {N ps : List Str} {k : Nat} {sp : Sp} (h : Has K mg x st ps) (S : FnScope N ps (defScope st)) (len : ∀ vs H Q E, sp vs H Q E → vs.length = ps.length)
    (hbody : ∀ (f : Addr) (cdv : Value) (A : Around) (outer : List Env) (s : Shared) (H : Hp) (vs : List V) (Q : VK) (E : XK), Room k (A.deeper (envOfC x (defScope st) s.heap.objs.size f cdv)) → sp vs H Q E →
      ∃ t, PSs (cxOf CX0 P w K mg base N x (defScope st) f cdv A outer s H E).nox (defBody st) t ∧ t { nx := fun _ H' => Q .non H', rt := Q } (start N vs) H) : Ok P w K mg base (k + 1) x ps sp := by
  obtain ⟨f, fd, F, b, m⟩ := h
  exact ⟨f, fd, F.ok S len (hbody f), b, F.kp, m⟩
theorem Ok.mono {x : Str} {ps : List Str} {sp : Sp} {j k : Nat} (F : Ok P w K mg base j x ps sp) (h : j ≤ k) : Ok P w K mg base k x ps sp := by
  obtain ⟨f, fd, F, b, kp, m⟩ := F
  exact ⟨f, fd, F.mono h, b, kp, m⟩
end
theorem pe_callN {X : Cx} {n : Nat} {x : Str} {ps : List Str} {sp : Sp} {e : Expr} {es : List Expr} {t : TA} {p pos : Pos} (F : Ok X.prog X.w X.K X.mg X.base n x ps sp) (hr : Room n X.A) (hg : Gl X x) (ha : PA X (e :: es) t)
    (hdb : (x == ("__debug__" : Str)) = false := by decide) (he : starEach (e :: es) X.env = (false, eval e X.env) :: starEach es X.env := by rfl) (hpl : (backTo pos (starEach es X.env)).any (·.1) = false := by rfl) :
    PE X (.Call (.Name x p) (e :: es) [] pos) (tCall sp [] E0 t) := by
  obtain ⟨f, fd, F, b, kp, m⟩ := F
  exact pe_call F hr hg m kp b .nil pass0 ha hdb he hpl
theorem same_new {H : Hp} {p : Addr} (h : H p = none) (o : HO) : Same H (upd H p o) := fun b u q => by rw [upd_ne (ne_of_none q h)]; exact q
theorem Same.tup {H H' : Hp} (e : Same H H') {a : Addr} {xs : List V} (h : H a = some (.tup xs)) : H' a = some (.tup xs) := e _ _ h
theorem small10 {n : Nat} (h : n ≤ 1000) : n ≤ sizeLine := Nat.le_of_lt (small1000 h)
theorem ofPys_ints : ∀ ns : List Int, PySem.W.ofPys (ns.map PyData.int) = ns.map PySem.W.WData.int
  | [] => rfl
  | n :: ns => by
    show _ :: PySem.W.ofPys (ns.map PyData.int) = _ :: ns.map PySem.W.WData.int
    rw [ofPys_ints ns]
    rfl
theorem has_ints (ns : List Int) : Shape.has (.list .int) (.list (ns.map PyData.int)) = true := by
  show ((ns.map PyData.int).all fun x => Shape.has .int x) = true
  rw [List.all_map]
  exact List.all_eq_true.mpr fun _ _ => rfl
theorem script_bits {ns : List Int} (h : PySem.W.WData.layableAll [PySem.W.WData.list (ns.map PySem.W.WData.int)] = true) : ∀ n ∈ ns, Bits 1048576 n := fun n hn => by
  have h1 := (PySem.W.layW_cons h).1
  have e : PySem.W.WData.list (ns.map PySem.W.WData.int) = PySem.W.ofPy (.list (ns.map PyData.int)) := by
    show _ = PySem.W.WData.list (PySem.W.ofPys (ns.map PyData.int))
    rw [ofPys_ints]
  rw [e] at h1
  have h2 := PySem.W.lay0_ofPy (s := .list .int) rfl (has_ints ns) h1
  exact intBits_le_of_item hn (by simpa [PyData.layableAll0] using h2)
end L2
namespace Att
open PySem PySem.W PySem.Calls PyProof.Rows
theorem attach_callB {l : OpenLaw} {n : Nat} {q : Program} {loose : List Str} {XP : (Str → Option Value) → Heap → Prop} {YP : World → Heap → Prop} {d : DefRec}
    (hn : l.most = some n) (hdf : d.params.defaults = [])
    (call : ∀ (w : World) (s₀ s₁ : Shared) (mg mb : Str → Option Value) (fa : Addr) (a : Addr) (vs : List Value) (ns : List Int),
      Ground q loose [] XP w s₀ mg mb s₁.heap → YP w s₁.heap → mg d.name = some (.ref fa) →
      s₁.heap.get? a = some { cls := .type "list", data := .seq vs.toArray } → IntsAre vs ns → ns.length ≤ n → (∀ x ∈ ns, L2.Bits 1048576 x) → s₁.gens = #[] →
      codeAny (model l.prog w) callerA (.call (.ref fa) ⟨[.ref a], []⟩) (fun r s' => r = .ok (.ret (.bool true)) ∧ OldK s₁.heap s'.heap ∧ s'.os = s₁.os ∧ AllBare s'.gens) s₁) :
    WalkO q loose XP YP l.row.toRowW d [] (fun f vs => PySem.call f vs) := by
  intro w s₀ s₁ mg mb G Y fa o pm cd doc dV kV ho hd hcd hD hmg hg args vals as hpre hlay hrd hwl hlo
  obtain rfl : dV = .none := Dflts.none hD hdf
  obtain rfl : kV = .none := Dflts.noKw hD
  obtain ⟨a, vs, ns, rfl, rfl, hobj, hints, hlen⟩ := script_of hn hpre hwl
  refine enter_call (codeAny_mono (call w s₀ s₁ mg mb fa a vs ns G Y hmg hobj hints hlen (L2.script_bits hlay) hg) fun r s' hq => ?_)
  obtain ⟨rfl, h2, h3, h4⟩ := hq
  exact ⟨.inl ⟨.bool true, .bool true, [], rfl, fun _ => rfl, .bool true, post_true l _, fun _ => ⟨List.Pairwise.nil, fun _ hm => (nomatch hm)⟩⟩, h2, h3, h4⟩
end Att
namespace L2
open PySem PySem.Spec PyProof.Rows
def spLaw (K : PySem.W.Frag) : Sp := fun vs H Q _ => ∃ (a : Addr) (ns : List Int), vs = [.ref a] ∧ SqL K H a (ns.map V.int) ∧ ns.length ≤ 63 ∧ (∀ n ∈ ns, Bits 1048576 n) ∧ ∀ H', Q (.bl true) H'
theorem walk_ofB {l : PySem.W.OpenLaw} {k : Nat} {q : Program} {loose : List Str} {XP : (Str → Option Value) → Heap → Prop} {YP : World → Heap → Prop} {d : DefRec} {K : Params → PySem.W.Frag} {x : Str}
    (hn : l.most = some 63) (hdf : d.params.defaults = []) (hr : Room k callerA) (hY : ∀ (w : World) (h : Heap), YP w h → (K w.params).In h)
    (F : ∀ (w : World) (mg : Str → Option Value) (fa : Addr) (h : Heap), (K w.params).In h → h.Ns mainGlobals mg → mg d.name = some (.ref fa) →
      ∃ fd : FuncData, (∀ (s : Shared) (u : Value), BindsTo s fd ⟨[u], []⟩ [(x, u)]) ∧
        ∀ base : Heap, (K w.params).In base → base.Ns mainGlobals mg → FnOk l.prog w (K w.params) mg base CX0 k fa fd [x] (spLaw (K w.params))) :
    PySem.W.WalkO q loose XP YP l.row.toRowW d [] (fun f vs => PySem.call f vs) := by
  refine Att.attach_callB hn hdf fun w s₀ s₁ mg mb fa a vs ns G Y hmg hobj hints hlen hbits hg => ?_
  have KX := hY w _ Y
  obtain ⟨fd, hb, hF⟩ := F w mg fa _ KX G.T.g hmg
  exact law_call KX G.T.g G.T.b G.T.builtins G.T.nolimit hg hobj hints (Nat.le_trans hlen (by decide)) hr hF hb (fun H hO hS => ⟨a, ns, rfl, hS, hlen, hbits, fun _ => rfl⟩) fun H e s' h => h.elim
end L2
namespace L2
open PySem PySem.Spec PyProof.Rows
theorem eqI {a b : Int} (c : decide (V.int a = V.int b) = true) : a = b := V.int.inj (of_decide_eq_true c)
theorem neI {a b : Int} (c : ¬ decide (V.int a = V.int b) = true) : a ≠ b := fun e => c (decide_eq_true (congrArg V.int e))
theorem iteP {c A B : Prop} [Decidable c] (h : c) (a : A) : if c then A else B := by rw [if_pos h]; exact a
theorem bits3 {a : Int} (h : a = -1 ∨ a = 0 ∨ a = 1) : Bits 64 a := by
  rcases h with rfl | rfl | rfl
  · exact bits_of (by decide +kernel)
  · exact bits_of (by decide +kernel)
  · exact bits_of (by decide +kernel)
theorem bits_lt {m : Nat} {a b : Int} (h : b ≤ 2 ^ m) (h1 : -b < a) (h2 : a < b) : Bits m a := by
  refine bits_of ?_
  have e : ((2 ^ m : Nat) : Int) = 2 ^ m := by simp
  omega
theorem item_get {ns : List Int} {k : Int} (h0 : 0 ≤ k) (hk : k.toNat < ns.length) : atI (ns.map V.int) k = some (.int ns[k.toNat]) := by
  have q : atI (ns.map V.int) ((k.toNat : Nat) : Int) = some (.int ns[k.toNat]) := atI_nat (by rw [List.getElem?_map, List.getElem?_eq_getElem hk] <;> rfl)
  have ek : ((k.toNat : Nat) : Int) = k := by omega
  rw [ek] at q
  exact q
theorem item_at {ns : List Int} {k : Int} (h0 : 0 ≤ k) (h : k < (ns.length : Int)) : ∃ v : Int, atI (ns.map V.int) k = some (.int v) := ⟨_, item_get h0 (by omega)⟩
theorem item_of {ns : List Int} {k : Int} {m : Nat} (hb : ∀ n ∈ ns, Bits m n) (h0 : 0 ≤ k) (h : k < (ns.length : Int)) : ∃ v : Int, atI (ns.map V.int) k = some (.int v) ∧ Bits m v := by
  have hk : k.toNat < ns.length := by omega
  exact ⟨_, item_get h0 hk, hb _ (List.getElem_mem hk)⟩
theorem pickL (ns : List Int) {k : Int} (h0 : 0 ≤ k) (h : k < (ns.length : Int)) : ∃ v : Int, atI (ns.map V.int) k = some (.int v) ∧ v ∈ ns := by
  have hk : k.toNat < ns.length := by omega
  exact ⟨_, item_get h0 hk, List.getElem_mem hk⟩
end L2
namespace L2
open PySem PySem.Spec PyProof.Rows DD
theorem hu16_of {A : Around} {k : Nat} (hr : Room k A) : A.units + 16 < cLine := by have := hr.units; omega
theorem hu9_of {A : Around} {k : Nat} (hr : Room k A) : A.units + 9 < cLine := by have := hr.units; omega
section
variable {X : Cx}
end
theorem kit_of (K : PySem.W.Frag) (a b : String) (r : Bool) (h : (if (Value.type a == Value.type b) = true then some true else if PySem.W.kitMeta b = true then (PySem.fastBuiltinMro a).map (·.contains (Value.type b)) else none) = some r) : PySem.W.kitOne K (.type a) (.type b) = some r := h
theorem kit_tt (K : PySem.W.Frag) : PySem.W.kitOne K (.type "tuple") (.type "tuple") = some true := kit_of K _ _ _ (by decide +kernel)
end L2
namespace Fm
open DD PySem
abbrev T := List (D × Int)
def prodD (l : List (Str × Int)) : D := ofL (l.map fun p => ofL [.str p.1, .int p.2])
def lts (a b : Str) : Prop := a.cps.toList < b.cps.toList
def IsProd (d : D) : Prop := ∃ l : List (Str × Int), d = prodD l ∧ l.Pairwise (fun a b => lts a.1 b.1) ∧ (∀ p ∈ l, 1 ≤ p.2) ∧ l.length ≤ 1000
def pairD (p : D × Int) : D := ofL [p.1, .int p.2]
theorem dep_prod : ∀ l : List (Str × Int), dep (prodD l) ≤ 2
  | [] => by decide
  | a :: l => by
    show max (dep (ofL [.str a.1, .int a.2]) + 1) (dep (prodD l)) ≤ 2
    have := dep_prod l
    have e : dep (ofL [.str a.1, .int a.2]) = 1 := rfl
    omega
theorem pure_prod : ∀ l : List (Str × Int), pure_ (prodD l) = true
  | [] => rfl
  | a :: l => by
    show (pure_ (ofL [.str a.1, .int a.2]) && pure_ (prodD l)) = true
    rw [pure_prod l]
    rfl
theorem IsProd.dep {d : D} (h : IsProd d) : DD.dep d ≤ 2 := by obtain ⟨l, rfl, _⟩ := h; exact dep_prod l
theorem IsProd.pure {d : D} (h : IsProd d) : pure_ d = true := by obtain ⟨l, rfl, _⟩ := h; exact pure_prod l
def tot (ps : T) (k : D) : Int := (ps.map fun p => if p.1 = k then p.2 else 0).sum
theorem tot_nil (k : D) : tot [] k = 0 := rfl
theorem tot_cons (p : D × Int) (ps : T) (k : D) : tot (p :: ps) k = (if p.1 = k then p.2 else 0) + tot ps k := by simp [tot]
theorem tot_append (a b : T) (k : D) : tot (a ++ b) k = tot a k + tot b k := by simp [tot, List.map_append, List.sum_append]
def setI (t : T) (k : D) (v : Int) : T := if (t.any fun p => decide (p.1 = k)) = true then t.map (fun p => if p.1 = k then (p.1, v) else p) else t ++ [(k, v)]
def Nk (t : T) : Prop := (t.map (·.1)).Nodup
theorem any_key {t : T} {k : D} : (t.any fun p => decide (p.1 = k)) = true ↔ k ∈ t.map (·.1) := by
  rw [List.any_eq_true, List.mem_map]
  constructor
  · rintro ⟨p, h1, h2⟩; exact ⟨p, h1, of_decide_eq_true h2⟩
  · rintro ⟨p, h1, h2⟩; exact ⟨p, h1, decide_eq_true h2⟩
theorem tot_no {t : T} {k : D} (h : k ∉ t.map (·.1)) : tot t k = 0 := by
  induction t with
  | nil => rfl
  | cons p t ih =>
    rw [List.map_cons, List.mem_cons, not_or] at h
    rw [tot_cons, if_neg (fun e => h.1 e.symm), ih h.2, Int.zero_add]
theorem setI_keys (t : T) (k : D) (v : Int) : (setI t k v).map (·.1) = if k ∈ t.map (·.1) then t.map (·.1) else t.map (·.1) ++ [k] := by
  unfold setI
  by_cases c : k ∈ t.map (·.1)
  · rw [if_pos (any_key.mpr c), if_pos c, List.map_map]
    refine List.map_congr_left fun p _ => ?_
    show (if p.1 = k then (p.1, v) else p).1 = p.1
    split <;> rfl
  · rw [if_neg (fun z => c (any_key.mp z)), if_neg c, List.map_append]
    rfl
theorem setI_nk {t : T} (n : Nk t) (k : D) (v : Int) : Nk (setI t k v) := by
  unfold Nk
  rw [setI_keys]
  split
  · exact n
  · rename_i c
    exact List.nodup_append.mpr ⟨n, by simp, fun a ha b hb => by rw [List.mem_singleton.mp hb]; exact fun e => c (e ▸ ha)⟩
theorem setI_len (t : T) (k : D) (v : Int) : (setI t k v).length ≤ t.length + 1 := by
  unfold setI
  split
  · rw [List.length_map]; omega
  · rw [List.length_append]; simp
theorem setI_mem {t : T} {k : D} {v : Int} {x : D} (h : x ∈ (setI t k v).map (·.1)) : x ∈ t.map (·.1) ∨ x = k := by
  rw [setI_keys] at h
  split at h
  · exact .inl h
  · rcases List.mem_append.mp h with z | z
    · exact .inl z
    · exact .inr (List.mem_singleton.mp z)
theorem tot_setI {t : T} (n : Nk t) (k : D) (v : Int) (x : D) : tot (setI t k v) x = if x = k then v else tot t x := by
  unfold setI
  by_cases c : k ∈ t.map (·.1)
  · rw [if_pos (any_key.mpr c)]
    have go : ∀ t : T, Nk t → (k ∈ t.map (·.1) → tot (t.map fun p => if p.1 = k then (p.1, v) else p) x = if x = k then v else tot t x) ∧ (k ∉ t.map (·.1) → tot (t.map fun p => if p.1 = k then (p.1, v) else p) x = tot t x) := by
      intro t
      induction t with
      | nil => intro _; exact ⟨fun z => (by cases z), fun _ => rfl⟩
      | cons p t ih =>
        intro n
        unfold Nk at n
        rw [List.map_cons, List.nodup_cons] at n
        obtain ⟨i1, i2⟩ := ih n.2
        constructor
        · intro z
          rw [List.map_cons, tot_cons, tot_cons]
          by_cases e : p.1 = k
          · have nk : k ∉ t.map (·.1) := e ▸ n.1
            rw [i2 nk, if_pos e]
            by_cases ex : x = k
            · subst ex
              rw [if_pos rfl, if_pos e, tot_no nk, Int.add_zero]
            · rw [if_neg ex]
              have : ¬ p.1 = x := fun h => ex (h.symm.trans e)
              rw [if_neg this, if_neg this]
          · have zk : k ∈ t.map (·.1) := (List.mem_cons.mp z).resolve_left fun h => e h.symm
            rw [i1 zk, if_neg e]
            by_cases ex : x = k
            · subst ex
              rw [if_pos rfl, if_pos rfl, if_neg e, Int.zero_add]
            · rw [if_neg ex, if_neg ex]
        · intro z
          rw [List.map_cons, List.mem_cons, not_or] at z
          have e : (if p.1 = k then (p.1, v) else p) = p := if_neg fun h => z.1 h.symm
          rw [List.map_cons, e, tot_cons, tot_cons, i2 z.2]
    exact (go t n).1 c
  · rw [if_neg (fun z => c (any_key.mp z)), tot_append, tot_cons, tot_nil, Int.add_zero]
    by_cases ex : x = k
    · subst ex
      rw [if_pos rfl, if_pos rfl, tot_no c, Int.zero_add]
    · rw [if_neg ex, if_neg (fun h => ex h.symm), Int.add_zero]
def IsForm (ps F : T) : Prop := F.Pairwise (fun a b => lt a.1 b.1 = true) ∧ ∀ k v, (k, v) ∈ F ↔ v ≠ 0 ∧ v = tot ps k
end Fm
namespace L2
open PySem PySem.Spec PyProof.Rows DD
def New (H H2 : Hp) (D : Addr) (o : HO) : Prop := Same H H2 ∧ H D = none ∧ H2 D = some o
theorem New.set {H H2 H3 : Hp} {D : Addr} {o u : HO} (n : New H H2 D o) (s : Same H2 H3) : New H (upd H3 D u) D u := ⟨fun b x e => by rw [upd_ne (ne_of_none e n.2.1)]; exact s b x (n.1 b x e), n.2.1, upd_same⟩
theorem New.keep {H H2 H3 : Hp} {D : Addr} {o : HO} (n : New H H2 D o) (s : Same H2 H3) : New H H3 D o := ⟨n.1.trans s, n.2.1, s _ _ n.2.2⟩
theorem dv_upd {H : Hp} {D : Addr} {o u : HO} (h : H D = some o) (nt : ∀ xs, o ≠ .tup xs) {d : DD.D} {v : V} (z : DV H d v) : DV (upd H D u) d v := z.mono fun b xs e => by
  rw [upd_ne (ne_of e h (fun q => nt xs q.symm))]
  exact e
theorem all_dv {H H' : Hp} (k : ∀ (d : DD.D) (v : V), DV H d v → DV H' d v) {ds : List DD.D} {ys : List V} (h : All2 (DV H) ds ys) : All2 (DV H') ds ys := All2.imp (fun a b z => k a b z) h
end L2
namespace Fm
open DD PySem
def tx (l : List Nat) : Str := ⟨l.toArray⟩
theorem turned {l : List Nat} {k c : Nat} (h : k < l.length) (hc : c ≠ l[k]) : (l.take k ++ [c] ++ l.drop (k + 1)).length = l.length ∧ l.take k ++ [c] ++ l.drop (k + 1) ≠ l := by
  constructor
  · simp; omega
  · intro e
    have : (l.take k ++ [c] ++ l.drop (k + 1))[k]? = l[k]? := by rw [e]
    rw [List.append_assoc, List.getElem?_append_right (by simp; omega), List.getElem?_eq_getElem h] at this
    rw [show k - (l.take k).length = 0 by simp; omega] at this
    simp at this
    exact hc this
end Fm
namespace DD
open PySem PySem.SeqAt PySem.W PyProof.Rows PySem.Calls
section
variable {prog : Program} {w : World} {A : Around} {E : Value → Shared → Prop} {s : Shared} {a : Addr} {o : Obj} {its : Array Value} {n : Nat}
end
section
variable {prog : Program} {w : World} {A : Around} {E : Value → Shared → Prop} {s : Shared} {K : Type} [DecidableEq K] {knd : KeyKind prog w K}
end
end DD
namespace L2
open PySem PySem.Spec PyProof.Rows DD
section
variable {X : Cx}
end
end L2
namespace Fm
open DD PySem L2
def pw (a : Int) : Nat → Int
  | 0 => 1
  | n + 1 => pw a n * a
theorem pw_add (a : Int) (n m : Nat) : pw a (n + m) = pw a n * pw a m := by
  induction m with
  | zero => show pw a n = pw a n * 1; rw [Int.mul_one]
  | succ m ih => show pw a (n + m) * a = pw a n * (pw a m * a); rw [ih, Int.mul_assoc]
def mon (pt : Str → Int) : List (Str × Int) → Int
  | [] => 1
  | p :: l => pw (pt p.1) p.2.toNat * mon pt l
def deg : List (Str × Int) → Int
  | [] => 0
  | p :: l => p.2 + deg l
theorem mon_app (pt : Str → Int) : ∀ l r : List (Str × Int), mon pt (l ++ r) = mon pt l * mon pt r
  | [], r => (Int.one_mul _).symm
  | p :: l, r => by
    show pw (pt p.1) p.2.toNat * mon pt (l ++ r) = pw (pt p.1) p.2.toNat * mon pt l * mon pt r
    rw [mon_app pt l r, Int.mul_assoc]
theorem deg_app : ∀ l r : List (Str × Int), deg (l ++ r) = deg l + deg r
  | [], r => (Int.zero_add _).symm
  | p :: l, r => by
    show p.2 + deg (l ++ r) = p.2 + deg l + deg r
    rw [deg_app l r, Int.add_assoc]
def getS : List (Str × Int) → Str → Int
  | [], _ => 0
  | p :: t, k => if p.1 = k then p.2 else getS t k
def addS : List (Str × Int) → Str → Int → List (Str × Int)
  | [], k, n => [(k, n)]
  | p :: t, k, n => if p.1 = k then (k, p.2 + n) :: t else p :: addS t k n
abbrev pk (p : Str × Int) : Key × V := (.inr p.1, .int p.2)
theorem addS_mon (pt : Str → Int) (k : Str) {n : Int} (hn : 0 ≤ n) : ∀ {t : List (Str × Int)}, (∀ p ∈ t, 1 ≤ p.2) → mon pt (addS t k n) = mon pt t * pw (pt k) n.toNat
  | [], _ => by show pw (pt k) n.toNat * 1 = 1 * pw (pt k) n.toNat; rw [Int.mul_one, Int.one_mul]
  | p :: t, h => by
    unfold addS
    have h1 := h p List.mem_cons_self
    split
    · rename_i e
      show pw (pt k) (p.2 + n).toNat * mon pt t = pw (pt p.1) p.2.toNat * mon pt t * pw (pt k) n.toNat
      rw [show (p.2 + n).toNat = p.2.toNat + n.toNat by omega, pw_add, e, Int.mul_assoc, Int.mul_assoc, Int.mul_comm (pw (pt k) n.toNat)]
    · show pw (pt p.1) p.2.toNat * mon pt (addS t k n) = pw (pt p.1) p.2.toNat * mon pt t * pw (pt k) n.toNat
      rw [addS_mon pt k hn fun q hq => h q (List.mem_cons_of_mem _ hq), Int.mul_assoc]
theorem addS_deg (k : Str) (n : Int) : ∀ t : List (Str × Int), deg (addS t k n) = deg t + n
  | [] => by show n + 0 = 0 + n; omega
  | p :: t => by
    unfold addS
    split
    · show p.2 + n + deg t = p.2 + deg t + n; omega
    · show p.2 + deg (addS t k n) = p.2 + deg t + n
      rw [addS_deg k n t]; omega
theorem addS_pos (k : Str) {n : Int} (hn : 1 ≤ n) : ∀ {t : List (Str × Int)}, (∀ p ∈ t, 1 ≤ p.2) → ∀ p ∈ addS t k n, 1 ≤ p.2
  | [], _, p, hp => by rw [List.mem_singleton.mp hp]; exact hn
  | q :: t, h, p, hp => by
    unfold addS at hp
    have h1 := h q List.mem_cons_self
    split at hp
    · rcases List.mem_cons.mp hp with e | hp
      · rw [e]; show 1 ≤ q.2 + n; omega
      · exact h p (List.mem_cons_of_mem _ hp)
    · rcases List.mem_cons.mp hp with e | hp
      · rw [e]; exact h1
      · exact addS_pos k hn (fun z hz => h z (List.mem_cons_of_mem _ hz)) p hp
theorem addS_names (k : Str) (n : Int) : ∀ {t : List (Str × Int)} {x : Str}, x ∈ (addS t k n).map (·.1) → x ∈ t.map (·.1) ∨ x = k
  | [], x, h => .inr (List.mem_singleton.mp h)
  | p :: t, x, h => by
    unfold addS at h
    split at h
    · rename_i e
      rw [List.map_cons] at h
      rcases List.mem_cons.mp h with e2 | h
      · exact .inr e2
      · exact .inl (by rw [List.map_cons]; exact List.mem_cons_of_mem _ h)
    · rw [List.map_cons] at h
      rcases List.mem_cons.mp h with e2 | h
      · exact .inl (by rw [e2, List.map_cons]; exact List.mem_cons_self)
      · exact (addS_names k n h).imp (fun z => by rw [List.map_cons]; exact List.mem_cons_of_mem _ z) id
theorem addS_nd (k : Str) (n : Int) : ∀ {t : List (Str × Int)}, (t.map (·.1)).Nodup → ((addS t k n).map (·.1)).Nodup
  | [], _ => by show [k].Nodup; simp
  | p :: t, h => by
    rw [List.map_cons, List.nodup_cons] at h
    unfold addS
    split
    · rename_i e
      rw [List.map_cons, List.nodup_cons]
      exact ⟨e ▸ h.1, h.2⟩
    · rename_i e
      rw [List.map_cons, List.nodup_cons]
      exact ⟨fun z => (addS_names k n z).elim h.1 e, addS_nd k n h.2⟩
theorem addS_len (k : Str) (n : Int) : ∀ t : List (Str × Int), (addS t k n).length ≤ t.length + 1
  | [] => Nat.le_refl _
  | p :: t => by
    unfold addS
    split
    · show t.length + 1 ≤ t.length + 1 + 1; omega
    · show (addS t k n).length + 1 ≤ t.length + 1 + 1
      have := addS_len k n t
      omega
def negT (ps : T) : T := ps.map fun p => (p.1, -p.2)
theorem form_key {ps F : T} (h : IsForm ps F) {p : D × Int} (hp : p ∈ F) : p.1 ∈ ps.map (·.1) := by
  have w := (h.2 p.1 p.2).mp hp
  exact Classical.byContradiction fun c => w.1 (w.2.trans (tot_no c))
def OkP (nms : List Str) (c : Int) (d : D) : Prop := ∃ l : List (Str × Int), d = prodD l ∧ l.Pairwise (fun a b => lts a.1 b.1) ∧ (∀ p ∈ l, 1 ≤ p.2 ∧ p.1 ∈ nms) ∧ deg l ≤ c
end Fm
namespace L2
open PySem PySem.Spec PyProof.Rows DD
section
variable {X : Cx}
end
end L2
namespace Fm
open DD PySem L2
theorem tot_nat (B : Nat) (k : D) : ∀ {ps : T}, (∀ p ∈ ps, p.2.natAbs ≤ B) → (tot ps k).natAbs ≤ ps.length * B
  | [], _ => by simp [tot]
  | p :: ps, h => by
    have h1 := h p List.mem_cons_self
    have h2 := tot_nat B k (ps := ps) fun q hq => h q (List.mem_cons_of_mem _ hq)
    rw [tot_cons, List.length_cons, Nat.succ_mul]
    split <;> omega
theorem form_nat {B : Nat} {ps F : T} (h : IsForm ps F) (hb : ∀ p ∈ ps, p.2.natAbs ≤ B) : ∀ p ∈ F, p.2.natAbs ≤ ps.length * B := fun p hp => by
  rw [((h.2 p.1 p.2).mp hp).2]
  exact tot_nat B p.1 hb
def OkF (nms : List Str) (c : Int) (B : Nat) (F : T) : Prop := ∀ p ∈ F, OkP nms c p.1 ∧ p.2.natAbs ≤ B
theorem OkF.form {nms : List Str} {c : Int} {B : Nat} {ps F : T} (h : OkF nms c B ps) (f : IsForm ps F) : OkF nms c (ps.length * B) F := fun p hp => ⟨by
  obtain ⟨q, hq, e⟩ := List.mem_map.mp (form_key f hp)
  rw [← e]
  exact (h q hq).1, form_nat f (fun q hq => (h q hq).2) p hp⟩
end Fm
namespace Fm
open DD PySem L2
abbrev pn (x : Str) : Key × V := (.inr x, .bl true)
def partsOf : D → List (Str × Int)
  | .cons (.cons (.str x) (.cons (.int n) _)) y => (x, n) :: partsOf y
  | _ => []
def powD (x : Str) (d : D) : Int := getS (partsOf d) x
def top (x : Str) : T → Int
  | [] => 0
  | p :: F => max (top x F) (powD x p.1)
end Fm
namespace Fm
open PySem
end Fm
namespace Fm
open DD PySem L2
end Fm
namespace L2
open PySem PySem.Spec PyProof.Rows DD
structure RowsAt (H H2 : Hp) (l : Addr) (rs : List Addr) (ts : List Fm.T) : Prop where
  same : Same H H2
  l0 : H l = none
  at_ : H2 l = some (.lst (rs.map V.ref))
  nd : rs.Nodup
  lr : l ∉ rs
  r0 : ∀ r ∈ rs, H r = none
  len : rs.length = ts.length
  row : ∀ (k : Nat) (h1 : k < rs.length) (h2 : k < ts.length), ∃ ws, H2 rs[k] = some (.lst ws) ∧ All2 (DV H2) (ts[k].map Fm.pairD) ws
theorem RowsAt.keep {H H2 H3 : Hp} {l : Addr} {rs : List Addr} {ts : List Fm.T} (R : RowsAt H H2 l rs ts) (s : Same H2 H3) : RowsAt H H3 l rs ts where
  same := R.same.trans s
  l0 := R.l0
  at_ := s _ _ R.at_
  nd := R.nd
  lr := R.lr
  r0 := R.r0
  len := R.len
  row := fun k h1 h2 => by
    obtain ⟨ws, e, al⟩ := R.row k h1 h2
    exact ⟨ws, s _ _ e, All2.imp (fun _ _ z => s.dv z) al⟩
theorem RowsAt.grow {H H2 : Hp} {l p : Addr} {rs : List Addr} {ts : List Fm.T} (R : RowsAt H H2 l rs ts) (hp : H2 p = none) : RowsAt H (upd (upd H2 p (.lst [])) l (.lst (rs.map V.ref ++ [V.ref p]))) l (rs ++ [p]) (ts ++ [[]]) := by
  have pl : p ≠ l := fun e => by rw [e, R.at_] at hp; cases hp
  have pr : p ∉ rs := fun e => by
    obtain ⟨k, h1, rfl⟩ := List.getElem_of_mem e
    obtain ⟨ws, e, _⟩ := R.row k h1 (by rw [← R.len]; exact h1)
    rw [e] at hp
    cases hp
  have p0 : H p = none := by
    cases e : H p with
    | none => rfl
    | some o => rw [R.same _ _ e] at hp; cases hp
  have sp := same_new hp (.lst [])
  have up : ∀ d v, DV H2 d v → DV (upd (upd H2 p (.lst [])) l (.lst (rs.map V.ref ++ [V.ref p]))) d v := fun d v z => dv_upd (o := .lst (rs.map V.ref)) (sp _ _ R.at_) (fun _ h => by cases h) (sp.dv z)
  refine ⟨fun b o e => ?_, R.l0, by rw [upd_same, List.map_append]; rfl, ?_, ?_, ?_, by rw [List.length_append, List.length_append, R.len]; rfl, fun k h1 h2 => ?_⟩
  · rw [upd_ne (ne_of_none e R.l0)]
    exact sp _ _ (R.same _ _ e)
  · rw [List.nodup_append]
    exact ⟨R.nd, by simp, fun x hx y hy => by rw [List.mem_singleton.mp hy]; exact fun z => pr (z ▸ hx)⟩
  · rw [List.mem_append, List.mem_singleton, not_or]
    exact ⟨R.lr, fun e => pl e.symm⟩
  · intro r hr
    rcases List.mem_append.mp hr with h | h
    · exact R.r0 r h
    · rw [List.mem_singleton.mp h]; exact p0
  · by_cases hk : k < rs.length
    · obtain ⟨ws, e, al⟩ := R.row k hk (by rw [← R.len]; exact hk)
      rw [List.getElem_append_left hk, List.getElem_append_left (by rw [← R.len]; exact hk)]
      refine ⟨ws, ?_, All2.imp up al⟩
      rw [upd_ne (show rs[k] ≠ l from fun z => R.lr (z ▸ List.getElem_mem hk))]
      exact sp _ _ e
    · rw [List.length_append] at h1
      have hk2 : k = rs.length := by
        have : k < rs.length + 1 := h1
        omega
      subst hk2
      refine ⟨[], ?_, ?_⟩
      · rw [List.getElem_concat_length rfl, upd_ne pl, upd_same]
      · rw [List.getElem_append_right (by rw [R.len]; exact Nat.le_refl _)]
        simp
        exact .nil
end L2
namespace Fm
open DD PySem L2
end Fm
namespace Fm
open DD PySem L2
def sl : List T → Nat
  | [] => 0
  | t :: ts => t.length + sl ts
open Classical in
noncomputable def putD (nm : Str) (k : Nat) (d : D) : D := if k = 0 then d else if h : ∃ l : List (Str × Int), l.Pairwise (fun a b => lts a.1 b.1) ∧ l.Perm (partsOf d ++ [(nm, (k : Int))]) then prodD (choose h) else d
end Fm
namespace L2
open PySem PySem.Spec PyProof.Rows DD
end L2
set_option maxRecDepth 100000
namespace HT
open PySem PySem.SeqAt PySem.AutoSeq1 PyProof.Rows PySem.Spec
open PySem.MeetsSeq PySem.MeetsSeq2 PySem.MeetsSeq3
section
variable {prog : Program} {w : World} {A : Around} {E : Value → Shared → Prop} {s : Shared}
end
end HT
namespace L2
open PySem PySem.Spec PyProof.Rows DD
section
variable {X : Cx}
end
end L2
namespace L2
open PySem PySem.Spec PyProof.Rows DD
theorem all2_take {α β : Type} {R : α → β → Prop} (k : Nat) {l : List α} {m : List β} (h : All2 R l m) : All2 R (l.take k) (m.take k) := by
  induction h generalizing k with
  | nil => rw [List.take_nil, List.take_nil]; exact .nil
  | cons h1 _ ih =>
    cases k with
    | zero => exact .nil
    | succ k => exact .cons h1 (ih k)
end L2
namespace L2
open PySem PySem.Spec PyProof.Rows DD
section
variable {P : Program} {w : World} {A : Around} {E : Value → Shared → Prop} {s : Shared}
end
theorem FpOk.upd {X : Cx} {pins : List (Addr × Obj)} {H : Hp} {b p : Addr} {o : HO} (f : FpOk X pins H b) (n : b ≠ p) : FpOk X pins (upd H p o) b := ⟨by rw [upd_ne n]; exact f.1, f.2⟩
end L2
namespace L2
open PySem PySem.Spec PyProof.Rows DD
end L2
namespace L2
open PySem PySem.Spec PyProof.Rows DD
end L2
namespace L2
open PySem PySem.Spec PyProof.Rows DD
section
variable {X : Cx}
end
end L2
namespace L2
open PySem PySem.Spec PyProof.Rows DD
section
variable {prog : Program} {w : World} {A : Around} {E : Value → Shared → Prop} {s : Shared}
end
end L2
namespace L2
open PySem PySem.Spec PyProof.Rows DD
end L2
namespace Rg
open PySem DD
abbrev Pr := Int × Int
def add (x y : Pr) : Pr := (x.1 + y.1, x.2 + y.2)
def mul (r : Int) (x y : Pr) : Pr := (x.1 * y.1 + x.2 * y.2 * r, x.1 * y.2 + x.2 * y.1)
def pw (r : Int) (x : Pr) : Nat → Pr
  | 0 => (1, 0)
  | n + 1 => mul r (pw r x n) x
theorem ext2 {x y : Pr} (h : x.1 = y.1) (k : x.2 = y.2) : x = y := by
  obtain ⟨a, b⟩ := x; obtain ⟨c, d⟩ := y; cases h; cases k; rfl
theorem mul_comm (r : Int) (x y : Pr) : mul r x y = mul r y x := by
  refine ext2 ?_ ?_ <;> simp only [mul, Int.mul_comm, Int.mul_left_comm, Int.add_comm]
theorem mul_assoc (r : Int) (x y z : Pr) : mul r (mul r x y) z = mul r x (mul r y z) := by
  refine ext2 ?_ ?_ <;> simp only [mul, Int.mul_add, Int.add_mul, Int.mul_assoc, Int.mul_comm, Int.mul_left_comm] <;> omega
theorem mul_one (r : Int) (x : Pr) : mul r x (1, 0) = x := by
  refine ext2 ?_ ?_ <;> simp only [mul, Int.mul_one, Int.mul_zero, Int.zero_mul, Int.add_zero, Int.zero_add]
theorem one_mul (r : Int) (x : Pr) : mul r (1, 0) x = x := by rw [mul_comm, mul_one]
theorem add_mul (r : Int) (x y z : Pr) : mul r (add x y) z = add (mul r x z) (mul r y z) := by
  refine ext2 ?_ ?_ <;> simp only [mul, add, Int.mul_add, Int.add_mul, Int.mul_assoc] <;> omega
theorem zero_mul (r : Int) (x : Pr) : mul r (0, 0) x = (0, 0) := by
  refine ext2 ?_ ?_ <;> simp only [mul, Int.zero_mul, Int.add_zero]
theorem add_zero (x : Pr) : add x (0, 0) = x := ext2 (Int.add_zero _) (Int.add_zero _)
theorem zero_add (x : Pr) : add (0, 0) x = x := ext2 (Int.zero_add _) (Int.zero_add _)
theorem add_comm (x y : Pr) : add x y = add y x := ext2 (Int.add_comm _ _) (Int.add_comm _ _)
theorem add_assoc (x y z : Pr) : add (add x y) z = add x (add y z) := ext2 (Int.add_assoc _ _ _) (Int.add_assoc _ _ _)
theorem pw_add (r : Int) (x : Pr) (n : Nat) : ∀ m : Nat, pw r x (n + m) = mul r (pw r x n) (pw r x m)
  | 0 => (mul_one r _).symm
  | m + 1 => by
    show mul r (pw r x (n + m)) x = mul r (pw r x n) (mul r (pw r x m) x)
    rw [pw_add r x n m, mul_assoc]
def scal (c : Int) (x : Pr) : Pr := (c * x.1, c * x.2)
theorem mul_int (r c : Int) (x : Pr) : mul r x (c, 0) = scal c x := by
  refine ext2 ?_ ?_ <;> simp only [mul, scal, Int.mul_zero, Int.zero_mul, Int.add_zero, Int.zero_add, Int.mul_comm]
abbrev Tb := List (D × Pr)
def getT : Tb → D → Option Pr
  | [], _ => none
  | p :: t, k => if p.1 = k then some p.2 else getT t k
def Bp (m : Nat) (x : Pr) : Prop := L2.Bits m x.1 ∧ L2.Bits m x.2
theorem Bp.mono {m n : Nat} {x : Pr} (h : Bp m x) (k : m ≤ n) : Bp n x := ⟨h.1.mono k, h.2.mono k⟩
theorem Bp.mul {m n c : Nat} {r : Int} {x y : Pr} (hx : Bp m x) (hy : Bp n y) (hr : L2.Bits c r) : Bp (m + n + c + 1) (mul r x y) :=
  ⟨((hx.1.mul hy.1).add ((hx.2.mul hy.2).mul hr)).mono (by omega), ((hx.1.mul hy.2).add (hx.2.mul hy.1)).mono (by omega)⟩
end Rg
namespace Mine
open PySem L2
open L2 DD
def PrAt (H : Hp) (a : Addr) (x : Rg.Pr) : Prop := H a = some (.tup [.int x.1, .int x.2])
def sg (n : Int) : Int := if n > 0 then 1 else if n < 0 then -1 else 0
def sos (o t a : Int) : Int := if o = 0 then t else if t = 0 ∨ o = t then o else o * a
def s1_ (u v r : Int) : Int := sos (sg u) (sg (v * r)) (sg (u * u - v * v * r))
theorem sg_cases (n : Int) : (0 < n ∧ sg n = 1) ∨ (n < 0 ∧ sg n = -1) ∨ (n = 0 ∧ sg n = 0) := by
  unfold sg
  by_cases h : n > 0
  · exact .inl ⟨h, if_pos h⟩
  · by_cases k : n < 0
    · exact .inr (.inl ⟨k, by rw [if_neg h, if_pos k]⟩)
    · exact .inr (.inr ⟨by omega, by rw [if_neg h, if_neg k]⟩)
theorem sg_bits (n : Int) : Bits 10 (sg n) := by
  rcases sg_cases n with ⟨_, e⟩ | ⟨_, e⟩ | ⟨_, e⟩ <;> rw [e] <;> exact bits_of (by decide)
structure Nb where
  p : Int
  q : Int
  r : Int
  s : Int
def NbAt (H : Hp) (a : Addr) (n : Nb) : Prop := H a = some (.tup [.int n.p, .int n.q, .int n.r, .int n.s])
structure NbOk (n : Nb) : Prop where
  bp : Bits 40 n.p
  bq : Bits 40 n.q
  br : Bits 40 n.r
  bs : Bits 40 n.s
  s0 : 0 < n.s
  r0 : 0 ≤ n.r
structure PtAt (H : Hp) (d : Addr) (kvs : List (Key × V)) (nms : List Str) (pt : Str → Nb) : Prop where
  at_ : H d = some (.dK kvs)
  rf : ∀ p ∈ kvs, ∃ c, p.2 = .ref c
  num : ∀ x ∈ nms, ∃ b, valV kvs (.inr x) = some (.ref b) ∧ NbAt H b (pt x) ∧ NbOk (pt x)
theorem PtAt.mono {H H' : Hp} {d : Addr} {kvs : List (Key × V)} {nms : List Str} {pt : Str → Nb} (h : PtAt H d kvs nms pt) (s : Same H H') : PtAt H' d kvs nms pt := ⟨s _ _ h.at_, h.rf, fun x hx => let ⟨b, h1, h2, h3⟩ := h.num x hx; ⟨b, h1, s _ _ h2, h3⟩⟩
def lead (nm : Str) : List (Str × Int) → Int
  | [] => 0
  | p :: _ => if p.1 = nm then p.2 else 0
def tail (nm : Str) : List (Str × Int) → List (Str × Int)
  | [] => []
  | p :: l => if p.1 = nm then l else p :: l
def TabV (H : Hp) (kvs : List (DD.D × V)) (t : Rg.Tb) : Prop := All2 (fun (kv : DD.D × V) (p : DD.D × Rg.Pr) => kv.1 = p.1 ∧ ∃ b, kv.2 = .ref b ∧ PrAt H b p.2) kvs t
theorem TabV.mono {H H' : Hp} {kvs : List (DD.D × V)} {t : Rg.Tb} (h : TabV H kvs t) (s : ∀ b xs, H b = some (.tup xs) → H' b = some (.tup xs)) : TabV H' kvs t := All2.imp (fun _ _ ⟨e, b, e2, h⟩ => ⟨e, b, e2, s _ _ h⟩) h
theorem TabV.get {H : Hp} (k : DD.D) {kvs : List (DD.D × V)} {t : Rg.Tb} (h : TabV H kvs t) : (Rg.getT t k = none ∧ valV kvs k = none) ∨ ∃ w b, Rg.getT t k = some w ∧ valV kvs k = some (.ref b) ∧ PrAt H b w := by
  unfold TabV at h
  induction h with
  | nil => exact .inl ⟨rfl, rfl⟩
  | @cons kv p l r h t ih =>
    obtain ⟨e, b, e2, hb⟩ := h
    by_cases c : p.1 = k
    · exact .inr ⟨p.2, b, if_pos c, by rw [valV_pos (e.trans c), e2], hb⟩
    · have g : Rg.getT (p :: r) k = Rg.getT r k := if_neg c
      rw [g, valV_neg (fun z => c (e.symm.trans z))]
      exact ih
def rr (pt : Str → Nb) : List (Str × Nat) → List (Str × Int) → Int
  | [], _ => 1
  | x :: xs, l => Fm.pw (pt x.1).s (x.2 - (lead x.1 l).toNat) * rr pt xs (tail x.1 l)
def kk (pt : Str → Nb) : List (Str × Nat) → Int
  | [] => 1
  | x :: xs => Fm.pw (pt x.1).s x.2 * kk pt xs
end Mine
namespace M
open PySem
open Builtin.Int (intBits)
def sgn (n : Int) : Int := if 0 < n then 1 else if n < 0 then -1 else 0
def ssum (one other apart : Int) : Int := if one = 0 then other else if other = 0 ∨ one = other then one else one * apart
def sOne (u v r : Int) : Int := ssum (sgn u) (sgn (v * r)) (sgn (u * u - v * v * r))
def sTwo (u v r w t : Int) : Int := ssum (sOne u v r) (sgn (w * t)) (sOne (u * u + v * v * r - w * w * t) (2 * u * v) r)
theorem sgn_pos {n : Int} (h : 0 < n) : sgn n = 1 := by unfold sgn; rw [if_pos h]
theorem sgn_neg {n : Int} (h : n < 0) : sgn n = -1 := by unfold sgn; rw [if_neg (by omega), if_pos h]
theorem sgn_zero : sgn 0 = 0 := by decide
theorem sgn_three (n : Int) : sgn n = -1 ∨ sgn n = 0 ∨ sgn n = 1 := by
  unfold sgn
  split
  · exact .inr (.inr rfl)
  · split
    · exact .inl rfl
    · exact .inr (.inl rfl)
theorem ssum_three {a b c : Int} (ha : a = -1 ∨ a = 0 ∨ a = 1) (hb : b = -1 ∨ b = 0 ∨ b = 1) (hc : c = -1 ∨ c = 0 ∨ c = 1) : ssum a b c = -1 ∨ ssum a b c = 0 ∨ ssum a b c = 1 := by
  rcases ha with rfl | rfl | rfl <;> rcases hb with rfl | rfl | rfl <;> rcases hc with rfl | rfl | rfl <;> decide
theorem sOne_three (u v r : Int) : sOne u v r = -1 ∨ sOne u v r = 0 ∨ sOne u v r = 1 := ssum_three (sgn_three _) (sgn_three _) (sgn_three _)
theorem sTwo_three (u v r w t : Int) : sTwo u v r w t = -1 ∨ sTwo u v r w t = 0 ∨ sTwo u v r w t = 1 := ssum_three (sOne_three _ _ _) (sgn_three _) (sOne_three _ _ _)
theorem two_ifs (u : Int) : (if decide (0 < u) = true then (1 : Int) else 0) - (if decide (u < 0) = true then (1 : Int) else 0) = sgn u := by
  unfold sgn
  by_cases h : 0 < u
  · have h2 : ¬ u < 0 := by omega
    simp [h, h2]
  · by_cases h2 : u < 0
    · simp [h, h2]
    · simp [h, h2]
theorem sgn_mul_pos {v r : Int} (h : 0 < r) : sgn (v * r) = sgn v := by
  rcases Int.lt_trichotomy v 0 with hv | hv | hv
  · rw [sgn_neg hv, sgn_neg (Int.mul_neg_of_neg_of_pos hv h)]
  · subst hv; rw [Int.zero_mul]
  · rw [sgn_pos hv, sgn_pos (Int.mul_pos hv h)]
theorem clamp_ok {a b : Int} (c : Int) (ha : a = -1 ∨ a = 0 ∨ a = 1) (hb : b = -1 ∨ b = 0 ∨ b = 1) (h : 0 ≤ a * b) :
    (if (if a + b < 1 then a + b else 1) > -1 then (if a + b < 1 then a + b else 1) else -1) = ssum a b c := by
  rcases ha with rfl | rfl | rfl <;> rcases hb with rfl | rfl | rfl <;> first | (exfalso; revert h; decide) | (simp [ssum])
theorem unlike_ok {a b : Int} (c : Int) (ha : a = -1 ∨ a = 0 ∨ a = 1) (hb : b = -1 ∨ b = 0 ∨ b = 1) (h : ¬ 0 ≤ a * b) : ssum a b c = a * c := by
  rcases ha with rfl | rfl | rfl <;> rcases hb with rfl | rfl | rfl <;> first | (exfalso; revert h; decide) | (simp [ssum])
theorem unlike_neg {a b : Int} (ha : a = -1 ∨ a = 0 ∨ a = 1) (hb : b = -1 ∨ b = 0 ∨ b = 1) (h : ¬ 0 ≤ a * b) : b = a * -1 := by
  rcases ha with rfl | rfl | rfl <;> rcases hb with rfl | rfl | rfl <;> first | (exfalso; revert h; decide) | decide
theorem pos_if (m : Int) (h : ¬ m < 0) : (if decide (0 < m) = true then (1 : Int) else 0) = sgn m := by
  unfold sgn
  by_cases h2 : 0 < m
  · simp [h2]
  · simp [h2, h]
theorem newton {g n : Int} (hg : 0 < g) (hn : 0 ≤ n) (h : n < g * g) : n < ((g + n / g) / 2 + 1) * ((g + n / g) / 2 + 1) ∧ (g + n / g) / 2 < g ∧ 0 ≤ (g + n / g) / 2 := by
  have e : g * (n / g) + n % g = n := Int.mul_ediv_add_emod n g
  have r0 : 0 ≤ n % g := Int.emod_nonneg n (by omega)
  have r1 : n % g < g := Int.emod_lt_of_pos n hg
  have m0 : 0 ≤ n / g := Int.ediv_nonneg hn (by omega)
  have m1 : n / g < g := Int.ediv_lt_of_lt_mul hg h
  generalize n / g = m at *
  generalize n % g = t at *
  have hq : 2 * ((g + m) / 2) ≤ g + m ∧ g + m < 2 * ((g + m) / 2) + 2 := by omega
  generalize (g + m) / 2 = q at *
  refine ⟨?_, by omega, by omega⟩
  have h1 : g + m + 1 ≤ 2 * (q + 1) := by omega
  have h2 : (g + m + 1) * (g + m + 1) ≤ (2 * (q + 1)) * (2 * (q + 1)) := Int.mul_le_mul h1 h1 (by omega) (by omega)
  have h3 : (2 * (q + 1)) * (2 * (q + 1)) = 4 * ((q + 1) * (q + 1)) := by
    rw [Int.mul_assoc, Int.mul_left_comm (q + 1) 2 (q + 1), ← Int.mul_assoc]; rfl
  have h4 : 0 ≤ (g - m - 1) * (g - m - 1) := by
    rcases Int.le_total 0 (g - m - 1) with z | z
    · exact Int.mul_nonneg z z
    · have := Int.mul_nonneg (show 0 ≤ -(g - m - 1) by omega) (show 0 ≤ -(g - m - 1) by omega)
      rwa [Int.neg_mul_neg] at this
  have h5 : (g + m + 1) * (g + m + 1) = (g - m - 1) * (g - m - 1) + 4 * (g * m) + 4 * g := by
    simp only [Int.mul_add, Int.add_mul, Int.mul_sub, Int.sub_mul, Int.mul_one, Int.one_mul, Int.mul_comm m g]
    omega
  rw [h3] at h2
  omega
theorem grow {n rest g : Int} (hr : 0 ≤ rest) (h : n < (rest + 1) * (g * g)) : n < (rest / 4 + 1) * (g * 2 * (g * 2)) := by
  have e : (rest / 4 + 1) * (g * 2 * (g * 2)) = (4 * (rest / 4 + 1)) * (g * g) := by
    rw [show g * 2 * (g * 2) = 4 * (g * g) by
      rw [Int.mul_assoc, Int.mul_left_comm 2 g 2, ← Int.mul_assoc, Int.mul_comm (g * g) (2 * 2)]; rfl]
    rw [← Int.mul_assoc, Int.mul_comm (rest / 4 + 1) 4]
  rw [e]
  have g0 : 0 ≤ g * g := by
    rcases Int.le_total 0 g with z | z
    · exact Int.mul_nonneg z z
    · have := Int.mul_nonneg (show 0 ≤ -g by omega) (show 0 ≤ -g by omega)
      rwa [Int.neg_mul_neg] at this
  have h2 : (rest + 1) * (g * g) ≤ (4 * (rest / 4 + 1)) * (g * g) := Int.mul_le_mul_of_nonneg_right (by omega) g0
  omega
end M
namespace M
open PySem
theorem sq_nonneg (x : Int) : 0 ≤ x * x := by
  rcases Int.le_total 0 x with z | z
  · exact Int.mul_nonneg z z
  · have := Int.mul_nonneg (show 0 ≤ -x by omega) (show 0 ≤ -x by omega)
    rwa [Int.neg_mul_neg] at this
theorem sq_le {x y : Int} (h0 : 0 ≤ x) (h : x ≤ y) : x * x ≤ y * y := Int.mul_le_mul h h h0 (by omega)
theorem sq_neg_le {x y : Int} (h0 : x ≤ 0) (h : -x ≤ y) : x * x ≤ y * y := by
  have := sq_le (x := -x) (y := y) (by omega) h
  rwa [Int.neg_mul_neg] at this
theorem le_sq_neg {x y : Int} (h0 : 0 ≤ y) (h : y ≤ -x) : y * y ≤ x * x := by
  have := sq_le (x := y) (y := -x) h0 h
  rwa [Int.neg_mul_neg] at this
theorem sgn_nonneg {n : Int} (h : 0 ≤ n) : 0 ≤ sgn n := by
  unfold sgn; split
  · decide
  · split
    · omega
    · decide
theorem ssum_le {a b c : Int} (ha : a = -1) (hb : b = 0 ∨ b = -1 ∨ (b = 1 ∧ c = 1)) : ssum a b c < 0 := by
  subst ha
  rcases hb with rfl | rfl | ⟨rfl, rfl⟩ <;> simp [ssum]
theorem sq_pos {x : Int} (h : x ≠ 0) : 0 < x * x := by
  rcases Int.lt_trichotomy x 0 with z | z | z
  · exact Int.mul_pos_of_neg_of_neg z z
  · exact absurd z h
  · exact Int.mul_pos z z
theorem sOne_ge {x q r : Int} (hr : 0 ≤ r) (h : (0 ≤ x ∧ (0 ≤ q ∨ q * q * r ≤ x * x)) ∨ (x < 0 ∧ 0 ≤ q ∧ x * x ≤ q * q * r)) : 0 ≤ sOne x q r := by
  rcases h with ⟨hx, h⟩ | ⟨hx, hq, h⟩
  · rcases Int.lt_or_eq_of_le hr with r0 | r0
    · rcases Int.lt_trichotomy q 0 with q0 | q0 | q0
      · have hn : q * q * r ≤ x * x := by
          rcases h with h | h
          · omega
          · exact h
        have hp : 0 < q * q * r := Int.mul_pos (sq_pos (by omega)) r0
        have x0 : 0 < x := by
          rcases Int.lt_or_eq_of_le hx with z | z
          · exact z
          · subst z; simp at hn; omega
        unfold sOne
        rw [sgn_mul_pos r0, sgn_neg q0, sgn_pos x0]
        have := sgn_nonneg (n := x * x - q * q * r) (by omega)
        show 0 ≤ ssum 1 (-1) _
        simp [ssum]; exact this
      · subst q0
        unfold sOne
        rw [Int.zero_mul, sgn_zero]
        have := sgn_nonneg hx
        unfold ssum; split
        · exact Int.le_refl 0
        · rw [if_pos (.inl rfl)]; exact this
      · unfold sOne
        rw [sgn_mul_pos r0, sgn_pos q0]
        rcases Int.lt_or_eq_of_le hx with z | z
        · rw [sgn_pos z]; simp [ssum]
        · subst z; rw [sgn_zero]; simp [ssum]
    · subst r0
      unfold sOne
      rw [Int.mul_zero, sgn_zero]
      have := sgn_nonneg hx
      unfold ssum; split
      · exact Int.le_refl 0
      · rw [if_pos (.inl rfl)]; exact this
  · have hp : 0 < q * q * r := by
      have := sq_pos (x := x) (by omega)
      omega
    have r0 : 0 < r := by
      rcases Int.lt_or_eq_of_le hr with z | z
      · exact z
      · subst z; simp at hp
    have q0 : 0 < q := by
      rcases Int.lt_or_eq_of_le hq with z | z
      · exact z
      · subst z; simp at hp
    unfold sOne
    rw [sgn_mul_pos r0, sgn_pos q0, sgn_neg hx]
    rcases Int.lt_or_eq_of_le h with z | z
    · rw [sgn_neg (by omega)]; simp [ssum]
    · rw [z, Int.sub_self, sgn_zero]; simp [ssum]
theorem sOne_lt {x q r : Int} (hr : 0 ≤ r) (h : (x < 0 ∧ (q ≤ 0 ∨ q * q * r < x * x)) ∨ (0 ≤ x ∧ q < 0 ∧ x * x < q * q * r)) : sOne x q r < 0 := by
  rcases h with ⟨hx, h⟩ | ⟨hx, hq, h⟩
  · unfold sOne
    refine ssum_le (sgn_neg hx) ?_
    rcases h with h | h
    · rcases Int.lt_or_eq_of_le hr with r0 | r0
      · rcases Int.lt_or_eq_of_le h with z | z
        · exact .inr (.inl (sgn_neg (Int.mul_neg_of_neg_of_pos z r0)))
        · subst z; rw [Int.zero_mul]; exact .inl sgn_zero
      · subst r0; rw [Int.mul_zero]; exact .inl sgn_zero
    · have e : sgn (x * x - q * q * r) = 1 := sgn_pos (by omega)
      rw [e]
      rcases sgn_three (q * r) with z | z | z
      · exact .inr (.inl z)
      · exact .inl z
      · exact .inr (.inr ⟨z, rfl⟩)
  · have hp : 0 < q * q * r := by
      have := sq_nonneg x
      omega
    have r0 : 0 < r := by
      rcases Int.lt_or_eq_of_le hr with z | z
      · exact z
      · subst z; simp at hp
    unfold sOne
    rw [sgn_mul_pos r0, sgn_neg hq, sgn_neg (n := x * x - q * q * r) (by omega)]
    rcases Int.lt_or_eq_of_le hx with z | z
    · rw [sgn_pos z]; simp [ssum]
    · subst z; rw [sgn_zero]; simp [ssum]
def IsRt (g n : Int) : Prop := 0 ≤ g ∧ g * g ≤ n ∧ n < (g + 1) * (g + 1)
def Part (q r G : Int) : Prop := ∃ g, IsRt g (q * q * r) ∧ ((0 ≤ q ∧ G = g) ∨ (q < 0 ∧ g * g = q * q * r ∧ G = -g) ∨ (q < 0 ∧ g * g ≠ q * q * r ∧ G = -g - 1))
theorem part_ge {q r G x : Int} (hr : 0 ≤ r) (hp : Part q r G) (h : -G ≤ x) : 0 ≤ sOne x q r := by
  obtain ⟨g, ⟨g0, g1, g2⟩, c⟩ := hp
  refine sOne_ge hr ?_
  rcases c with ⟨hq, rfl⟩ | ⟨hq, e, rfl⟩ | ⟨hq, e, rfl⟩
  · by_cases hx : 0 ≤ x
    · exact .inl ⟨hx, .inl hq⟩
    · have := sq_neg_le (x := x) (y := G) (by omega) (by omega)
      exact .inr ⟨by omega, hq, by omega⟩
  · have := sq_le (x := g) (y := x) g0 (by omega)
    exact .inl ⟨by omega, .inr (by omega)⟩
  · have := sq_le (x := g + 1) (y := x) (by omega) (by omega)
    exact .inl ⟨by omega, .inr (by omega)⟩
theorem part_lt {q r G x : Int} (hr : 0 ≤ r) (hp : Part q r G) (h : x < -G) : sOne x q r < 0 := by
  obtain ⟨g, ⟨g0, g1, g2⟩, c⟩ := hp
  refine sOne_lt hr ?_
  rcases c with ⟨hq, rfl⟩ | ⟨hq, e, rfl⟩ | ⟨hq, e, rfl⟩
  · have := le_sq_neg (x := x) (y := G + 1) (by omega) (by omega)
    exact .inl ⟨by omega, .inr (by omega)⟩
  · by_cases hx : 0 ≤ x
    · have := sq_le (x := x) (y := g - 1) hx (by omega)
      have e2 : (g - 1) * (g - 1) = g * g - 2 * g + 1 := by
        simp only [Int.mul_sub, Int.sub_mul, Int.mul_one, Int.one_mul]; omega
      exact .inr ⟨hx, hq, by omega⟩
    · exact .inl ⟨by omega, .inl (by omega)⟩
  · by_cases hx : 0 ≤ x
    · have := sq_le (x := x) (y := g) hx (by omega)
      exact .inr ⟨hx, hq, by omega⟩
    · exact .inl ⟨by omega, .inl (by omega)⟩
theorem floor_ok {p q r s G : Int} (hr : 0 ≤ r) (hs : 0 < s) (hp : Part q r G) :
    0 ≤ sOne (p - (p + G) / s * s) q r ∧ sOne (p - ((p + G) / s + 1) * s) q r < 0 := by
  have e : s * ((p + G) / s) + (p + G) % s = p + G := Int.mul_ediv_add_emod (p + G) s
  have r0 : 0 ≤ (p + G) % s := Int.emod_nonneg _ (by omega)
  have r1 : (p + G) % s < s := Int.emod_lt_of_pos _ hs
  rw [Int.mul_comm] at e
  generalize (p + G) / s = f at *
  refine ⟨part_ge hr hp (by omega), part_lt hr hp ?_⟩
  rw [Int.add_mul, Int.one_mul]
  omega
theorem le_sq {g : Int} (h : 0 < g) : g ≤ g * g := by
  have := Int.mul_le_mul_of_nonneg_left (show 1 ≤ g by omega) (show 0 ≤ g by omega)
  omega
theorem lt_next {g n : Int} (h : 0 < g) (h1 : n < g * g) : n < (g + 1) * (g + 1) := by
  have := sq_le (x := g) (y := g + 1) (by omega) (by omega)
  omega
theorem four_sq (g : Int) : g * 2 * (g * 2) = 4 * (g * g) := by
  rw [Int.mul_assoc, Int.mul_left_comm 2 g 2, ← Int.mul_assoc, Int.mul_comm (g * g) (2 * 2)]; rfl
theorem grow_le {g t n : Int} (g0 : 0 < g) (t0 : 0 ≤ t) (h : t * (g * g) ≤ n) : t / 4 * (g * 2 * (g * 2)) ≤ n := by
  rw [four_sq, ← Int.mul_assoc]
  have h2 : t / 4 * 4 * (g * g) ≤ t * (g * g) := Int.mul_le_mul_of_nonneg_right (by omega) (sq_nonneg g)
  omega
theorem grow_sq {g t n : Int} (g0 : 0 < g) (t0 : 0 < t) (h : t * (g * g) ≤ n) : g * 2 * (g * 2) ≤ 4 * n := by
  rw [four_sq]
  have h2 : 1 * (g * g) ≤ t * (g * g) := Int.mul_le_mul_of_nonneg_right (by omega) (sq_nonneg g)
  omega
end M
namespace M
def NN (r x y : Int) : Prop := (0 ≤ x ∧ y * y * r ≤ x * x) ∨ (0 ≤ y ∧ x * x ≤ y * y * r)
theorem abs_of_sq {a b : Int} (hb : 0 ≤ b) (h : a * a ≤ b * b) : -b ≤ a ∧ a ≤ b := by
  constructor
  · apply Int.not_lt.mp
    intro q
    have := Int.mul_le_mul (show b + 1 ≤ -a by omega) (show b + 1 ≤ -a by omega) (by omega) (by omega)
    grind
  · apply Int.not_lt.mp
    intro q
    have := Int.mul_le_mul (show b + 1 ≤ a by omega) (show b + 1 ≤ a by omega) (by omega) (by omega)
    grind
theorem nn_iff {r x y : Int} (hr : 0 ≤ r) : 0 ≤ sOne x y r ↔ NN r x y := by
  constructor
  · intro h
    by_cases q : NN r x y
    · exact q
    · exfalso
      have : sOne x y r < 0 := by
        refine sOne_lt hr ?_
        unfold NN at q
        by_cases hx : 0 ≤ x
        · right
          refine ⟨hx, ?_, ?_⟩ <;> grind
        · left
          refine ⟨by omega, ?_⟩
          by_cases hy : y ≤ 0
          · exact .inl hy
          · right
            grind
      omega
  · intro h
    refine sOne_ge hr ?_
    rcases h with ⟨h1, h2⟩ | ⟨h1, h2⟩
    · exact .inl ⟨h1, .inr h2⟩
    · by_cases hx : 0 ≤ x
      · exact .inl ⟨hx, .inl h1⟩
      · exact .inr ⟨by omega, h1, h2⟩
theorem sgn_opp (n : Int) : sgn (-n) = -sgn n := by
  unfold sgn
  split <;> split <;> omega
theorem sOne_opp (x y r : Int) : sOne (-x) (-y) r = -sOne x y r := by
  unfold sOne
  have e1 : -x * -x - -y * -y * r = x * x - y * y * r := by grind
  rw [sgn_opp, e1, show -y * r = -(y * r) by grind, sgn_opp]
  unfold ssum
  have h1 := sgn_three x
  have h2 := sgn_three (y * r)
  rcases h1 with h1 | h1 | h1 <;> rcases h2 with h2 | h2 | h2 <;> rw [h1, h2] <;> simp
theorem nn_add {r x y z w : Int} (hr : 0 ≤ r) (h1 : NN r x y) (h2 : NN r z w) : NN r (x + z) (y + w) := by
  rcases h1 with ⟨a1, a2⟩ | ⟨a1, a2⟩ <;> rcases h2 with ⟨b1, b2⟩ | ⟨b1, b2⟩
  · left
    have k := Int.mul_le_mul a2 b2 (Int.mul_nonneg (sq_nonneg w) hr) (sq_nonneg x)
    have k2 := abs_of_sq (a := y * w * r) (b := x * z) (Int.mul_nonneg a1 b1) (by grind)
    exact ⟨by omega, by grind⟩
  ·
    have tot : (y + w) * (y + w) * r ≤ (x + z) * (x + z) ∨ (x + z) * (x + z) ≤ (y + w) * (y + w) * r := by omega
    by_cases hS : 0 ≤ x + z
    · by_cases hT : 0 ≤ y + w
      · rcases tot with q | q
        · exact .inl ⟨hS, q⟩
        · exact .inr ⟨hT, q⟩
      · refine .inl ⟨hS, ?_⟩
        apply Int.not_lt.mp
        intro q
        have p1 := Int.mul_nonneg (show 0 ≤ -(y + w) by omega) b1
        have p2 := Int.mul_nonneg p1 hr
        by_cases hz : 0 ≤ z
        · have m1 := Int.mul_le_mul (show -(y + w) ≤ -y by omega) (show -(y + w) ≤ -y by omega) (by omega) (by omega)
          have m2 := Int.mul_le_mul_of_nonneg_right m1 hr
          have m3 := Int.mul_le_mul (show x ≤ x + z by omega) (show x ≤ x + z by omega) a1 hS
          grind
        · have k := Int.mul_le_mul (Int.le_of_lt q) b2 (sq_nonneg z) (Int.mul_nonneg (sq_nonneg _) hr)
          have k2 := abs_of_sq (a := (x + z) * -z) (b := -(y + w) * w * r) p2 (by grind)
          grind
    · have hT : 0 ≤ y + w := by
        apply Int.not_lt.mp
        intro q
        have m1 := Int.mul_le_mul (show w ≤ -y by omega) (show w ≤ -y by omega) b1 (by omega)
        have m2 := Int.mul_le_mul_of_nonneg_right m1 hr
        have m3 := Int.mul_le_mul (show x + 1 ≤ -z by omega) (show x + 1 ≤ -z by omega) (by omega) (by omega)
        grind
      refine .inr ⟨hT, ?_⟩
      apply Int.not_lt.mp
      intro q
      by_cases hy : 0 ≤ y
      · have m1 := Int.mul_le_mul (show w ≤ y + w by omega) (show w ≤ y + w by omega) b1 hT
        have m2 := Int.mul_le_mul_of_nonneg_right m1 hr
        have m3 := Int.mul_le_mul (show -(x + z) ≤ -z by omega) (show -(x + z) ≤ -z by omega) (by omega) (by omega)
        grind
      · have p1 := Int.mul_nonneg (show 0 ≤ -(x + z) by omega) a1
        have k := Int.mul_le_mul (Int.le_of_lt q) a2 (Int.mul_nonneg (sq_nonneg y) hr) (sq_nonneg _)
        have k2 := abs_of_sq (a := (y + w) * -y * r) (b := -(x + z) * x) p1 (by grind)
        grind
  · have tot : (y + w) * (y + w) * r ≤ (x + z) * (x + z) ∨ (x + z) * (x + z) ≤ (y + w) * (y + w) * r := by omega
    by_cases hS : 0 ≤ x + z
    · by_cases hT : 0 ≤ y + w
      · rcases tot with q | q
        · exact .inl ⟨hS, q⟩
        · exact .inr ⟨hT, q⟩
      · refine .inl ⟨hS, ?_⟩
        apply Int.not_lt.mp
        intro q
        have p1 := Int.mul_nonneg (show 0 ≤ -(y + w) by omega) a1
        have p2 := Int.mul_nonneg p1 hr
        by_cases hz : 0 ≤ x
        · have m1 := Int.mul_le_mul (show -(y + w) ≤ -w by omega) (show -(y + w) ≤ -w by omega) (by omega) (by omega)
          have m2 := Int.mul_le_mul_of_nonneg_right m1 hr
          have m3 := Int.mul_le_mul (show z ≤ x + z by omega) (show z ≤ x + z by omega) b1 hS
          grind
        · have k := Int.mul_le_mul (Int.le_of_lt q) a2 (sq_nonneg x) (Int.mul_nonneg (sq_nonneg _) hr)
          have k2 := abs_of_sq (a := (x + z) * -x) (b := -(y + w) * y * r) p2 (by grind)
          grind
    · have hT : 0 ≤ y + w := by
        apply Int.not_lt.mp
        intro q
        have m1 := Int.mul_le_mul (show y ≤ -w by omega) (show y ≤ -w by omega) a1 (by omega)
        have m2 := Int.mul_le_mul_of_nonneg_right m1 hr
        have m3 := Int.mul_le_mul (show z + 1 ≤ -x by omega) (show z + 1 ≤ -x by omega) (by omega) (by omega)
        grind
      refine .inr ⟨hT, ?_⟩
      apply Int.not_lt.mp
      intro q
      by_cases hy : 0 ≤ w
      · have m1 := Int.mul_le_mul (show y ≤ y + w by omega) (show y ≤ y + w by omega) a1 hT
        have m2 := Int.mul_le_mul_of_nonneg_right m1 hr
        have m3 := Int.mul_le_mul (show -(x + z) ≤ -x by omega) (show -(x + z) ≤ -x by omega) (by omega) (by omega)
        grind
      · have p1 := Int.mul_nonneg (show 0 ≤ -(x + z) by omega) b1
        have k := Int.mul_le_mul (Int.le_of_lt q) b2 (Int.mul_nonneg (sq_nonneg w) hr) (sq_nonneg _)
        have k2 := abs_of_sq (a := (y + w) * -w * r) (b := -(x + z) * z) p1 (by grind)
        grind
  · right
    have k := Int.mul_le_mul a2 b2 (sq_nonneg z) (Int.mul_nonneg (sq_nonneg y) hr)
    have k2 := abs_of_sq (a := x * z) (b := y * w * r) (Int.mul_nonneg (Int.mul_nonneg a1 b1) hr) (by grind)
    exact ⟨by omega, by grind⟩
theorem nn_mul {r x y z w : Int} (hr : 0 ≤ r) (h1 : NN r x y) (h2 : NN r z w) : NN r (x * z + y * w * r) (x * w + y * z) := by
  have norm : (x * z + y * w * r) * (x * z + y * w * r) - (x * w + y * z) * (x * w + y * z) * r = (x * x - y * y * r) * (z * z - w * w * r) := by grind
  rcases h1 with ⟨a1, a2⟩ | ⟨a1, a2⟩ <;> rcases h2 with ⟨b1, b2⟩ | ⟨b1, b2⟩
  · left
    have k := Int.mul_le_mul a2 b2 (Int.mul_nonneg (sq_nonneg w) hr) (sq_nonneg x)
    have k2 := abs_of_sq (a := y * w * r) (b := x * z) (Int.mul_nonneg a1 b1) (by grind)
    have k3 := Int.mul_nonneg (show 0 ≤ x * x - y * y * r by omega) (show 0 ≤ z * z - w * w * r by omega)
    exact ⟨by omega, by omega⟩
  · right
    have k3 := Int.mul_nonneg (show 0 ≤ x * x - y * y * r by omega) (show 0 ≤ w * w * r - z * z by omega)
    have k4 : (x * x - y * y * r) * (z * z - w * w * r) = -((x * x - y * y * r) * (w * w * r - z * z)) := by grind
    refine ⟨?_, by omega⟩
    by_cases h0 : r = 0
    · subst h0
      have z0 := abs_of_sq (a := z) (b := 0) (by omega) (by omega)
      have : z = 0 := by omega
      subst this
      have := Int.mul_nonneg a1 b1
      omega
    · have k := Int.mul_le_mul a2 b2 (sq_nonneg z) (sq_nonneg x)
      have e : (x * w * (x * w) - y * z * (y * z)) * r = x * x * (w * w * r) - y * y * r * (z * z) := by grind
      have : 0 ≤ x * w * (x * w) - y * z * (y * z) := by
        apply Int.not_lt.mp
        intro q
        have := Int.mul_neg_of_neg_of_pos q (show 0 < r by omega)
        omega
      have k2 := abs_of_sq (a := y * z) (b := x * w) (Int.mul_nonneg a1 b1) (by omega)
      omega
  · right
    have k3 := Int.mul_nonneg (show 0 ≤ y * y * r - x * x by omega) (show 0 ≤ z * z - w * w * r by omega)
    have k4 : (x * x - y * y * r) * (z * z - w * w * r) = -((y * y * r - x * x) * (z * z - w * w * r)) := by grind
    refine ⟨?_, by omega⟩
    by_cases h0 : r = 0
    · subst h0
      have z0 := abs_of_sq (a := x) (b := 0) (by omega) (by omega)
      have : x = 0 := by omega
      subst this
      have := Int.mul_nonneg a1 b1
      omega
    · have k := Int.mul_le_mul a2 b2 (Int.mul_nonneg (sq_nonneg w) hr) (Int.mul_nonneg (sq_nonneg y) hr)
      have e : (y * z * (y * z) - x * w * (x * w)) * r = y * y * r * (z * z) - x * x * (w * w * r) := by grind
      have : 0 ≤ y * z * (y * z) - x * w * (x * w) := by
        apply Int.not_lt.mp
        intro q
        have := Int.mul_neg_of_neg_of_pos q (show 0 < r by omega)
        omega
      have k2 := abs_of_sq (a := x * w) (b := y * z) (Int.mul_nonneg a1 b1) (by omega)
      omega
  · left
    have k := Int.mul_le_mul a2 b2 (sq_nonneg z) (Int.mul_nonneg (sq_nonneg y) hr)
    have k2 := abs_of_sq (a := x * z) (b := y * w * r) (Int.mul_nonneg (Int.mul_nonneg a1 b1) hr) (by grind)
    have k3 := Int.mul_nonneg (show 0 ≤ y * y * r - x * x by omega) (show 0 ≤ w * w * r - z * z by omega)
    have k4 : (x * x - y * y * r) * (z * z - w * w * r) = (y * y * r - x * x) * (w * w * r - z * z) := by grind
    exact ⟨by omega, by omega⟩
theorem one_lt {r x y : Int} (hr : 0 ≤ r) : sOne x y r < 0 ↔ ¬ NN r x y := by
  rw [← nn_iff hr]
  omega
theorem one_gt {r x y : Int} (hr : 0 ≤ r) : 0 < sOne x y r ↔ ¬ NN r (-x) (-y) := by
  rw [← nn_iff hr, sOne_opp]
  omega
theorem nn_flat {r k : Int} (hk : 0 ≤ k) : NN r k 0 := .inl ⟨hk, by have := sq_nonneg k; omega⟩
theorem nn_flat' {r k : Int} (h : NN r k 0) : 0 ≤ k := by
  rcases h with ⟨h, _⟩ | ⟨_, h⟩
  · exact h
  · have := abs_of_sq (a := k) (b := 0) (by omega) (by omega)
    omega
theorem nn_up {r x y k : Int} (hr : 0 ≤ r) (h : NN r x y) (hk : 0 ≤ k) : NN r (x + k) y := by
  have := nn_add hr h (nn_flat hk)
  rwa [Int.add_zero] at this
theorem nn_sub {r x y z w : Int} (hr : 0 ≤ r) (h : ¬ NN r x y) (h2 : NN r z w) : ¬ NN r (x - z) (y - w) := fun q => h (by
  have := nn_add hr q h2
  rwa [show x - z + z = x by omega, show y - w + w = y by omega] at this)
theorem nn_scale {r x y k : Int} (h : NN r x y) (hk : 0 ≤ k) : NN r (k * x) (k * y) := by
  have kk := sq_nonneg k
  rcases h with ⟨a, b⟩ | ⟨a, b⟩
  · left
    have := Int.mul_le_mul_of_nonneg_left b kk
    exact ⟨Int.mul_nonneg hk a, by grind⟩
  · right
    have := Int.mul_le_mul_of_nonneg_left b kk
    exact ⟨Int.mul_nonneg hk a, by grind⟩
theorem nn_tot {r x y : Int} (hr : 0 ≤ r) : NN r x y ∨ NN r (-x) (-y) := by
  rw [← nn_iff hr, ← nn_iff hr, sOne_opp]
  omega
theorem ssum_ge {a b c : Int} (ha : a = -1 ∨ a = 0 ∨ a = 1) (hb : b = -1 ∨ b = 0 ∨ b = 1) (hc : c = -1 ∨ c = 0 ∨ c = 1) (h : (0 ≤ a ∧ 0 ≤ b) ∨ (a < 0 ∧ 0 < b ∧ c ≤ 0) ∨ (0 < a ∧ b < 0 ∧ 0 ≤ c)) : 0 ≤ ssum a b c := by
  unfold ssum
  rcases ha with ha | ha | ha <;> rcases hb with hb | hb | hb <;> rcases hc with hc | hc | hc <;> subst ha <;> subst hb <;> subst hc <;> simp at h ⊢
theorem ssum_lt {a b c : Int} (ha : a = -1 ∨ a = 0 ∨ a = 1) (hb : b = -1 ∨ b = 0 ∨ b = 1) (hc : c = -1 ∨ c = 0 ∨ c = 1) (h : (a < 0 ∧ b ≤ 0) ∨ (a ≤ 0 ∧ b < 0) ∨ (a < 0 ∧ 0 < b ∧ 0 < c) ∨ (0 < a ∧ b < 0 ∧ c < 0)) : ssum a b c < 0 := by
  unfold ssum
  rcases ha with ha | ha | ha <;> rcases hb with hb | hb | hb <;> rcases hc with hc | hc | hc <;> subst ha <;> subst hb <;> subst hc <;> simp at h ⊢
theorem ssum_lt' {a b c : Int} (ha : a = -1 ∨ a = 0 ∨ a = 1) (hb : b = -1 ∨ b = 0 ∨ b = 1) (hc : c = -1 ∨ c = 0 ∨ c = 1) (h : ssum a b c < 0) : (a < 0 ∧ b ≤ 0) ∨ (a < 0 ∧ 0 < b ∧ 0 < c) ∨ (a = 0 ∧ b < 0) ∨ (0 < a ∧ b < 0 ∧ (a = b ∨ c < 0)) := by
  unfold ssum at h
  rcases ha with ha | ha | ha <;> rcases hb with hb | hb | hb <;> rcases hc with hc | hc | hc <;> subst ha <;> subst hb <;> subst hc <;> simp at h ⊢
theorem sgn_gt {n : Int} : 0 < sgn n ↔ 0 < n := by
  unfold sgn
  split <;> (try split) <;> omega
theorem sgn_lt {n : Int} : sgn n < 0 ↔ n < 0 := by
  unfold sgn
  split <;> (try split) <;> omega
theorem two_nn {r t A V C W : Int} (hr : 0 ≤ r) (ht : 0 ≤ t) (h1 : NN r A V) (h2 : NN t C W) : 0 ≤ sTwo (A + C) V r W t := by
  unfold sTwo
  refine ssum_ge (sOne_three ..) (sgn_three _) (sOne_three ..) ?_
  by_cases b : 0 < W * t
  · have w0 : 0 ≤ W := by
      apply Int.not_lt.mp
      intro q
      have := Int.mul_nonneg (show 0 ≤ -W by omega) ht
      grind
    by_cases a : 0 ≤ sOne (A + C) V r
    · exact .inl ⟨a, Int.le_of_lt (sgn_gt.mpr b)⟩
    · refine .inr (.inl ⟨by omega, sgn_gt.mpr b, ?_⟩)
      have a' : ¬ NN r (A + C) V := fun q => a ((nn_iff hr).mpr q)
      have n1 : NN r (-(A + C)) (-V) := (nn_tot hr).resolve_left a'
      have c0 : C < 0 := by
        apply Int.not_le.mp
        intro q
        exact a' (nn_up hr h1 q)
      have c2 : C * C ≤ W * W * t := by
        rcases h2 with ⟨q, _⟩ | ⟨_, q⟩
        · omega
        · exact q
      have n2 := nn_mul hr h1 (nn_up hr n1 (show 0 ≤ -C by omega))
      have n3 := nn_up hr n2 (show 0 ≤ W * W * t - C * C by omega)
      have := (nn_iff hr).mpr n3
      rw [show A * (-(A + C) + -C) + V * -V * r + (W * W * t - C * C) = -((A + C) * (A + C) + V * V * r - W * W * t) by grind, show A * -V + V * (-(A + C) + -C) = -(2 * (A + C) * V) by grind, sOne_opp] at this
      omega
  · by_cases b2 : W * t < 0
    · refine .inr (.inr ⟨?_, sgn_lt.mpr b2, ?_⟩)
      all_goals
        have w0 : W < 0 := by
          apply Int.not_le.mp
          intro q
          have := Int.mul_nonneg q ht
          omega
        have t0 : 0 < t := by
          rcases Int.lt_or_eq_of_le ht with q | q
          · exact q
          · rw [← q] at b2
            omega
        have cc : 0 ≤ C ∧ W * W * t ≤ C * C := by
          rcases h2 with q | ⟨q, _⟩
          · exact q
          · omega
        have wp : 0 < W * W * t := Int.mul_pos (Int.mul_pos_of_neg_of_neg w0 w0) t0
      · rw [one_gt hr]
        intro q
        have := nn_add hr q h1
        rw [show -(A + C) + A = -C by omega, show -V + V = 0 by omega] at this
        have := nn_flat' this
        have : C = 0 := by omega
        subst this
        omega
      · have n1 := nn_up hr h1 cc.1
        have n2 := nn_mul hr h1 (nn_up hr n1 cc.1)
        have n3 := nn_up hr n2 (show 0 ≤ C * C - W * W * t by omega)
        have := (nn_iff hr).mpr n3
        rwa [show A * (A + C + C) + V * V * r + (C * C - W * W * t) = (A + C) * (A + C) + V * V * r - W * W * t by grind, show A * V + V * (A + C + C) = 2 * (A + C) * V by grind] at this
    · have b0 : W * t = 0 := by omega
      refine .inl ⟨?_, by rw [b0]; decide⟩
      have c0 : 0 ≤ C := by
        rcases h2 with ⟨q, _⟩ | ⟨_, q⟩
        · exact q
        · have e : W * W * t = 0 := by rw [Int.mul_assoc, b0, Int.mul_zero]
          have := abs_of_sq (a := C) (b := 0) (by omega) (by omega)
          omega
      exact (nn_iff hr).mpr (nn_up hr h1 c0)
theorem one_far {r x y c X n : Int} (_hr : 0 ≤ r) (h : ¬ NN r x y) (hc : 0 ≤ c) (hX : -X ≤ x ∧ x ≤ X) (hn : c * (2 * X + 1) + 1 ≤ n) : ¬ NN r (n * x + c) (n * y) := by
  have X0 : 0 ≤ X := by omega
  have cX := Int.mul_nonneg hc X0
  have n1 : c + 1 ≤ n := by grind
  have n2 : 2 * (c * X) + c + 1 ≤ n := by grind
  intro q
  apply h
  have nx : n * (n * (x * x)) = n * x * (n * x) := by grind
  rcases q with ⟨a, b⟩ | ⟨a, b⟩
  ·
    have x0 : 0 ≤ x := by
      apply Int.not_lt.mp
      intro q
      have := Int.mul_le_mul_of_nonneg_left (show x ≤ -1 by omega) (show 0 ≤ n by omega)
      omega
    left
    refine ⟨x0, ?_⟩
    apply Int.not_lt.mp
    intro q
    have m1 := Int.mul_le_mul_of_nonneg_left (show x * x + 1 ≤ y * y * r by omega) (Int.mul_nonneg (show 0 ≤ n by omega) (show 0 ≤ n by omega))
    have m2 := Int.mul_le_mul_of_nonneg_left (show x ≤ X from hX.2) hc
    have m3 := Int.mul_le_mul_of_nonneg_left n2 (show 0 ≤ n by omega)
    have m4 := Int.mul_le_mul_of_nonneg_left m2 (show 0 ≤ n by omega)
    have m5 := Int.mul_le_mul_of_nonneg_right n1 hc
    grind
  · have y0 : 0 ≤ y := by
      apply Int.not_lt.mp
      intro q
      have := Int.mul_le_mul_of_nonneg_left (show y ≤ -1 by omega) (show 0 ≤ n by omega)
      omega
    by_cases x0 : 0 ≤ x
    · by_cases tt : y * y * r ≤ x * x
      · exact .inl ⟨x0, tt⟩
      · exact .inr ⟨y0, by omega⟩
    · right
      refine ⟨y0, ?_⟩
      apply Int.not_lt.mp
      intro q
      have m1 := Int.mul_le_mul_of_nonneg_left (show y * y * r + 1 ≤ x * x by omega) (Int.mul_nonneg (show 0 ≤ n by omega) (show 0 ≤ n by omega))
      have m2 := Int.mul_le_mul_of_nonneg_left (show -x ≤ X by omega) hc
      have m3 := Int.mul_le_mul_of_nonneg_left n2 (show 0 ≤ n by omega)
      have m4 := Int.mul_le_mul_of_nonneg_left m2 (show 0 ≤ n by omega)
      have m5 := sq_nonneg c
      have m6 := Int.mul_nonneg (show 0 ≤ n by omega) hc
      grind
theorem sgn_scale {n x : Int} (hn : 0 < n) : sgn (n * x) = sgn x := by
  rw [Int.mul_comm]
  exact sgn_mul_pos hn
theorem two_far {r t u v w c X Y n : Int} (hr : 0 ≤ r) (ht : 0 ≤ t) (h : sTwo u v r w t < 0) (hc : 0 ≤ c) (hX : -X ≤ u ∧ u ≤ X) (hX1 : NN r (X - u) (-v)) (hX2 : NN r (X + u) v)
    (hY : -Y ≤ u * u + v * v * r - w * w * t ∧ u * u + v * v * r - w * w * t ≤ Y) (hn : (2 * (c * X) + c) * (2 * Y + 1) + 1 ≤ n) : sTwo (n * u + c) (n * v) r (n * w) t < 0 := by
  have X0 : 0 ≤ X := by omega
  have Y0 : 0 ≤ Y := by omega
  have cX := Int.mul_nonneg hc X0
  have cXY := Int.mul_nonneg (show 0 ≤ 2 * (c * X) + c by omega) Y0
  have n1 : c * (2 * X + 1) + 1 ≤ n := by grind
  have np : 1 ≤ n := by
    have := Int.mul_nonneg hc (show 0 ≤ 2 * X + 1 by omega)
    omega
  have nc : c + 1 ≤ n := by grind
  have n2 : (2 * (n * c * X) + c * c) * (2 * Y + 1) + 1 ≤ n * n := by
    have m1 := Int.mul_le_mul_of_nonneg_left hn (show 0 ≤ n by omega)
    have m2 := Int.mul_le_mul_of_nonneg_right (show c ≤ n by omega) hc
    have m3 := Int.mul_le_mul_of_nonneg_right m2 (show 0 ≤ 2 * Y + 1 by omega)
    grind
  have hs := ssum_lt' (sOne_three u v r) (sgn_three (w * t)) (sOne_three _ _ r) h
  have kc : 0 ≤ 2 * (n * c * X) + c * c := by
    have := Int.mul_nonneg (Int.mul_nonneg (show 0 ≤ n by omega) hc) X0
    have := sq_nonneg c
    omega
  have ncp : 0 ≤ 2 * (n * c) := by
    have := Int.mul_nonneg (show 0 ≤ n by omega) hc
    omega
  have e0 : sgn (n * w * t) = sgn (w * t) := by rw [Int.mul_assoc]; exact sgn_scale (by omega)
  have eU : (n * u + c) * (n * u + c) + n * v * (n * v) * r - n * w * (n * w) * t = n * n * (u * u + v * v * r - w * w * t) + 2 * (n * c) * u + c * c := by grind
  have eV : 2 * (n * u + c) * (n * v) = n * n * (2 * u * v) + 2 * (n * c) * v := by grind
  unfold sTwo
  refine ssum_lt (sOne_three ..) (sgn_three _) (sOne_three ..) ?_
  rw [e0, eU, eV]
  have far : sOne u v r < 0 → sOne (n * u + c) (n * v) r < 0 := fun q => (one_lt hr).mpr (one_far hr ((one_lt hr).mp q) hc hX n1)
  have low : ¬ NN r (u * u + v * v * r - w * w * t) (2 * u * v) → sOne (n * n * (u * u + v * v * r - w * w * t) + 2 * (n * c) * u + c * c) (n * n * (2 * u * v) + 2 * (n * c) * v) r < 0 := fun q => by
    rw [one_lt hr]
    have k1 := one_far (n := n * n) hr q kc hY n2
    have k2 := nn_sub hr k1 (nn_scale hX1 ncp)
    rwa [show n * n * (u * u + v * v * r - w * w * t) + (2 * (n * c * X) + c * c) - 2 * (n * c) * (X - u) = n * n * (u * u + v * v * r - w * w * t) + 2 * (n * c) * u + c * c by grind,
      show n * n * (2 * u * v) - 2 * (n * c) * -v = n * n * (2 * u * v) + 2 * (n * c) * v by grind] at k2
  rcases hs with ⟨a, b⟩ | ⟨a, b, d⟩ | ⟨a, b⟩ | ⟨a, b, d⟩
  · exact .inl ⟨far a, b⟩
  · refine .inr (.inr (.inl ⟨far a, b, ?_⟩))
    rw [one_gt hr] at d ⊢
    have k1 := one_far (n := n * n) (X := Y) hr d kc (by omega) n2
    have k2 := nn_sub hr k1 (nn_up hr (nn_scale hX2 ncp) (show 0 ≤ 2 * (c * c) by have := sq_nonneg c; omega))
    rwa [show n * n * -(u * u + v * v * r - w * w * t) + (2 * (n * c * X) + c * c) - (2 * (n * c) * (X + u) + 2 * (c * c)) = -(n * n * (u * u + v * v * r - w * w * t) + 2 * (n * c) * u + c * c) by grind,
      show n * n * -(2 * u * v) - 2 * (n * c) * v = -(n * n * (2 * u * v) + 2 * (n * c) * v) by grind] at k2
  · by_cases z : sOne (n * u + c) (n * v) r ≤ 0
    · exact .inr (.inl ⟨z, b⟩)
    · refine .inr (.inr (.inr ⟨by omega, b, low ?_⟩))
      have p1 : NN r u v := (nn_iff hr).mp (by omega)
      have p2 : NN r (-u) (-v) := by
        rw [← nn_iff hr, sOne_opp]
        omega
      have p3 := nn_mul hr p1 p2
      have wt : 0 < w * w * t := by
        have wt0 := sgn_lt.mp b
        have t0 : t ≠ 0 := fun q => by rw [q] at wt0; omega
        have w0 : w ≠ 0 := fun q => by rw [q] at wt0; omega
        have k := sq_pos w0
        rcases Int.lt_or_gt_of_ne t0 with q | q
        · omega
        · exact Int.mul_pos k q
      intro p4
      have p5 := nn_add hr p3 p4
      rw [show u * -u + v * -v * r + (u * u + v * v * r - w * w * t) = -(w * w * t) by grind, show u * -v + v * -u + 2 * u * v = 0 by grind] at p5
      have := nn_flat' p5
      omega
  · refine .inr (.inr (.inr ?_))
    have d' : sOne (u * u + v * v * r - w * w * t) (2 * u * v) r < 0 := by
      rcases d with d | d
      · omega
      · exact d
    by_cases z : 0 < sOne (n * u + c) (n * v) r
    · exact ⟨z, b, low ((one_lt hr).mp d')⟩
    · exfalso
      apply z
      rw [one_gt hr] at a ⊢
      intro q
      apply a
      have k := nn_up hr q hc
      rw [show -(n * u + c) + c = n * -u by grind, show -(n * v) = n * -v by grind] at k
      rw [← nn_iff hr] at k ⊢
      apply Int.not_lt.mp
      intro k2
      have k3 := one_far (n := n) (c := 0) hr ((one_lt hr).mp k2) (by omega) (X := X) (by omega) (by omega)
      rw [Int.add_zero, ← one_lt hr] at k3
      omega
theorem two_flat {u d w t : Int} : sTwo u (0 * d) 0 w t = sOne u w t := by
  unfold sTwo
  have e1 : sOne u (0 * d) 0 = sgn u := by
    unfold sOne ssum
    rcases sgn_three u with h | h | h <;> simp [h, sgn_zero]
  have e2 : sOne (u * u + 0 * d * (0 * d) * 0 - w * w * t) (2 * u * (0 * d)) 0 = sgn (u * u - w * w * t) := by
    rw [show u * u + 0 * d * (0 * d) * 0 - w * w * t = u * u - w * w * t by grind, show 2 * u * (0 * d) = 0 by grind]
    unfold sOne ssum
    rcases sgn_three (u * u - w * w * t) with h | h | h <;> simp [h, sgn_zero]
  rw [e1, e2]
  rfl
theorem two_flat' {u v r w t : Int} (h : w * t = 0) : sTwo u v r w t = sOne u v r := by
  unfold sTwo
  rw [h, sgn_zero]
  unfold ssum
  rcases sOne_three u v r with h | h | h <;> simp [h]
theorem le_mul_self {z : Int} (h : 1 ≤ z) : z ≤ z * z := le_sq (by omega)
theorem fits_far {p q r s a b t d n f Z : Int} (hr : 0 ≤ r) (ht : 0 ≤ t) (hs : 0 < s) (hd : 0 < d) (h : sTwo (p * d - a * s) (q * d) r (-b * s) t < 0) (hf : 0 ≤ sOne (p * n - f * s) (q * n) r) (hZ : 1 ≤ Z)
    (b1 : -Z ≤ p * d - a * s ∧ p * d - a * s ≤ Z) (b2 : -Z ≤ q * d ∧ q * d ≤ Z) (b3 : -Z ≤ b * s ∧ b * s ≤ Z) (b4 : r ≤ Z) (b5 : t ≤ Z) (b6 : s * d ≤ Z) (hn : 36 * (Z * Z * Z * (Z * Z * Z)) ≤ n) : sTwo ((f + 1) * d - a * n) (0 * d) 0 (-b * n) t < 0 := by
  generalize hu : p * d - a * s = u at *
  generalize hv : q * d = v at *
  have hw : -b * s = -(b * s) := by grind
  rw [hw] at h
  generalize hw2 : b * s = w at *
  have Z0 : 0 ≤ Z := by omega
  have z2 := le_mul_self hZ
  have z20 := Int.mul_nonneg Z0 Z0
  have z3 := Int.mul_le_mul_of_nonneg_right z2 Z0
  have z30 := Int.mul_nonneg z20 Z0
  have vv : v * v ≤ Z * Z := by
    by_cases q : 0 ≤ v
    · exact sq_le q b2.2
    · exact sq_neg_le (by omega) (by omega)
  have uu : u * u ≤ Z * Z := by
    by_cases q : 0 ≤ u
    · exact sq_le q b1.2
    · exact sq_neg_le (by omega) (by omega)
  have ww : w * w ≤ Z * Z := by
    by_cases q : 0 ≤ w
    · exact sq_le q b3.2
    · exact sq_neg_le (by omega) (by omega)
  have vr := Int.mul_le_mul vv b4 hr z20
  have wt := Int.mul_le_mul ww b5 ht z20
  have vr0 := Int.mul_nonneg (sq_nonneg v) hr
  have wt0 := Int.mul_nonneg (sq_nonneg w) ht
  have uu0 := sq_nonneg u
  have vz : v * v * r ≤ Z * Z * (Z * Z) := by
    have := Int.mul_le_mul_of_nonneg_left z2 z20
    omega
  have nX1 : NN r (Z + Z * Z - u) (-v) := by
    left
    refine ⟨by omega, ?_⟩
    have := sq_le (x := Z * Z) (y := Z + Z * Z - u) z20 (by omega)
    have e : -v * -v * r = v * v * r := by grind
    omega
  have nX2 : NN r (Z + Z * Z + u) v := by
    left
    refine ⟨by omega, ?_⟩
    have := sq_le (x := Z * Z) (y := Z + Z * Z + u) z20 (by omega)
    omega
  have c0 : 0 ≤ s * d := Int.mul_nonneg (by omega) (by omega)
  have far := two_far (c := s * d) (X := Z + Z * Z) (Y := Z * Z + Z * Z * Z) (n := n) hr ht h c0 (by omega) nX1 nX2 (by
    have e : -w * -w * t = w * w * t := by grind
    omega) (by
    have k1 := Int.mul_le_mul_of_nonneg_right b6 (show 0 ≤ Z + Z * Z by omega)
    have k2 := Int.mul_le_mul_of_nonneg_right (show 2 * (s * d * (Z + Z * Z)) + s * d ≤ 5 * (Z * Z * Z) by grind) (show 0 ≤ 2 * (Z * Z + Z * Z * Z) + 1 by omega)
    have k3 := Int.mul_le_mul_of_nonneg_left (show 2 * (Z * Z + Z * Z * Z) + 1 ≤ 5 * (Z * Z * Z) by omega) (show 0 ≤ 5 * (Z * Z * Z) by omega)
    have k4 := sq_nonneg (Z * Z * Z)
    have k5 := le_mul_self (show 1 ≤ Z * Z * Z by omega)
    grind)
  rw [two_flat, one_lt ht]
  intro z
  have q1 := nn_scale z (show 0 ≤ s by omega)
  have q2 := nn_scale ((nn_iff hr).mp hf) (show 0 ≤ d by omega)
  have q3 := two_nn hr ht q2 q1
  rw [show d * (p * n - f * s) + s * ((f + 1) * d - a * n) = n * u + s * d by rw [← hu]; grind, show d * (q * n) = n * v by rw [← hv]; grind, show s * (-b * n) = n * -w by rw [← hw2]; grind] at q3
  omega
theorem ssum_opp {a b c : Int} (ha : a = -1 ∨ a = 0 ∨ a = 1) (hb : b = -1 ∨ b = 0 ∨ b = 1) : ssum (-a) (-b) c = -ssum a b c := by
  unfold ssum
  rcases ha with ha | ha | ha <;> rcases hb with hb | hb | hb <;> subst ha <;> subst hb <;> simp
theorem two_opp (u v r w t : Int) : sTwo (-u) (-v) r (-w) t = -sTwo u v r w t := by
  unfold sTwo
  rw [sOne_opp, show -w * t = -(w * t) by grind, sgn_opp, show -u * -u + -v * -v * r - -w * -w * t = u * u + v * v * r - w * w * t by grind, show 2 * -u * -v = 2 * u * v by grind]
  exact ssum_opp (sOne_three ..) (sgn_three _)
theorem one_scale {x y r n : Int} (hn : 0 < n) : sOne (n * x) (n * y) r = sOne x y r := by
  unfold sOne
  rw [sgn_scale hn, Int.mul_assoc, sgn_scale hn, show n * x * (n * x) - n * y * (n * y) * r = n * (n * (x * x - y * y * r)) by grind, sgn_scale hn, sgn_scale hn]
theorem two_scale {u v r w t n : Int} (hn : 0 < n) : sTwo (n * u) (n * v) r (n * w) t = sTwo u v r w t := by
  unfold sTwo
  rw [one_scale hn, Int.mul_assoc n w t, sgn_scale hn, show n * u * (n * u) + n * v * (n * v) * r - n * w * (n * w) * t = n * n * (u * u + v * v * r - w * w * t) by grind, show 2 * (n * u) * (n * v) = n * n * (2 * u * v) by grind, one_scale (Int.mul_pos hn hn)]
theorem ssum_ge' {a b c : Int} (ha : a = -1 ∨ a = 0 ∨ a = 1) (hb : b = -1 ∨ b = 0 ∨ b = 1) (hc : c = -1 ∨ c = 0 ∨ c = 1) (h : 0 ≤ ssum a b c) : (0 ≤ a ∧ 0 ≤ b) ∨ (a < 0 ∧ 0 < b ∧ c ≤ 0) ∨ (0 < a ∧ b < 0 ∧ 0 ≤ c) := by
  unfold ssum at h
  rcases ha with ha | ha | ha <;> rcases hb with hb | hb | hb <;> rcases hc with hc | hc | hc <;> subst ha <;> subst hb <;> subst hc <;> simp at h ⊢
theorem ssum_gt {a b c : Int} (ha : a = -1 ∨ a = 0 ∨ a = 1) (hb : b = -1 ∨ b = 0 ∨ b = 1) (hc : c = -1 ∨ c = 0 ∨ c = 1) (h : (0 < a ∧ 0 ≤ b) ∨ (0 ≤ a ∧ 0 < b) ∨ (a < 0 ∧ 0 < b ∧ c < 0) ∨ (0 < a ∧ b < 0 ∧ 0 < c)) : 0 < ssum a b c := by
  unfold ssum
  rcases ha with ha | ha | ha <;> rcases hb with hb | hb | hb <;> rcases hc with hc | hc | hc <;> subst ha <;> subst hb <;> subst hc <;> simp at h ⊢
theorem one_more {r x y k : Int} (hr : 0 ≤ r) (h : NN r x y) (hk : 0 < k) : 0 < sOne (x + k) y r := by
  rw [one_gt hr]
  intro q
  have := nn_add hr h q
  rw [show x + -(x + k) = -k by omega, show y + -y = 0 by omega] at this
  have := nn_flat' this
  omega
theorem two_more {r t u v w k : Int} (hr : 0 ≤ r) (h : 0 ≤ sTwo u v r w t) (hk : 0 < k) : 0 < sTwo (u + k) v r w t := by
  have hs := ssum_ge' (sOne_three u v r) (sgn_three (w * t)) (sOne_three _ _ r) h
  unfold sTwo
  refine ssum_gt (sOne_three ..) (sgn_three _) (sOne_three ..) ?_
  have eU : (u + k) * (u + k) + v * v * r - w * w * t = (u * u + v * v * r - w * w * t) + k * (2 * u + k) := by grind
  have eV : 2 * (u + k) * v = 2 * u * v + k * (2 * v) := by grind
  rw [eU, eV]
  rcases hs with ⟨a, b⟩ | ⟨a, b, c⟩ | ⟨a, b, c⟩
  · exact .inl ⟨one_more hr ((nn_iff hr).mp a) hk, b⟩
  · by_cases z : 0 ≤ sOne (u + k) v r
    · exact .inr (.inl ⟨z, b⟩)
    · refine .inr (.inr (.inl ⟨by omega, b, ?_⟩))
      rw [one_lt hr]
      have c1 : NN r (-(u * u + v * v * r - w * w * t)) (-(2 * u * v)) := by
        rw [← nn_iff hr, sOne_opp]
        omega
      have a1 : ¬ NN r u v := (one_lt hr).mp a
      have a2 : ¬ NN r (u + k) v := (one_lt hr).mp (by omega)
      have a3 : ¬ NN r (2 * u + k) (2 * v) := by
        have a4 : NN r (-(u + k)) (-v) := (nn_tot hr).resolve_left a2
        have := nn_sub hr a1 a4
        rwa [show u - -(u + k) = 2 * u + k by omega, show v - -v = 2 * v by omega] at this
      have a5 : ¬ NN r (k * (2 * u + k)) (k * (2 * v)) := by
        rw [← nn_iff hr, one_scale hk, nn_iff hr]
        exact a3
      have := nn_sub hr a5 c1
      rwa [show k * (2 * u + k) - -(u * u + v * v * r - w * w * t) = u * u + v * v * r - w * w * t + k * (2 * u + k) by omega, show k * (2 * v) - -(2 * u * v) = 2 * u * v + k * (2 * v) by omega] at this
  · have a1 : NN r u v := (nn_iff hr).mp (by omega)
    refine .inr (.inr (.inr ⟨one_more hr a1 hk, b, ?_⟩))
    have c1 := (nn_iff hr).mp c
    have a2 : 0 < sOne (2 * u + k) (2 * v) r := by
      have := one_more hr (nn_add hr a1 a1) hk
      rwa [show u + u + k = 2 * u + k by omega, show v + v = 2 * v by omega] at this
    rw [← one_scale hk] at a2
    rw [one_gt hr] at a2 ⊢
    have := nn_sub hr a2 c1
    rwa [show -(k * (2 * u + k)) - (u * u + v * v * r - w * w * t) = -(u * u + v * v * r - w * w * t + k * (2 * u + k)) by omega, show -(k * (2 * v)) - 2 * u * v = -(2 * u * v + k * (2 * v)) by omega] at this
theorem rt_ex (n : Nat) : ∃ g : Nat, g * g ≤ n ∧ n < (g + 1) * (g + 1) := by
  induction n with
  | zero => exact ⟨0, by decide, by decide⟩
  | succ n ih =>
    obtain ⟨g, h1, h2⟩ := ih
    by_cases h : (g + 1) * (g + 1) ≤ n + 1
    · refine ⟨g + 1, h, ?_⟩
      have : (g + 1 + 1) * (g + 1 + 1) = (g + 1) * (g + 1) + (2 * g + 3) := by grind
      omega
    · exact ⟨g, by omega, by omega⟩
theorem isRt_ex {n : Int} (h : 0 ≤ n) : ∃ g, IsRt g n := by
  obtain ⟨g, h1, h2⟩ := rt_ex n.toNat
  refine ⟨g, by omega, ?_, ?_⟩
  · have : ((g * g : Nat) : Int) ≤ (n.toNat : Int) := by omega
    push_cast at this
    omega
  · have : ((n.toNat : Nat) : Int) < (((g + 1) * (g + 1) : Nat) : Int) := by omega
    push_cast at this
    omega
theorem part_ex {q r : Int} (hr : 0 ≤ r) : ∃ G, Part q r G := by
  obtain ⟨g, hg⟩ := isRt_ex (Int.mul_nonneg (sq_nonneg q) hr)
  by_cases h : 0 ≤ q
  · exact ⟨g, g, hg, .inl ⟨h, rfl⟩⟩
  · by_cases e : g * g = q * q * r
    · exact ⟨-g, g, hg, .inr (.inl ⟨by omega, e, rfl⟩)⟩
    · exact ⟨-g - 1, g, hg, .inr (.inr ⟨by omega, e, rfl⟩)⟩
theorem floor_ex {p q r s : Int} (hr : 0 ≤ r) (hs : 0 < s) : ∃ f, 0 ≤ sOne (p - f * s) q r ∧ sOne (p - (f + 1) * s) q r < 0 := by
  obtain ⟨G, h⟩ := part_ex (q := q) hr
  exact ⟨_, floor_ok hr hs h⟩
theorem big_ex (u v r w t c : Int) (hr : 0 ≤ r) (ht : 0 ≤ t) (hc : 0 ≤ c) (h : sTwo u v r w t < 0) : ∃ n, 0 < n ∧ sTwo (n * u + c) (n * v) r (n * w) t < 0 := by
  have X1 : ∃ X : Int, (-X ≤ u ∧ u ≤ X) ∧ NN r (X - u) (-v) ∧ NN r (X + u) v := by
    have vr := Int.mul_nonneg (sq_nonneg v) hr
    have uu := sq_nonneg u
    refine ⟨u * u + v * v * r + 1, ?_, .inl ?_, .inl ?_⟩
    · by_cases q : 0 ≤ u
      · by_cases q1 : u = 0
        · subst q1; omega
        · have := le_sq (show 0 < u by omega); omega
      · have := le_sq (show 0 < -u by omega)
        have e : -u * -u = u * u := by grind
        omega
    all_goals
      have h1 : 0 ≤ u * u - u := by
        by_cases q : 0 < u
        · have := le_sq q; omega
        · omega
      have h2 : 0 ≤ u * u + u := by
        by_cases q : 0 < -u
        · have := le_sq q
          have e : -u * -u = u * u := by grind
          omega
        · omega
      have h3 := le_sq (show 0 < v * v * r + 1 by omega)
    · refine ⟨by omega, ?_⟩
      have := sq_le (x := v * v * r + 1) (y := u * u + v * v * r + 1 - u) (by omega) (by omega)
      have e : -v * -v * r = v * v * r := by grind
      omega
    · refine ⟨by omega, ?_⟩
      have := sq_le (x := v * v * r + 1) (y := u * u + v * v * r + 1 + u) (by omega) (by omega)
      omega
  obtain ⟨X, hX, hX1, hX2⟩ := X1
  have Y1 : ∃ Y : Int, -Y ≤ u * u + v * v * r - w * w * t ∧ u * u + v * v * r - w * w * t ≤ Y := by
    by_cases q : 0 ≤ u * u + v * v * r - w * w * t
    · exact ⟨_, by omega, Int.le_refl _⟩
    · exact ⟨-(u * u + v * v * r - w * w * t), by omega, by omega⟩
  obtain ⟨Y, hY⟩ := Y1
  have cX := Int.mul_nonneg hc (show 0 ≤ X by omega)
  have k := Int.mul_nonneg (show 0 ≤ 2 * (c * X) + c by omega) (show 0 ≤ 2 * Y + 1 by omega)
  exact ⟨_, by omega, two_far hr ht h hc hX hX1 hX2 hY (Int.le_refl _)⟩
theorem two_gt_swap {u v r w t : Int} (hr : 0 ≤ r) (ht : 0 ≤ t) (h : 0 < sTwo u v r w t) : 0 < sTwo u w t v r := by
  have h0 : sTwo (-u) (-v) r (-w) t < 0 := by
    rw [two_opp]
    omega
  obtain ⟨n, n0, h1⟩ := big_ex _ _ _ _ _ 2 hr ht (by decide) h0
  obtain ⟨f, f1, f2⟩ := floor_ex (p := 0) (q := n * v) (s := 1) hr (by decide)
  rw [show (0 : Int) - f * 1 = -f by omega] at f1
  rw [show (0 : Int) - (f + 1) * 1 = -(f + 1) by omega] at f2
  have g1 := (nn_iff hr).mp f1
  have g2 : NN r (f + 1) (-(n * v)) := by
    have := (nn_tot hr).resolve_left ((one_lt hr).mp f2)
    rwa [show - -(f + 1) = f + 1 by omega] at this
  have g3 : ¬ NN t (-(n * u + f - 1)) (-(n * w)) := fun q => by
    have := two_nn hr ht g2 q
    rw [show f + 1 + -(n * u + f - 1) = n * -u + 2 by grind, show -(n * v) = n * -v by grind, show -(n * w) = n * -w by grind] at this
    omega
  have g4 : NN t (n * u + f - 1) (n * w) := by
    have := (nn_tot (x := -(n * u + f - 1)) (y := -(n * w)) ht).resolve_left g3
    rwa [show - -(n * u + f - 1) = n * u + f - 1 by omega, show - -(n * w) = n * w by omega] at this
  have g5 := two_nn ht hr g4 g1
  have g6 := two_more ht g5 (show (0 : Int) < 1 by decide)
  rw [show n * u + f - 1 + -f + 1 = n * u by omega, two_scale n0] at g6
  exact g6
theorem two_swap {u v r w t : Int} (hr : 0 ≤ r) (ht : 0 ≤ t) : sTwo u v r w t = sTwo u w t v r := by
  have a1 := two_gt_swap (u := u) (v := v) (w := w) hr ht
  have a2 := two_gt_swap (u := u) (v := w) (w := v) ht hr
  have b1 := two_gt_swap (u := -u) (v := -v) (w := -w) hr ht
  have b2 := two_gt_swap (u := -u) (v := -w) (w := -v) ht hr
  rw [two_opp, two_opp] at b1 b2
  rcases sTwo_three u v r w t with h | h | h <;> rcases sTwo_three u w t v r with k | k | k <;> omega
end M
namespace Mine
open PySem L2
open L2 DD
structure NumG (m k : Nat) (H : Hp) (a : Addr) (p q r s : Int) : Prop where
  at_ : H a = some (.tup [.int p, .int q, .int r, .int s])
  bp : Bits m p
  bq : Bits m q
  br : Bits k r
  bs : Bits m s
  r0 : 0 ≤ r
  s0 : 0 < s
section
variable {m k : Nat} {H H' : Hp} {a : Addr} {p q r s : Int}
theorem NumG.same (h : NumG m k H a p q r s) (e : Same H H') : NumG m k H' a p q r s := ⟨e _ _ h.at_, h.bp, h.bq, h.br, h.bs, h.r0, h.s0⟩
theorem NumG.up {m' k' : Nat} (h : NumG m k H a p q r s) (e1 : m ≤ m') (e2 : k ≤ k') : NumG m' k' H a p q r s := ⟨h.at_, h.bp.mono e1, h.bq.mono e1, h.br.mono e2, h.bs.mono e1, h.r0, h.s0⟩
theorem NumG.upd {l : Addr} {xs : List V} {o : HO} (h : NumG m k H a p q r s) (hl : H l = some (.lst xs)) : NumG m k (upd H l o) a p q r s :=
  ⟨by rw [upd_ne (ne_of h.at_ hl (by intro z; cases z))]; exact h.at_, h.bp, h.bq, h.br, h.bs, h.r0, h.s0⟩
end
abbrev NumAt := NumG 10000 1600
abbrev WideAt := NumG 7000 1600
abbrev SmAt := NumG 200 400
abbrev BaseAt := NumG 100 100
theorem bits_apart {u v r w t : Int} (bu : Bits 30000 u) (bv : Bits 30000 v) (br : Bits 30000 r) (bw : Bits 30000 w) (bt : Bits 30000 t) : Bits 100000 (u * u + v * v * r - w * w * t) :=
  (((bu.mul bu).add ((bv.mul bv).mul br)).sub ((bw.mul bw).mul bt)).mono (by decide)
theorem bits_twice {u v : Int} (bu : Bits 30000 u) (bv : Bits 30000 v) : Bits 100000 (2 * u * v) := (((bits_of (m := 64) (x := 2) (by decide +kernel)).mul bu).mul bv).mono (by decide)
theorem bits_root {g n : Int} {k : Nat} (g0 : 0 ≤ g) (h : g * g ≤ n) (b : Bits (k + k) n) : Bits k g := by
  refine bits_of ?_
  apply Nat.lt_of_not_le
  intro q
  have e : g.natAbs * g.natAbs = (g * g).natAbs := (Int.natAbs_mul g g).symm
  have l1 : (g * g).natAbs ≤ n.natAbs := by
    have := M.sq_nonneg g
    omega
  have l2 := Nat.mul_le_mul q q
  rw [← Nat.pow_add] at l2
  have l3 := b.lt
  omega
theorem bits_div {m : Nat} {x y : Int} (h : Bits m x) (k : 0 < y) : Bits m (x / y) := by
  rw [← Int.fdiv_eq_ediv_of_nonneg x (by omega)]
  exact h.abs (natAbs_fdiv_le x y)
theorem bits_part {q r G : Int} {m k : Nat} (h : M.Part q r G) (bq : Bits m q) (br : Bits k r) : Bits (m + k + 1) G := by
  obtain ⟨g, ⟨g0, g1, g2⟩, c⟩ := h
  have b2 : Bits ((m + k) + (m + k)) (q * q * r) := ((bq.mul bq).mul br).mono (by omega)
  have bg : Bits (m + k) g := bits_root g0 g1 b2
  rcases c with ⟨_, rfl⟩ | ⟨_, _, rfl⟩ | ⟨_, _, rfl⟩
  · exact bg.mono (by omega)
  · exact bg.neg.mono (by omega)
  · refine bits_of ?_
    have := bg.lt
    have e : 2 ^ (m + k + 1) = 2 ^ (m + k) * 2 := Nat.pow_succ ..
    omega
end Mine
set_option maxRecDepth 100000
namespace L2
open PySem PySem.Spec PyProof.Rows DD
def ItRv (K : PySem.W.Frag) (a : Addr) (n : Nat) : It := ⟨fun i H => ∃ xs x, SqL K H a xs ∧ i < n ∧ xs[n - 1 - i]? = some x, fun i H x H' => H' = H ∧ ∀ xs, SqL K H a xs → xs[n - 1 - i]? = some x, fun i _ => i = n⟩
theorem turn_rev {P : Program} {w : World} {K : PySem.W.Frag} {tg : Expr} (a it : Addr) (n : Nat) : Turn P w K tg (ItRv K a n) [it] it (fun i h => h.IsRevIter it a ((n : Int) - 1 - i)) where
  mem := List.mem_singleton_self _
  obj := fun i h st b hb => by
    obtain rfl := List.mem_singleton.mp hb
    obtain ⟨o, e, _, d⟩ := st
    exact ⟨o, e, fun v z => by rw [d] at z; cases z⟩
  keep := fun i h h' st k => st.at fun o e => k it (List.mem_singleton_self _) o e
  item := by
    intro X hP hw hK _ i pins s σ H E I hf st hg
    subst hP hw hK
    obtain ⟨xs, x, hq, hi, hx⟩ := hg
    obtain ⟨its, rv, p, _⟩ := I.list hq
    obtain ⟨u, hu, ru⟩ := rv.get hx
    obtain ⟨f0, f1, _, f3, f4, f5⟩ := hf it (List.mem_singleton_self _)
    have e : (n : Int) - 1 - i = ((n - 1 - i : Nat) : Int) := by omega
    have e2 : ((n - 1 - i : Nat) : Int) - 1 = (n : Int) - 1 - ((i + 1 : Nat) : Int) := by omega
    replace st : s.heap.IsRevIter it a ((n : Int) - 1 - i) := st
    rw [e] at st
    refine wpAny_pyNext_rev_item st p.isList (x := u) (by simpa using hu) fun h' st' sb => ?_
    rw [e2] at st'
    have I1 : Inv X pins σ H { s with heap := h' } := I.turned (t' := s.toks) (fun b o hb z => (sb.2 b hb).trans z) f0 f1 f3 f4 f5
    obtain ⟨o, ho, c, d⟩ := id st'
    refine ⟨u, rfl, go_of (s := { s with heap := h' }) ho c d (by decide) ⟨x, H, I1, ru, ⟨rfl, fun ys hy => ?_⟩, st', fun b hb => (hf b hb).1⟩⟩
    rw [I.list_inj hy hq]
    exact hx
  done := by
    intro X hP hw hK hc i pins s σ H E I hf st hg
    subst hP hw hK
    obtain ⟨f0, f1, _, f3, f4, f5⟩ := hf it (List.mem_singleton_self _)
    have e : (n : Int) - 1 - i = -1 := by
      have : i = n := hg
      omega
    replace st : s.heap.IsRevIter it a ((n : Int) - 1 - i) := st
    rw [e] at st
    exact wpAny_pyNext_rev_end (I.ok.hd hc) st fun h' b => ⟨rfl, I.turned (t' := s.toks) (fun c o z q => b c o z q) f0 f1 f3 f4 f5⟩
  self := fun _ _ _ _ _ st h => wpAny_pyIter_revIter st h
theorem boot_rev : bootBuiltins "reversed" = some (.type "reversed") := by decide +kernel
def iRev (K : PySem.W.Frag) (ta : TA) : TI := fun σ H R => ta σ H fun vs H1 => ∃ a xs, vs = [.ref a] ∧ SqL K H1 a xs ∧ R (ItRv K a xs.length) H1
theorem pi_rev {X : Cx} {tg a : Expr} {ta : TA} {p pos : Pos} (hg : Gl X "reversed") (hm : X.mg "reversed" = none) (ha : PA X [a] ta) (hs : starEach [a] X.env = [(false, eval a X.env)] := by rfl) : PI X tg (.Call (.Name "reversed" p) [a] [] pos) (iRev X.K ta) := by
  intro pins s σ H R I h
  refine Call_ (ld_blt I hg hm boot_rev (PyProof.Rows.callWith_type1 (thn (ha pos pins s σ H _ I h) fun us s1 ⟨vs, H1, I1, r1, q1⟩ => ?_) hs rfl))
  obtain ⟨t, ys, e, hq, q⟩ := q1
  subst e
  cases r1 with
  | cons r rr =>
    cases rr
    cases r
    obtain ⟨its, rv, p1, _⟩ := I1.list hq
    have hl := rv.length
    have e : ((its.toArray.size : Nat) : Int) - 1 = (ys.length : Int) - 1 - ((0 : Nat) : Int) := by rw [List.size_toArray, hl]; omega
    refine call_reversed_list p1.isList ?_
    rw [e]
    have hr : (s1.heap.push (revObj t ((ys.length : Int) - 1 - ((0 : Nat) : Int)))).IsRevIter s1.heap.objs.size t ((ys.length : Int) - 1 - ((0 : Nat) : Int)) := ⟨_, Heap.get?_push_size _ rfl, rfl, rfl⟩
    refine wpAny_pyIter_revIter hr ?_
    refine ⟨s1.heap.objs.size, [s1.heap.objs.size], _, _, H1, rfl, I1.kept (t' := s1.toks) fun b o e => Heap.get?_push_of_some _ e, turn_rev t _ ys.length, hr, fun b hb => ?_, q⟩
    obtain rfl := List.mem_singleton.mp hb
    exact I1.fpOk (Nat.le_refl _) (I1.hok.fresh (Nat.le_refl _))
theorem for_rev {K : PySem.W.Frag} {a : Addr} {xs : List V} {g : TG} {tb : TS} {D : Ends} {σ : St} {H : Hp} (Pv : Nat → St → Hp → Prop) (h0 : Pv 0 σ H) (hl : ∀ i σ H, i < xs.length → Pv i σ H → SqL K H a xs)
    (hs : ∀ i x σ H, i < xs.length → xs[xs.length - 1 - i]? = some x → Pv i σ H → g x σ H fun σ2 H2 => tb { D with nx := Pv (i + 1), ct := Pv (i + 1), bk := D.nx } σ2 H2) (hd : ∀ σ H, Pv xs.length σ H → D.nx σ H) :
    ∃ W : Nat → Nat → St → Hp → Prop, (∃ m, W 0 m σ H) ∧ ∀ i m σ H, W i m σ H →
      ((ItRv K a xs.length).stop i H ∧ D.nx σ H) ∨ ((ItRv K a xs.length).go i H ∧ ∃ N : St → Hp → Prop, (∀ σ' H', N σ' H' → ∃ m', m' < m ∧ W (i + 1) m' σ' H') ∧ ∀ x H', (ItRv K a xs.length).yld i H x H' → g x σ H' fun σ2 H2 => tb { D with nx := N, ct := N, bk := D.nx } σ2 H2) := by
  refine ⟨fun i m σ H => m = xs.length - i ∧ i ≤ xs.length ∧ Pv i σ H, ⟨_, rfl, Nat.zero_le _, h0⟩, ?_⟩
  rintro i m σ H ⟨rfl, hi, p⟩
  rcases Nat.lt_or_eq_of_le hi with hlt | rfl
  · have q := hl i σ H hlt p
    have hx : xs[xs.length - 1 - i]? = some xs[xs.length - 1 - i] := List.getElem?_eq_getElem (by omega)
    refine .inr ⟨⟨xs, _, q, hlt, hx⟩, Pv (i + 1), fun σ' H' p' => ⟨_, by omega, rfl, hlt, p'⟩, fun x H' y => ?_⟩
    obtain ⟨rfl, y⟩ := y
    exact hs i x σ _ hlt (y xs q) p
  · exact .inl ⟨rfl, hd σ H p⟩
end L2
namespace Mine
open PySem L2
def top (i : Nat) : Stmt := PySem.Challenge.pw_realsay_k43_a_fraction_between.main.body.getD i (.Pass ⟨0, 0, 0, 0⟩)
open L2 DD
abbrev pv_ (p : DD.D × Int) : DD.D × V := (p.1, .int p.2)
structure Sums (H H2 : Hp) (d : Addr) (ps : Fm.T) (t : Fm.T) : Prop where
  at_ : New H H2 d (.dT (t.map pv_))
  nk : Fm.Nk t
  tt : ∀ k, Fm.tot t k = Fm.tot ps k
  len : t.length ≤ ps.length
  pr : ∀ k ∈ t.map (·.1), Fm.IsProd k
theorem Sums.add {H H2 : Hp} {d : Addr} {ps t : Fm.T} {k : DD.D} {n : Int} (S : Sums H H2 d ps t) (hk : Fm.IsProd k) : Sums H (upd H2 d (.dT ((Fm.setI t k (Fm.tot t k + n)).map pv_))) d (ps ++ [(k, n)]) (Fm.setI t k (Fm.tot t k + n)) where
  at_ := S.at_.set (Same.refl _)
  nk := Fm.setI_nk S.nk _ _
  tt := fun x => by
    rw [Fm.tot_setI S.nk, Fm.tot_append, Fm.tot_cons, Fm.tot_nil, Int.add_zero]
    by_cases e : x = k
    · subst e
      rw [if_pos rfl, if_pos rfl, S.tt]
    · rw [if_neg e, if_neg (fun h => e h.symm), Int.add_zero, S.tt]
  len := by
    have := Fm.setI_len t k (Fm.tot t k + n)
    have := S.len
    rw [List.length_append]
    simp
    omega
  pr := fun x hx => (Fm.setI_mem hx).elim (S.pr x) fun e => e ▸ hk
theorem Sums.items {H H2 : Hp} {d : Addr} {ps t : Fm.T} (S : Sums H H2 d ps t) : DItems H2 d (t.map fun p => (p.1, .int p.2)) := .inl ⟨_, .inl S.at_.2.2, All2.of_get (by simp) fun i h1 h2 => by
  rw [List.getElem_map, List.getElem_map]
  exact ⟨rfl, by simp only [DV]⟩⟩
theorem len_sub {α : Type} [DecidableEq α] : ∀ {l m : List α}, l.Nodup → (∀ x ∈ l, x ∈ m) → l.length ≤ m.length
  | [], _, _, _ => Nat.zero_le _
  | a :: l, m, n, h => by
    rw [List.nodup_cons] at n
    have am := h a List.mem_cons_self
    have z := len_sub (l := l) (m := m.erase a) n.2 fun x hx => (List.mem_erase_of_ne (show x ≠ a from fun e => n.1 (e ▸ hx))).mpr (h x (List.mem_cons_of_mem _ hx))
    have p := List.length_pos_of_mem am
    rw [List.length_erase_of_mem am] at z
    show l.length + 1 ≤ m.length
    omega
theorem form_len {ps F : Fm.T} (h : Fm.IsForm ps F) : F.length ≤ ps.length := by
  have n : (F.map (·.1)).Nodup := List.pairwise_map.mpr (h.1.imp fun {a b} r e => by rw [e, DD.lt_irrefl] at r; cases r)
  have z := len_sub (m := ps.map (·.1)) n fun x hx => by
    obtain ⟨p, hp, rfl⟩ := List.mem_map.mp hx
    have w := (h.2 p.1 p.2).mp hp
    exact Classical.byContradiction fun c => w.1 (by rw [w.2, Fm.tot_no c])
  rw [List.length_map, List.length_map] at z
  exact z
structure Joins (H H2 : Hp) (d : Addr) (l r t : List (Str × Int)) : Prop where
  at_ : New H H2 d (.dK (t.map Fm.pk))
  nd : (t.map (·.1)).Nodup
  pos : ∀ p ∈ t, 1 ≤ p.2
  nam : ∀ x ∈ t.map (·.1), x ∈ l.map (·.1) ∨ x ∈ r.map (·.1)
  len : t.length ≤ l.length + r.length
  dg : Fm.deg t = Fm.deg l + Fm.deg r
  mo : ∀ pt, Fm.mon pt t = Fm.mon pt l * Fm.mon pt r
theorem Joins.add {H H2 : Hp} {d : Addr} {l r t : List (Str × Int)} {k : Str} {n : Int} (S : Joins H H2 d l r t) (hn : 1 ≤ n) : Joins H (upd H2 d (.dK ((Fm.addS t k n).map Fm.pk))) d l (r ++ [(k, n)]) (Fm.addS t k n) where
  at_ := S.at_.set (Same.refl _)
  nd := Fm.addS_nd k n S.nd
  pos := Fm.addS_pos k hn S.pos
  nam := fun x hx => by
    rw [List.map_append]
    rcases Fm.addS_names k n hx with h | rfl
    · exact (S.nam x h).imp id fun z => List.mem_append.mpr (.inl z)
    · exact .inr (List.mem_append.mpr (.inr List.mem_cons_self))
  len := by
    have h1 := Fm.addS_len k n t
    have h2 := S.len
    rw [List.length_append]
    show _ ≤ l.length + (r.length + 1)
    omega
  dg := by
    rw [Fm.addS_deg, S.dg, Fm.deg_app]
    show _ = Fm.deg l + (Fm.deg r + (n + 0))
    omega
  mo := fun pt => by
    rw [Fm.addS_mon pt k (by omega) S.pos, S.mo, Fm.mon_app]
    show _ = Fm.mon pt l * (Fm.mon pt r * (Fm.pw (pt k) n.toNat * 1))
    rw [Int.mul_one, Int.mul_assoc]
theorem Joins.items {H H2 : Hp} {d : Addr} {l r t : List (Str × Int)} (S : Joins H H2 d l r t) : DItems H2 d (t.map fun p => (DD.D.str p.1, DD.D.int p.2)) := .inr ⟨_, .inl S.at_.2.2, All2.of_get (by simp) fun i h1 h2 => by
  rw [List.getElem_map, List.getElem_map]
  exact ⟨by simp only [DV]; rfl, by simp only [DV]⟩⟩
abbrev FormAt (H : Hp) (a : Addr) (F : Fm.T) : Prop := DV H (ofL (F.map Fm.pairD)) (.ref a)
theorem OkF_mono {nms : List Str} {c c' : Int} {b b' : Nat} {F : Fm.T} (h : Fm.OkF nms c b F) (hc : c ≤ c') (hb : b ≤ b') : Fm.OkF nms c' b' F := fun p hp => by
  obtain ⟨⟨l, e, r, z, d⟩, n⟩ := h p hp
  exact ⟨⟨l, e, r, z, Int.le_trans d hc⟩, Nat.le_trans n hb⟩
structure Drw (H : Hp) (r : Addr) (nms : List Str) (F : Fm.T) : Prop where
  at_ : FormAt H r F
  ok : Fm.OkF nms 27 (7 * 10 ^ 28) F
  len : F.length ≤ 7
  nz : ∀ p ∈ F, p.2 ≠ 0
  ri : F.Pairwise (fun a b => DD.lt a.1 b.1 = true)
theorem Drw.mono {H H' : Hp} {r : Addr} {nms : List Str} {F : Fm.T} (d : Drw H r nms F) (s : Same H H') : Drw H' r nms F := ⟨s.dv d.at_, d.ok, d.len, d.nz, d.ri⟩
theorem Drw.of {H : Hp} {r : Addr} {nms : List Str} {ps F : Fm.T} (f : Fm.IsForm ps F) (o : Fm.OkF nms 27 (10 ^ 28) ps) (n : ps.length ≤ 7) (v : FormAt H r F) : Drw H r nms F where
  at_ := v
  ok := OkF_mono (o.form f) (Int.le_refl _) (Nat.mul_le_mul_right _ n)
  len := Nat.le_trans (form_len f) n
  nz := fun p hp => ((f.2 p.1 p.2).mp hp).1
  ri := f.1
theorem Drw.neg {H H' : Hp} {r r' : Addr} {nms : List Str} {F : Fm.T} (d : Drw H r nms F) (v : FormAt H' r' (Fm.negT F)) : Drw H' r' nms (Fm.negT F) where
  at_ := v
  ok := fun p hp => by
    obtain ⟨q, hq, rfl⟩ := List.mem_map.mp hp
    exact ⟨(d.ok q hq).1, by show (-q.2).natAbs ≤ _; rw [Int.natAbs_neg]; exact (d.ok q hq).2⟩
  len := by unfold Fm.negT; rw [List.length_map]; exact d.len
  nz := fun p hp => by
    obtain ⟨q, hq, rfl⟩ := List.mem_map.mp hp
    have := d.nz q hq
    show -q.2 ≠ 0
    omega
  ri := List.pairwise_map.mpr d.ri
structure Dr (H : Hp) (r : Addr) (nms : List Str) (c : Int) (bd n : Nat) (F : Fm.T) : Prop where
  at_ : FormAt H r F
  ok : Fm.OkF nms c bd F
  len : F.length ≤ n
  nz : ∀ p ∈ F, p.2 ≠ 0
  ri : F.Pairwise (fun a b => DD.lt a.1 b.1 = true)
theorem Dr.mono {H H' : Hp} {r : Addr} {nms : List Str} {c : Int} {bd n : Nat} {F : Fm.T} (d : Dr H r nms c bd n F) (s : Same H H') : Dr H' r nms c bd n F := ⟨s.dv d.at_, d.ok, d.len, d.nz, d.ri⟩
theorem Dr.of {H : Hp} {r : Addr} {nms : List Str} {c : Int} {bd n : Nat} {ps F : Fm.T} (f : Fm.IsForm ps F) (o : Fm.OkF nms c bd ps) (h : ps.length ≤ n) (v : FormAt H r F) : Dr H r nms c (n * bd) n F where
  at_ := v
  ok := OkF_mono (o.form f) (Int.le_refl _) (Nat.mul_le_mul_right _ h)
  len := Nat.le_trans (form_len f) h
  nz := fun p hp => ((f.2 p.1 p.2).mp hp).1
  ri := f.1
theorem Dr.take {H H' : Hp} {r r' : Addr} {nms : List Str} {c : Int} {bd n : Nat} {F : Fm.T} (d : Dr H r nms c bd n F) (s : Same H H') (k : Nat) (h : ∀ xs, H r = some (.tup xs) → H' r' = some (.tup (xs.take k))) : Dr H' r' nms c bd (min k n) (F.take k) where
  at_ := by
    obtain ⟨_, xs, e, hx, al⟩ := dv_tup.mp d.at_
    cases e
    refine dv_tup.mpr ⟨r', _, rfl, h xs hx, ?_⟩
    rw [List.map_take]
    exact all2_take k (all_dv (fun _ _ z => s.dv z) al)
  ok := fun p hp => d.ok p (List.mem_of_mem_take hp)
  len := by
    have := d.len
    rw [List.length_take]
    omega
  nz := fun p hp => d.nz p (List.mem_of_mem_take hp)
  ri := d.ri.sublist (List.take_sublist _ _)
def TellsNum (H : Hp) (Q : VK) : Prop := ∀ (x : Addr) (p q r s : Int) (H' : Hp), Same H H' → SmAt H' x p q r s → Q (.ref x) H'
def TellsBase (H : Hp) (Q : VK) : Prop := ∀ (x : Addr) (p q r s : Int) (H' : Hp), Same H H' → BaseAt H' x p q r s → Q (.ref x) H'
structure Nums (H H2 : Hp) (l : Addr) (ps : List Addr) : Prop where
  same : Same H H2
  free : H l = none
  lst : H2 l = some (.lst (ps.map V.ref))
  all : ∀ x ∈ ps, ∃ p q r s, SmAt H2 x p q r s
theorem Nums.more {H H2 H3 : Hp} {l x : Addr} {ps : List Addr} {p q r s : Int} (N : Nums H H2 l ps) (s3 : Same H2 H3) (hx : SmAt H3 x p q r s) : Nums H (upd H3 l (.lst (ps.map V.ref ++ [V.ref x]))) l (ps ++ [x]) where
  same := fun b o e => by
    rw [upd_ne (ne_of_none e N.free)]
    exact s3 b o (N.same b o e)
  free := N.free
  lst := by
    rw [upd_same, List.map_append]
    rfl
  all := fun y hy => by
    rcases List.mem_append.mp hy with h | h
    · obtain ⟨p, q, r, s, k⟩ := N.all y h
      exact ⟨p, q, r, s, (k.same s3).upd (s3 _ _ N.lst)⟩
    · obtain rfl := List.mem_singleton.mp h
      exact ⟨p, q, r, s, hx.upd (s3 _ _ N.lst)⟩
theorem Nums.mono {H H2 H3 : Hp} {l : Addr} {ps : List Addr} (N : Nums H H2 l ps) (s3 : Same H2 H3) : Nums H H3 l ps :=
  ⟨N.same.trans s3, N.free, s3 _ _ N.lst, fun y hy => by
    obtain ⟨p, q, r, s, k⟩ := N.all y hy
    exact ⟨p, q, r, s, k.same s3⟩⟩
theorem Nums.at_ {H H2 : Hp} {l : Addr} {ps : List Addr} (N : Nums H H2 l ps) {i : Nat} {x : V} (e : (ps.map V.ref)[i]? = some x) : ∃ y p q r s, x = .ref y ∧ SmAt H2 y p q r s := by
  rw [List.getElem?_map] at e
  cases h : ps[i]? with
  | none => rw [h] at e; cases e
  | some y =>
    rw [h] at e
    obtain ⟨p, q, r, s, k⟩ := N.all y (List.mem_of_getElem? h)
    exact ⟨y, p, q, r, s, (Option.some.inj e).symm, k⟩
def FitsN (p q r s a b t d n : Int) : Prop := ∀ f : Int, 0 ≤ M.sOne (p * n - f * s) (q * n) r → M.sOne (p * n - (f + 1) * s) (q * n) r < 0 → M.sTwo ((f + 1) * d - a * n) (0 * d) 0 (-b * n) t < 0
theorem floor_one {p q r s f g : Int} (hr : 0 ≤ r) (hs : 0 < s) (f1 : 0 ≤ M.sOne (p - f * s) q r) (f2 : M.sOne (p - (f + 1) * s) q r < 0) (g1 : 0 ≤ M.sOne (p - g * s) q r) (g2 : M.sOne (p - (g + 1) * s) q r < 0) : f = g := by
  rw [M.one_lt hr] at f2 g2
  rw [M.nn_iff hr] at f1 g1
  rcases Int.lt_trichotomy f g with h | h | h
  · exfalso
    have k := Int.mul_nonneg (show 0 ≤ g - (f + 1) by omega) (show 0 ≤ s by omega)
    have := M.nn_up hr g1 k
    rw [show p - g * s + (g - (f + 1)) * s = p - (f + 1) * s by grind] at this
    exact f2 this
  · exact h
  · exfalso
    have k := Int.mul_nonneg (show 0 ≤ f - (g + 1) by omega) (show 0 ≤ s by omega)
    have := M.nn_up hr f1 k
    rw [show p - f * s + (f - (g + 1)) * s = p - (g + 1) * s by grind] at this
    exact g2 this
theorem fits_one {p q r s a b t d n f : Int} (hr : 0 ≤ r) (hs : 0 < s) (f1 : 0 ≤ M.sOne (p * n - f * s) (q * n) r) (f2 : M.sOne (p * n - (f + 1) * s) (q * n) r < 0) : decide (M.sTwo ((f + 1) * d - a * n) (0 * d) 0 (-b * n) t < 0) = true ↔ FitsN p q r s a b t d n := by
  rw [decide_eq_true_iff]
  constructor
  · intro h g g1 g2
    rw [← floor_one hr hs f1 f2 g1 g2]
    exact h
  · intro h
    exact h f f1 f2
theorem bits_box {k : Nat} {x : Int} (h : Bits k x) : -(2 : Int) ^ k ≤ x ∧ x ≤ (2 : Int) ^ k := by
  have l := h.lt
  have e : ((2 ^ k : Nat) : Int) = (2 : Int) ^ k := by simp
  omega
theorem fits_big {H : Hp} {x y : Addr} {p q r s a b t d n : Int} (hx : SmAt H x p q r s) (hy : SmAt H y a b t d) (h : M.sTwo (p * d - a * s) (q * d) r (-b * s) t < 0) (hn : (2 : Int) ^ 2412 ≤ n) : FitsN p q r s a b t d n := by
  intro f f1 _
  refine M.fits_far (Z := (2 : Int) ^ 401) hx.r0 hy.r0 hx.s0 hy.s0 h f1 (by decide +kernel) (bits_box (((hx.bp.mul hy.bs).sub (hy.bp.mul hx.bs)).mono (by decide))) (bits_box ((hx.bq.mul hy.bs).mono (by decide))) (bits_box ((hy.bq.mul hx.bs).mono (by decide))) (bits_box (hx.br.mono (by decide))).2 (bits_box (hy.br.mono (by decide))).2 (bits_box ((hx.bs.mul hy.bs).mono (by decide))).2 ?_
  have e : 36 * ((2 : Int) ^ 401 * 2 ^ 401 * 2 ^ 401 * (2 ^ 401 * 2 ^ 401 * 2 ^ 401)) ≤ (2 : Int) ^ 2412 := by decide +kernel
  omega
theorem bits_two (c : Nat) : Bits (c + 1) ((2 : Int) ^ c) := by
  refine bits_of ?_
  have e : ((2 : Int) ^ c).natAbs = 2 ^ c := by rw [Int.natAbs_pow]; rfl
  rw [e, Nat.pow_succ]
  have := Nat.two_pow_pos c
  omega
theorem two_pos (c : Nat) : 0 < (2 : Int) ^ c := Int.pow_pos (by decide)
def sqs (m : Nat) : List V := (List.range (m + 1)).map fun i => V.int ((2 : Int) ^ (2 ^ i))
theorem sqs_len (m : Nat) : (sqs m).length = m + 1 := by simp [sqs]
theorem sqs_get {m i : Nat} (h : i ≤ m) : (sqs m)[i]? = some (V.int ((2 : Int) ^ (2 ^ i))) := by
  unfold sqs
  rw [List.getElem?_map, List.getElem?_range (by omega)]
  rfl
theorem sqs_last (m : Nat) : atI (sqs m) (-1) = some (V.int ((2 : Int) ^ (2 ^ m))) := by
  have e : sqs m = (List.range m).map (fun i => V.int ((2 : Int) ^ (2 ^ i))) ++ [V.int ((2 : Int) ^ (2 ^ m))] := by
    unfold sqs
    rw [List.range_succ, List.map_append]
    rfl
  rw [e]
  exact atI_last _ _
theorem sqs_more (m : Nat) : sqs m ++ [V.int ((2 : Int) ^ (2 ^ m) * (2 : Int) ^ (2 ^ m))] = sqs (m + 1) := by
  unfold sqs
  rw [List.range_succ (n := m + 1), List.map_append, ← Int.pow_add, show 2 ^ m + 2 ^ m = 2 ^ (m + 1) by rw [Nat.pow_succ]; omega]
  rfl
theorem order_opp {p q r s a b t d : Int} (hr : 0 ≤ r) (ht : 0 ≤ t) : M.sTwo (a * s - p * d) (b * s) t (-q * d) r = -M.sTwo (p * d - a * s) (q * d) r (-b * s) t := by
  rw [M.two_swap ht hr, ← M.two_opp]
  rw [show -(p * d - a * s) = a * s - p * d by omega, show -q * d = -(q * d) by grind, show -(-b * s) = b * s by grind]
theorem in5 {z : Int} (h : z ∈ [(3 : Int), 60, 1000000, 1000000000000, 10000000000000000000000000000]) : 3 ≤ z ∧ z ≤ 10000000000000000000000000000 := by
  simp only [List.mem_cons, List.not_mem_nil, or_false] at h
  omega
theorem b28 {z b : Int} (h : b ≤ 10000000000000000000000000000) (h1 : -b ≤ z) (h2 : z ≤ b + 1) : Bits 100 z := bits_lt (b := 100000000000000000000000000001) (by decide +kernel) (by omega) (by omega)
abbrev st__law_is_number : Stmt := top 19
def sp__law_is_number : Sp := fun vs H Q _ => ∃ (x : Addr) (p q r s : Int), vs = [.ref x] ∧ NumAt H x p q r s ∧ Q (.bl true) H
abbrev st__law_sign : Stmt := top 16
def sp__law_sign : Sp := fun vs H Q _ => ∃ u v r : Int, vs = [.int u, .int v, .int r] ∧ 0 ≤ r ∧ Bits 100000 u ∧ Bits 100000 v ∧ Bits 100000 r ∧ Q (.int (M.sOne u v r)) H
abbrev st__law_sign_two : Stmt := top 17
def sp__law_sign_two : Sp := fun vs H Q _ => ∃ u v r w t : Int, vs = [.int u, .int v, .int r, .int w, .int t] ∧ 0 ≤ r ∧ 0 ≤ t ∧ Bits 30000 u ∧ Bits 30000 v ∧ Bits 30000 r ∧ Bits 30000 w ∧ Bits 30000 t ∧ Q (.int (M.sTwo u v r w t)) H
abbrev st__law_order : Stmt := top 18
def sp__law_order : Sp := fun vs H Q _ => ∃ (x y : Addr) (p q r s a b t d : Int), vs = [.ref x, .ref y] ∧ NumAt H x p q r s ∧ NumAt H y a b t d ∧ Q (.int (M.sTwo (p * d - a * s) (q * d) r (-b * s) t)) H
abbrev st_floor_of_root : Stmt := top 8
def sp_floor_of_root : Sp := fun vs H Q _ => ∃ n : Int, vs = [.int n] ∧ 0 ≤ n ∧ Bits 16000 n ∧ ∀ g : Int, M.IsRt g n → Q (.int g) H
abbrev st_floor_of_root_part : Stmt := top 7
def sp_floor_of_root_part : Sp := fun vs H Q _ => ∃ q r : Int, vs = [.int q, .int r] ∧ 0 ≤ r ∧ Bits 7000 q ∧ Bits 1600 r ∧ ∀ G : Int, M.Part q r G → Q (.int G) H
abbrev st_floor_of : Stmt := top 4
def sp_floor_of : Sp := fun vs H Q _ => ∃ (x : Addr) (p q r s : Int), vs = [.ref x] ∧ WideAt H x p q r s ∧ ∀ f : Int, 0 ≤ M.sOne (p - f * s) q r → M.sOne (p - (f + 1) * s) q r < 0 → (∀ m k : Nat, Bits m p → Bits m q → Bits k r → Bits (m + k + 2) f) → Q (.int f) H
abbrev st_next_above : Stmt := top 11
def sp_next_above : Sp := fun vs H Q _ => ∃ (x : Addr) (p q r s n : Int), vs = [.ref x, .int n] ∧ SmAt H x p q r s ∧ 0 < n ∧ Bits 4100 n ∧ ∀ (y : Addr) (f : Int) (H' : Hp), Same H H' → 0 ≤ M.sOne (p * n - f * s) (q * n) r → M.sOne (p * n - (f + 1) * s) (q * n) r < 0 → NumG 5000 1600 H' y (f + 1) 0 0 n → Q (.ref y) H'
abbrev st_sign : Stmt := top 5
def sp_sign : Sp := fun vs H Q _ => ∃ n : Int, vs = [.int n] ∧ Q (.int (sg n)) H
abbrev st_sign_of_sum : Stmt := top 6
def sp_sign_of_sum : Sp := fun vs H Q _ => ∃ o t a : Int, vs = [.int o, .int t, .int a] ∧ Bits 10 o ∧ Bits 10 a ∧ Q (.int (sos o t a)) H
abbrev st_sign_one : Stmt := top 1
def sp_sign_one : Sp := fun vs H Q _ => ∃ u v r : Int, vs = [.int u, .int v, .int r] ∧ Bits 10000000 u ∧ Bits 10000000 v ∧ Bits 10000000 r ∧ Q (.int (s1_ u v r)) H
abbrev st_sign_two : Stmt := top 2
theorem three_bits {a : Int} (h : a = -1 ∨ a = 0 ∨ a = 1) : Bits 10 a := by
  rcases h with rfl | rfl | rfl <;> exact bits_of (by decide)
def sp_sign_two : Sp := fun vs H Q _ => ∃ u v r w t : Int, vs = [.int u, .int v, .int r, .int w, .int t] ∧ Bits 30000 u ∧ Bits 30000 v ∧ Bits 30000 r ∧ Bits 30000 w ∧ Bits 30000 t ∧ Q (.int (M.sTwo u v r w t)) H
abbrev st_order : Stmt := top 3
def sp_order : Sp := fun vs H Q _ => ∃ (x y : Addr) (p q r s a b t d : Int), vs = [.ref x, .ref y] ∧ NumAt H x p q r s ∧ NumAt H y a b t d ∧ Q (.int (M.sTwo (p * d - a * s) (q * d) r (-b * s) t)) H
abbrev st_fits_between : Stmt := top 12
def sp_fits_between : Sp := fun vs H Q _ => ∃ (x y : Addr) (p q r s a b t d n : Int), vs = [.ref x, .ref y, .int n] ∧ SmAt H x p q r s ∧ SmAt H y a b t d ∧ 0 < n ∧ Bits 4100 n ∧ ∀ (bo : Bool) (H' : Hp), Same H H' → (bo = true ↔ FitsN p q r s a b t d n) → Q (.bl bo) H'
abbrev st_between : Stmt := top 10
def sp_between : Sp := fun vs H Q _ => ∃ (x y : Addr) (p q r s a b t d : Int), vs = [.ref x, .ref y] ∧ SmAt H x p q r s ∧ SmAt H y a b t d ∧ M.sTwo (p * d - a * s) (q * d) r (-b * s) t < 0 ∧ ∀ (z : Addr) (e n : Int) (H' : Hp), Same H H' → NumG 5000 1600 H' z e 0 0 n → M.sOne (p * n - e * s) (q * n) r < 0 → M.sTwo (e * d - a * n) (0 * d) 0 (-b * n) t < 0 → Q (.ref z) H'
abbrev st__law_between : Stmt := top 26
def sp__law_between : Sp := fun vs H Q _ => ∃ (x y : Addr) (p q r s a b t d : Int), vs = [.ref x, .ref y] ∧ SmAt H x p q r s ∧ SmAt H y a b t d ∧ M.sTwo (p * d - a * s) (q * d) r (-b * s) t < 0 ∧ ∀ H', Same H H' → Q (.bl true) H'
abbrev st__law_again : Stmt := top 21
def sp__law_again : Sp := fun vs H Q _ => ∃ (x : Addr) (p q r s n : Int), vs = [.ref x, .int n] ∧ BaseAt H x p q r s ∧ TellsNum H Q
abbrev st__law_signed : Stmt := top 15
def sp__law_signed : Sp := fun vs H Q _ => ∃ n m : Int, vs = [.int n, .int m] ∧ 0 ≤ m ∧ Bits 1000 m ∧ ∀ z : Int, -m ≤ z → z ≤ m → Q (.int z) H
abbrev st__law_base : Stmt := top 20
def sp__law_base : Sp := fun vs H Q _ => ∃ n : Int, vs = [.int n] ∧ TellsBase H Q
abbrev st__law_by_digits : Stmt := top 23
def sp__law_by_digits (K : PySem.W.Frag) : Sp := fun vs H Q _ => ∃ (a : Addr) (ns : List Int), vs = [.ref a] ∧ SqL K H a (ns.map V.int) ∧ ∀ b : Bool, Q (.bl b) H
abbrev st__law_cell : Stmt := top 14
def sp__law_cell (K : PySem.W.Frag) : Sp := fun vs H Q _ => ∃ (a : Addr) (ns : List Int) (k : Int), vs = [.ref a, .int k] ∧ SqL K H a (ns.map V.int) ∧ 0 ≤ k ∧ (∀ n ∈ ns, Bits 1048576 n) ∧ ∀ z : Int, 0 ≤ z → z < 1000000000000000000000000000000000000000000000000000000000000 → Q (.int z) H
abbrev st__law_near : Stmt := top 22
def sp__law_near : Sp := fun vs H Q _ => ∃ (x : Addr) (p q r s n : Int), vs = [.ref x, .int n] ∧ BaseAt H x p q r s ∧ TellsNum H Q
abbrev st__law_read : Stmt := top 24
def sp__law_read : Sp := fun vs H Q _ => ∃ n : Int, vs = [.int n] ∧ TellsNum H Q
abbrev st__law_numbers : Stmt := top 25
def sp__law_numbers (K : PySem.W.Frag) : Sp := fun vs H Q _ => ∃ (a : Addr) (ns : List Int) (en : Int), vs = [.ref a, .int 0, .int en] ∧ SqL K H a (ns.map V.int) ∧ (∀ n ∈ ns, Bits 1048576 n) ∧ ns.length ≤ 63 ∧ 0 ≤ en ∧ en ≤ 100 ∧ ∀ (l : Addr) (ps : List Addr) (H' : Hp), Nums H H' l ps → ps.length ≤ 100 → Q (.ref l) H'
abbrev st_law : Stmt := top 27
section
variable {P : Program} {w : World} {K : PySem.W.Frag} {mg : Str → Option Value} {base : Heap}
theorem sc__law_is_number : FnScope ["_law_found", "_law_part"] ["_law_found"] (defScope st__law_is_number) := ⟨rfl, rfl, rfl, by decide +kernel, rfl, by decide +kernel, by decide +kernel⟩
set_option maxHeartbeats 4000000 in
theorem ok__law_is_number (h : Has K mg "_law_is_number" st__law_is_number ["_law_found"]) (B : Bl mg) : Ok P w K mg base 1 "_law_is_number" ["_law_found"] sp__law_is_number := by
  refine h.fn sc__law_is_number (fun vs H Q E h => ?_) (fun f cdv A outer s H vs Q E hr h => ?_)
  · obtain ⟨x, p, q', r, s', rfl, _⟩ := h
    rfl
  · have hu16 := hu16_of hr
    have hu9 := hu9_of hr
    obtain ⟨x, p, q', r, s', rfl, hx, q⟩ := h
    have tx : ∀ K, SqT K H x _ := fun K => SqT.of hx.at_
    refine ⟨_, (pss_cons (ps_if (PW.pt (pw_or (pt_not (pt_val (pe_callB (call_isinst) rfl B.isinstance_ bt_isinstance (pa_cons (pv 0) (pa_cons (pe_bltn (v := .ty "tuple") rfl B.tuple_ bt_tuple rfl) pa_nil))))) (pw_or1 (pt_cmpR (op_ne) (pe_callB (call_len_seq) rfl B.len_ bt_len (pa_cons (pv 0) pa_nil)) pe_int (nomark _))))) (pss_one (ps_ret pe_bl)) pss_nil)
      (pss_cons (ps_for PassesOwn.never rfl (pi_tup (pv 0)) (pg_name (i := 1) sc__law_is_number.nd rfl (Or.inl rfl)) (pss_one (ps_if (PW.pt (pw_or (pt_not (pt_val (pe_callB (call_isinst) rfl B.isinstance_ bt_isinstance (pa_cons (pv 1) (pa_cons (pe_bltn (v := .ty "int") rfl B.int_ bt_int rfl) pa_nil))))) (pw_or1 (pt_val (pe_callB (call_isinst) rfl B.isinstance_ bt_isinstance (pa_cons (pv 1) (pa_cons (pe_bltn (v := .ty "bool") rfl B.bool_ bt_bool rfl) pa_nil))))))) (pss_one (ps_ret pe_bl)) pss_nil)))
      (pss_one (ps_ret (pe_and (pe_cmpR (op_ge) (pe_ix ix_tup (pv 0) pe_int (fun _ _ => rfl)) pe_int (nomark _)) (pe_one (pe_cmpR (op_ge) (pe_ix ix_tup (pv 0) pe_int (fun _ _ => rfl)) pe_int (nomark _)))))))), ?_⟩
    refine ⟨_, rfl, _, _, _, _, rfl, .tup hx.at_, kit_tt _, _, rfl, ?_⟩
    refine iteF ?_
    refine ⟨_, rfl, x, _, rfl, .inr (SqT.of hx.at_), rfl, _, rfl, ?_⟩
    refine iteNS rfl ?_
    refine ⟨_, rfl, x, rfl, ⟨_, SqT.of hx.at_⟩, for_tup (xs := [.int p, .int q', .int r, .int s']) (fun i σ H2 => H2 = H ∧ ∃ x1 : Option V, σ = [some (.ref x), x1]) ⟨rfl, _, rfl⟩ ?_ ?_ ?_⟩
    · rintro i σ H2 _ ⟨rfl, _⟩
      exact SqT.of hx.at_
    · rintro i v σ H2 hv ⟨rfl, x1, rfl⟩
      have hm := List.mem_of_getElem? hv
      have iv : ∃ z : Int, v = .int z := by
        simp only [List.mem_cons, List.not_mem_nil, or_false] at hm
        rcases hm with rfl | rfl | rfl | rfl <;> exact ⟨_, rfl⟩
      obtain ⟨z, rfl⟩ := iv
      refine ⟨_, rfl, _, _, _, _, rfl, .int z, kit_ii _, _, rfl, ?_⟩
      refine iteF ?_
      refine ⟨_, rfl, _, _, _, _, rfl, .int z, kit_ib _, _, rfl, ?_⟩
      refine iteF ?_
      exact ⟨rfl, _, rfl⟩
    · rintro σ H2 ⟨rfl, x1, rfl⟩
      refine ⟨_, rfl, x, _, _, _, rfl, rfl, tx _, rfl, _, _, rfl, rfl, ?_⟩
      refine ⟨_, rfl, ?_⟩
      refine iteP (decide_eq_true hx.r0) ?_
      refine ⟨_, rfl, x, _, _, _, rfl, rfl, tx _, rfl, _, _, rfl, rfl, ?_⟩
      have e : decide ((1 : Int) ≤ s') = true := decide_eq_true (by have := hx.s0; omega)
      show Q (.bl (decide ((1 : Int) ≤ s'))) H2
      rw [e]
      exact q
theorem sc__law_sign : FnScope ["_law_u", "_law_v", "_law_r", "_law_left", "_law_right", "_law_more"] ["_law_u", "_law_v", "_law_r"] (defScope st__law_sign) := ⟨rfl, rfl, rfl, by decide +kernel, rfl, by decide +kernel, by decide +kernel⟩
set_option maxHeartbeats 4000000 in
theorem ok__law_sign (h : Has K mg "_law_sign" st__law_sign ["_law_u", "_law_v", "_law_r"]) (B : Bl mg) : Ok P w K mg base 1 "_law_sign" ["_law_u", "_law_v", "_law_r"] sp__law_sign := by
  refine h.fn sc__law_sign (fun vs H Q E h => ?_) (fun f cdv A outer s H vs Q E hr h => ?_)
  · obtain ⟨u, v, r, rfl, _⟩ := h
    rfl
  · have hu16 := hu16_of hr
    have hu9 := hu9_of hr
    obtain ⟨u, v, r, rfl, hr0, bu, bv, br, q⟩ := h
    refine ⟨_, (pss_cons (ps_set (i := 3) sc__law_sign.nd rfl (Or.inl rfl) (pe_op (op_sub) (pe_callTy (call_intB) rfl B.int_ bt_int (pa_cons (pe_cmpR (op_gt) (pv 0) pe_int (nomark _)) pa_nil)) (pe_callTy (call_intB) rfl B.int_ bt_int (pa_cons (pe_cmpR (op_lt) (pv 0) pe_int (nomark _)) pa_nil))))
      (pss_cons (ps_set (i := 4) sc__law_sign.nd rfl (Or.inl rfl) (pe_op (op_sub) (pe_callTy (call_intB) rfl B.int_ bt_int (pa_cons (pe_cmpR (op_gt) (pv 1) pe_int (nomark _)) pa_nil)) (pe_callTy (call_intB) rfl B.int_ bt_int (pa_cons (pe_cmpR (op_lt) (pv 1) pe_int (nomark _)) pa_nil))))
      (pss_cons (ps_if (pt_cmpR (op_eq) (pv 2) pe_int (nomark _)) (pss_one (ps_set (i := 4) sc__law_sign.nd rfl (Or.inl rfl) pe_int)) pss_nil)
      (pss_cons (ps_if (pt_cmpR (op_ge) (pe_op (op_mulB) (pv 3) (pv 4)) pe_int (nomark _)) (pss_one (ps_ret (pe_callB (call_max2 rfl) rfl B.max_ bt_max (pa_cons (pe_un un_neg pe_int) (pa_cons (pe_callB (call_min2 rfl) rfl B.min_ bt_min (pa_cons pe_int (pa_cons (pe_op (op_add) (pv 3) (pv 4)) pa_nil))) pa_nil))))) pss_nil)
      (pss_cons (ps_set (i := 5) sc__law_sign.nd rfl (Or.inl rfl) (pe_op (op_sub) (pe_op (op_mulB) (pv 0) (pv 0)) (pe_op (op_mulB) (pe_op (op_mulB) (pv 1) (pv 1)) (pv 2))))
      (pss_cons (ps_if (pt_cmpR (op_lt) (pv 5) pe_int (nomark _)) (pss_one (ps_ret (pv 4))) pss_nil)
      (pss_one (ps_ret (pe_op (op_mulB) (pv 3) (pe_callTy (call_intB) rfl B.int_ bt_int (pa_cons (pe_cmpR (op_gt) (pv 5) pe_int (nomark _)) pa_nil))))))))))), ?_⟩
    refine ⟨_, rfl, _, _, rfl, rfl, _, rfl, _, rfl, _, _, rfl, rfl, _, rfl, _, _, rfl, rfl, ?_⟩
    refine ⟨_, rfl, _, _, rfl, rfl, _, rfl, _, rfl, _, _, rfl, rfl, _, rfl, _, _, rfl, rfl, ?_⟩
    dsimp only
    rw [M.two_ifs u, M.two_ifs v]
    refine ⟨_, rfl, rfl, _, rfl, ?_⟩
    refine ite2 (fun c => ?_) (fun c => ?_)
    · have hz : r = 0 := eqI c
      have hy : (0 : Int) = M.sgn (v * r) := by rw [hz, Int.mul_zero]; exact M.sgn_zero.symm
      refine ⟨_, rfl, _, rfl, _, _, rfl, rfl, .of_left (bits3 (M.sgn_three u)), _, _, rfl, rfl, _, rfl, ?_⟩
      refine ite2 (fun c => ?_) (fun c => ?_)
      · have c1 := of_decide_eq_true c
        refine ⟨_, rfl, _, rfl, _, rfl, _, _, rfl, rfl, _, _, rfl, _, _, rfl, ?_⟩
        have e := M.clamp_ok (M.sgn (u * u - v * v * r)) (M.sgn_three u) (M.sgn_three (v * r)) (by rw [← hy]; exact c1)
        rw [← hy] at e
        unfold M.sOne at q
        rw [← hy, ← e] at q
        exact q
      · have c0 := of_decide_eq_false (Bool.eq_false_iff.mpr c)
        have c1 : ¬ 0 ≤ M.sgn u * M.sgn (v * r) := by rw [← hy]; exact c0
        have e := M.unlike_ok (M.sgn (u * u - v * v * r)) (M.sgn_three u) (M.sgn_three (v * r)) c1
        unfold M.sOne at q
        rw [e] at q
        refine ⟨_, rfl, _, rfl, _, _, rfl, rfl, mulOk bu bu (by decide), _, rfl, _, rfl, _, _, rfl, rfl, mulOk bv bv (by decide), _, rfl, _, _, rfl, rfl, mulOk (bv.mul bv) br (by decide), _, _, rfl, rfl, ?_⟩
        refine ⟨_, rfl, _, _, rfl, rfl, _, rfl, ?_⟩
        refine ite2 (fun d => ?_) (fun d => ?_)
        · refine ⟨_, rfl, ?_⟩
          rw [M.sgn_neg (of_decide_eq_true d), ← M.unlike_neg (M.sgn_three u) (M.sgn_three (v * r)) c1, ← hy] at q
          exact q
        · have d1 : ¬ u * u - v * v * r < 0 := of_decide_eq_false (Bool.eq_false_iff.mpr d)
          refine ⟨_, rfl, _, rfl, _, _, rfl, rfl, _, rfl, _, _, rfl, rfl, .of_left (bits3 (M.sgn_three u)), ?_⟩
          rw [← M.pos_if _ d1] at q
          exact q
    · have hz : r ≠ 0 := neI c
      have hy : M.sgn v = M.sgn (v * r) := (M.sgn_mul_pos (by omega)).symm
      refine ⟨_, rfl, _, rfl, _, _, rfl, rfl, .of_left (bits3 (M.sgn_three u)), _, _, rfl, rfl, _, rfl, ?_⟩
      refine ite2 (fun c => ?_) (fun c => ?_)
      · have c1 := of_decide_eq_true c
        refine ⟨_, rfl, _, rfl, _, rfl, _, _, rfl, rfl, _, _, rfl, _, _, rfl, ?_⟩
        have e := M.clamp_ok (M.sgn (u * u - v * v * r)) (M.sgn_three u) (M.sgn_three (v * r)) (by rw [← hy]; exact c1)
        rw [← hy] at e
        unfold M.sOne at q
        rw [← hy, ← e] at q
        exact q
      · have c0 := of_decide_eq_false (Bool.eq_false_iff.mpr c)
        have c1 : ¬ 0 ≤ M.sgn u * M.sgn (v * r) := by rw [← hy]; exact c0
        have e := M.unlike_ok (M.sgn (u * u - v * v * r)) (M.sgn_three u) (M.sgn_three (v * r)) c1
        unfold M.sOne at q
        rw [e] at q
        refine ⟨_, rfl, _, rfl, _, _, rfl, rfl, mulOk bu bu (by decide), _, rfl, _, rfl, _, _, rfl, rfl, mulOk bv bv (by decide), _, rfl, _, _, rfl, rfl, mulOk (bv.mul bv) br (by decide), _, _, rfl, rfl, ?_⟩
        refine ⟨_, rfl, _, _, rfl, rfl, _, rfl, ?_⟩
        refine ite2 (fun d => ?_) (fun d => ?_)
        · refine ⟨_, rfl, ?_⟩
          rw [M.sgn_neg (of_decide_eq_true d), ← M.unlike_neg (M.sgn_three u) (M.sgn_three (v * r)) c1, ← hy] at q
          exact q
        · have d1 : ¬ u * u - v * v * r < 0 := of_decide_eq_false (Bool.eq_false_iff.mpr d)
          refine ⟨_, rfl, _, rfl, _, _, rfl, rfl, _, rfl, _, _, rfl, rfl, .of_left (bits3 (M.sgn_three u)), ?_⟩
          rw [← M.pos_if _ d1] at q
          exact q
theorem sc__law_sign_two : FnScope ["_law_u", "_law_v", "_law_r", "_law_w", "_law_t", "_law_left", "_law_right", "_law_more"] ["_law_u", "_law_v", "_law_r", "_law_w", "_law_t"] (defScope st__law_sign_two) := ⟨rfl, rfl, rfl, by decide +kernel, rfl, by decide +kernel, by decide +kernel⟩
set_option maxHeartbeats 4000000 in
theorem ok__law_sign_two (h : Has K mg "_law_sign_two" st__law_sign_two ["_law_u", "_law_v", "_law_r", "_law_w", "_law_t"]) (B : Bl mg) (F_law_sign : Ok P w K mg base 1 "_law_sign" ["_law_u", "_law_v", "_law_r"] sp__law_sign) : Ok P w K mg base 2 "_law_sign_two" ["_law_u", "_law_v", "_law_r", "_law_w", "_law_t"] sp__law_sign_two := by
  refine h.fn sc__law_sign_two (fun vs H Q E h => ?_) (fun f cdv A outer s H vs Q E hr h => ?_)
  · obtain ⟨u, v, r, w, t, rfl, _⟩ := h
    rfl
  · have hu16 := hu16_of hr
    have hu9 := hu9_of hr
    obtain ⟨u, v, r, w, t, rfl, hr0, ht0, bu, bv, br, bw, bt, q⟩ := h
    refine ⟨_, (pss_cons (ps_set (i := 5) sc__law_sign_two.nd rfl (Or.inl rfl) (pe_callN F_law_sign (hr.mono (by decide)) rfl (pa_cons (pv 0) (pa_cons (pv 1) (pa_cons (pv 2) pa_nil)))))
      (pss_cons (ps_set (i := 6) sc__law_sign_two.nd rfl (Or.inl rfl) (pe_op (op_sub) (pe_callTy (call_intB) rfl B.int_ bt_int (pa_cons (pe_cmpR (op_gt) (pv 3) pe_int (nomark _)) pa_nil)) (pe_callTy (call_intB) rfl B.int_ bt_int (pa_cons (pe_cmpR (op_lt) (pv 3) pe_int (nomark _)) pa_nil))))
      (pss_cons (ps_if (pt_cmpR (op_eq) (pv 4) pe_int (nomark _)) (pss_one (ps_set (i := 6) sc__law_sign_two.nd rfl (Or.inl rfl) pe_int)) pss_nil)
      (pss_cons (ps_if (pt_cmpR (op_ge) (pe_op (op_mulB) (pv 5) (pv 6)) pe_int (nomark _)) (pss_one (ps_ret (pe_callB (call_max2 rfl) rfl B.max_ bt_max (pa_cons (pe_un un_neg pe_int) (pa_cons (pe_callB (call_min2 rfl) rfl B.min_ bt_min (pa_cons pe_int (pa_cons (pe_op (op_add) (pv 5) (pv 6)) pa_nil))) pa_nil))))) pss_nil)
      (pss_cons (ps_set (i := 7) sc__law_sign_two.nd rfl (Or.inl rfl) (pe_op (op_sub) (pe_op (op_add) (pe_op (op_mulB) (pv 0) (pv 0)) (pe_op (op_mulB) (pe_op (op_mulB) (pv 1) (pv 1)) (pv 2))) (pe_op (op_mulB) (pe_op (op_mulB) (pv 3) (pv 3)) (pv 4))))
      (pss_one (ps_ret (pe_op (op_mulB) (pv 5) (pe_callN F_law_sign (hr.mono (by decide)) rfl (pa_cons (pv 7) (pa_cons (pe_op (op_mulB) (pe_op (op_mulB) pe_int (pv 0)) (pv 1)) (pa_cons (pv 2) pa_nil)))))))))))), ?_⟩
    have b2 : Bits 64 (2 : Int) := bits_of (by decide +kernel)
    refine ⟨_, rfl, _, rfl, _, rfl, _, _, _, rfl, hr0, bu.mono (by decide), bv.mono (by decide), br.mono (by decide), ?_⟩
    refine ⟨_, rfl, _, _, rfl, rfl, _, rfl, _, rfl, _, _, rfl, rfl, _, rfl, _, _, rfl, rfl, ?_⟩
    dsimp only
    rw [M.two_ifs w]
    refine ⟨_, rfl, rfl, _, rfl, ?_⟩
    refine ite2 (fun c => ?_) (fun c => ?_)
    · have hz : t = 0 := eqI c
      have hy : (0 : Int) = M.sgn (w * t) := by rw [hz, Int.mul_zero]; exact M.sgn_zero.symm
      refine ⟨_, rfl, _, rfl, _, _, rfl, rfl, .of_left (bits3 (M.sOne_three u v r)), _, _, rfl, rfl, _, rfl, ?_⟩
      refine ite2 (fun c => ?_) (fun c => ?_)
      · have c1 := of_decide_eq_true c
        refine ⟨_, rfl, _, rfl, _, rfl, _, _, rfl, rfl, _, _, rfl, _, _, rfl, ?_⟩
        have e := M.clamp_ok (M.sOne (u * u + v * v * r - w * w * t) (2 * u * v) r) (M.sOne_three u v r) (M.sgn_three (w * t)) (by rw [← hy]; exact c1)
        rw [← hy] at e
        unfold M.sTwo at q
        rw [← hy, ← e] at q
        exact q
      · have c0 := of_decide_eq_false (Bool.eq_false_iff.mpr c)
        have c1 : ¬ 0 ≤ M.sOne u v r * M.sgn (w * t) := by rw [← hy]; exact c0
        have e := M.unlike_ok (M.sOne (u * u + v * v * r - w * w * t) (2 * u * v) r) (M.sOne_three u v r) (M.sgn_three (w * t)) c1
        unfold M.sTwo at q
        rw [e] at q
        refine ⟨_, rfl, _, rfl, _, _, rfl, rfl, mulOk bu bu (by decide), _, rfl, _, rfl, _, _, rfl, rfl, mulOk bv bv (by decide), _, rfl, _, _, rfl, rfl, mulOk (bv.mul bv) br (by decide), _, _, rfl, rfl, _, rfl, _, rfl, _, _, rfl, rfl, mulOk bw bw (by decide), _, rfl, _, _, rfl, rfl, mulOk (bw.mul bw) bt (by decide), _, _, rfl, rfl, ?_⟩
        refine ⟨_, rfl, _, rfl, _, rfl, _, _, rfl, rfl, .of_left b2, _, rfl, _, _, rfl, rfl, mulOk (b2.mul bu) bv (by decide), _, rfl, _, _, _, rfl, hr0, bits_apart bu bv br bw bt, bits_twice bu bv, br.mono (by decide), ?_⟩
        exact ⟨_, _, rfl, rfl, .of_left (bits3 (M.sOne_three u v r)), q⟩
    · have hz : t ≠ 0 := neI c
      have hy : M.sgn w = M.sgn (w * t) := (M.sgn_mul_pos (by omega)).symm
      refine ⟨_, rfl, _, rfl, _, _, rfl, rfl, .of_left (bits3 (M.sOne_three u v r)), _, _, rfl, rfl, _, rfl, ?_⟩
      refine ite2 (fun c => ?_) (fun c => ?_)
      · have c1 := of_decide_eq_true c
        refine ⟨_, rfl, _, rfl, _, rfl, _, _, rfl, rfl, _, _, rfl, _, _, rfl, ?_⟩
        have e := M.clamp_ok (M.sOne (u * u + v * v * r - w * w * t) (2 * u * v) r) (M.sOne_three u v r) (M.sgn_three (w * t)) (by rw [← hy]; exact c1)
        rw [← hy] at e
        unfold M.sTwo at q
        rw [← hy, ← e] at q
        exact q
      · have c0 := of_decide_eq_false (Bool.eq_false_iff.mpr c)
        have c1 : ¬ 0 ≤ M.sOne u v r * M.sgn (w * t) := by rw [← hy]; exact c0
        have e := M.unlike_ok (M.sOne (u * u + v * v * r - w * w * t) (2 * u * v) r) (M.sOne_three u v r) (M.sgn_three (w * t)) c1
        unfold M.sTwo at q
        rw [e] at q
        refine ⟨_, rfl, _, rfl, _, _, rfl, rfl, mulOk bu bu (by decide), _, rfl, _, rfl, _, _, rfl, rfl, mulOk bv bv (by decide), _, rfl, _, _, rfl, rfl, mulOk (bv.mul bv) br (by decide), _, _, rfl, rfl, _, rfl, _, rfl, _, _, rfl, rfl, mulOk bw bw (by decide), _, rfl, _, _, rfl, rfl, mulOk (bw.mul bw) bt (by decide), _, _, rfl, rfl, ?_⟩
        refine ⟨_, rfl, _, rfl, _, rfl, _, _, rfl, rfl, .of_left b2, _, rfl, _, _, rfl, rfl, mulOk (b2.mul bu) bv (by decide), _, rfl, _, _, _, rfl, hr0, bits_apart bu bv br bw bt, bits_twice bu bv, br.mono (by decide), ?_⟩
        exact ⟨_, _, rfl, rfl, .of_left (bits3 (M.sOne_three u v r)), q⟩
theorem sc__law_order : FnScope ["_law_one", "_law_other", "_law_p", "_law_q", "_law_r", "_law_s", "_law_a", "_law_b", "_law_t", "_law_d"] ["_law_one", "_law_other"] (defScope st__law_order) := ⟨rfl, rfl, rfl, by decide +kernel, rfl, by decide +kernel, by decide +kernel⟩
set_option maxHeartbeats 4000000 in
theorem ok__law_order (h : Has K mg "_law_order" st__law_order ["_law_one", "_law_other"]) (B : Bl mg) (F_law_sign_two : Ok P w K mg base 2 "_law_sign_two" ["_law_u", "_law_v", "_law_r", "_law_w", "_law_t"] sp__law_sign_two) : Ok P w K mg base 3 "_law_order" ["_law_one", "_law_other"] sp__law_order := by
  refine h.fn sc__law_order (fun vs H Q E h => ?_) (fun f cdv A outer s H vs Q E hr h => ?_)
  · obtain ⟨x, y, p, q', r, s, a, b, t, d, rfl, _⟩ := h
    rfl
  · have hu16 := hu16_of hr
    have hu9 := hu9_of hr
    obtain ⟨x, y, p, q', r, s', a, b, t, d, rfl, hx, hy, q⟩ := h
    refine ⟨_, (pss_cons (ps_asg (pv 0) (pg_tup rfl (pgs_cons (pg_name (i := 2) sc__law_order.nd rfl (Or.inl rfl)) (pgs_cons (pg_name (i := 3) sc__law_order.nd rfl (Or.inl rfl)) (pgs_cons (pg_name (i := 4) sc__law_order.nd rfl (Or.inl rfl)) (pgs_cons (pg_name (i := 5) sc__law_order.nd rfl (Or.inl rfl)) pgs_nil))))))
      (pss_cons (ps_asg (pv 1) (pg_tup rfl (pgs_cons (pg_name (i := 6) sc__law_order.nd rfl (Or.inl rfl)) (pgs_cons (pg_name (i := 7) sc__law_order.nd rfl (Or.inl rfl)) (pgs_cons (pg_name (i := 8) sc__law_order.nd rfl (Or.inl rfl)) (pgs_cons (pg_name (i := 9) sc__law_order.nd rfl (Or.inl rfl)) pgs_nil))))))
      (pss_one (ps_ret (pe_callN F_law_sign_two (hr.mono (by decide)) rfl (pa_cons (pe_op (op_sub) (pe_op (op_mulB) (pv 2) (pv 9)) (pe_op (op_mulB) (pv 6) (pv 5))) (pa_cons (pe_op (op_mulB) (pv 3) (pv 9)) (pa_cons (pv 4) (pa_cons (pe_op (op_sub) pe_int (pe_op (op_mulB) (pv 7) (pv 5))) (pa_cons (pv 8) pa_nil)))))))))), ?_⟩
    refine ⟨_, rfl, x, _, rfl, SqT.of hx.at_, rfl, _, _, rfl, _, _, rfl, _, _, rfl, _, _, rfl, rfl, ?_⟩
    refine ⟨_, rfl, y, _, rfl, SqT.of hy.at_, rfl, _, _, rfl, _, _, rfl, _, _, rfl, _, _, rfl, rfl, ?_⟩
    refine ⟨_, rfl, _, rfl, _, _, rfl, rfl, mulOk hx.bp hy.bs (by decide), _, rfl, _, rfl, _, _, rfl, rfl, mulOk hy.bp hx.bs (by decide), _, _, rfl, rfl, _, rfl, _, rfl, _, _, rfl, rfl, mulOk hx.bq hy.bs (by decide), _, rfl, _, rfl, _, rfl, _, _, rfl, rfl, mulOk hy.bq hx.bs (by decide), _, _, rfl, rfl, _, rfl, ?_⟩
    have e : (0 : Int) - b * s' = -b * s' := by rw [Int.zero_sub, Int.neg_mul]
    rw [← e] at q
    exact ⟨_, _, _, _, _, rfl, hx.r0, hy.r0, ((hx.bp.mul hy.bs).sub (hy.bp.mul hx.bs)).mono (by decide), (hx.bq.mul hy.bs).mono (by decide), hx.br.mono (by decide), (((bits_of (m := 64) (x := 0) (by decide)).sub (hy.bq.mul hx.bs))).mono (by decide), hy.br.mono (by decide), q⟩
theorem sc_floor_of_root : FnScope ["number", "guess", "rest"] ["number"] (defScope st_floor_of_root) := ⟨rfl, rfl, rfl, by decide +kernel, rfl, by decide +kernel, by decide +kernel⟩
set_option maxHeartbeats 4000000 in
theorem ok_floor_of_root (h : Has K mg "floor_of_root" st_floor_of_root ["number"]) (B : Bl mg) : Ok P w K mg base 1 "floor_of_root" ["number"] sp_floor_of_root := by
  refine h.fn sc_floor_of_root (fun vs H Q E h => ?_) (fun f cdv A outer s H vs Q E hr h => ?_)
  · obtain ⟨n, rfl, _⟩ := h
    rfl
  · have hu16 := hu16_of hr
    have hu9 := hu9_of hr
    obtain ⟨n, rfl, n0, bn, q⟩ := h
    refine ⟨_, (pss_cons (ps_set (i := 1) sc_floor_of_root.nd rfl (Or.inl rfl) pe_int)
      (pss_cons (ps_set (i := 2) sc_floor_of_root.nd rfl (Or.inl rfl) (pv 0))
      (pss_cons (ps_while PassesOwn.never (pt_cmpR (op_gt) (pv 2) pe_int (nomark _)) (pss_cons (ps_set (i := 2) sc_floor_of_root.nd rfl (Or.inl rfl) (pe_op (op_fdivB) (pv 2) pe_int))
      (pss_one (ps_set (i := 1) sc_floor_of_root.nd rfl (Or.inl rfl) (pe_op (op_mulB) (pv 1) pe_int)))))
      (pss_cons (ps_while PassesOwn.never (pt_cmpR (op_gt) (pe_op (op_mulB) (pv 1) (pv 1)) (pv 0) (nomark _)) (pss_one (ps_set (i := 1) sc_floor_of_root.nd rfl (Or.inl rfl) (pe_op (op_fdivB) (pe_op (op_add) (pv 1) (pe_op (op_fdivB) (pv 0) (pv 1))) pe_int))))
      (pss_one (ps_ret (pv 1))))))), ?_⟩
    refine ⟨_, rfl, ?_⟩
    refine ⟨fun m σ H2 => ∃ g t : Int, σ = [some (.int n), some (.int g), some (.int t)] ∧ H2 = H ∧ m = t.toNat ∧ 0 < g ∧ 0 ≤ t ∧ n < (t + 1) * (g * g) ∧ t * (g * g) ≤ n ∧ (g = 1 ∨ g * g ≤ 4 * n), ⟨_, 1, n, rfl, rfl, rfl, by decide, n0, by omega, by omega, .inl rfl⟩, ?_⟩
    rintro m σ H2 ⟨g, t, rfl, rfl, rfl, g0, t0, h1, h2, h3⟩
    refine ⟨_, rfl, _, _, rfl, rfl, _, rfl, ?_⟩
    refine ite2 (fun c => ?_) (fun c => ?_)
    · have c1 : 0 < t := of_decide_eq_true c
      refine ⟨fun σ' H' => σ' = [some (.int n), some (.int (g * 2)), some (.int (t / 4))] ∧ H' = H2, ?_, ?_⟩
      · rintro σ' H' ⟨rfl, rfl⟩
        refine ⟨(t / 4).toNat, by omega, g * 2, t / 4, rfl, rfl, rfl, by omega, by omega, M.grow t0 h1, ?_, .inr ?_⟩
        · exact M.grow_le g0 t0 h2
        · exact M.grow_sq g0 c1 h2
      · exact ⟨_, rfl, _, _, rfl, rfl, ⟨by decide, bits_of (by decide +kernel)⟩, _, rfl, _, _, rfl, rfl, .of_right (bits_of (m := 64) (by decide +kernel)), rfl, rfl⟩
    · have c1 : ¬ 0 < t := of_decide_eq_false (Bool.eq_false_iff.mpr c)
      obtain rfl : t = 0 := by omega
      have h4 : n < g * g := by simpa using h1
      have bg : Bits 8010 g := by
        rcases h3 with rfl | h3
        · exact bits_of (by decide +kernel)
        · have b4 : Bits (8010 + 8010) (4 * n) := by
            refine bits_of ?_
            have := bn.lt
            have e : 2 ^ (8010 + 8010) = 2 ^ 16000 * 2 ^ 20 := Nat.pow_add 2 16000 20
            rw [e]
            generalize 2 ^ 16000 = z at *
            omega
          exact bits_root (by omega) h3 b4
      refine ⟨fun m σ H3 => ∃ g : Int, σ = [some (.int n), some (.int g), some (.int 0)] ∧ H3 = H2 ∧ m = g.toNat ∧ 0 ≤ g ∧ n < (g + 1) * (g + 1) ∧ Bits 8010 g, ⟨_, g, rfl, rfl, rfl, by omega, M.lt_next g0 h4, bg⟩, ?_⟩
      rintro m σ H3 ⟨g, rfl, rfl, rfl, g0, h1, bg⟩
      refine ⟨_, rfl, _, rfl, _, _, rfl, rfl, mulOk bg bg (by decide), _, rfl, _, _, rfl, rfl, _, rfl, ?_⟩
      refine ite2 (fun c => ?_) (fun c => ?_)
      · have c1 : n < g * g := of_decide_eq_true c
        have gp : 0 < g := by
          rcases Int.lt_or_eq_of_le g0 with z | z
          · exact z
          · subst z; simp at c1; omega
        obtain ⟨w1, w2, w3⟩ := M.newton gp n0 c1
        refine ⟨fun σ' H' => σ' = [some (.int n), some (.int ((g + n / g) / 2)), some (.int 0)] ∧ H' = H3, ?_, ?_⟩
        · rintro σ' H' ⟨rfl, rfl⟩
          exact ⟨((g + n / g) / 2).toNat, by omega, _, rfl, rfl, rfl, w3, w1, bg.abs (by omega)⟩
        · exact ⟨_, rfl, _, rfl, _, rfl, _, _, rfl, rfl, ⟨gp, bg.mono (by decide)⟩, _, _, rfl, rfl, _, _, rfl, rfl, ⟨by decide, bits_of (by decide +kernel)⟩, rfl, rfl⟩
      · have c1 : ¬ n < g * g := of_decide_eq_false (Bool.eq_false_iff.mpr c)
        refine ⟨_, rfl, ?_⟩
        exact q g ⟨g0, by omega, h1⟩
theorem sc_floor_of_root_part : FnScope ["q", "r", "square", "root"] ["q", "r"] (defScope st_floor_of_root_part) := ⟨rfl, rfl, rfl, by decide +kernel, rfl, by decide +kernel, by decide +kernel⟩
set_option maxHeartbeats 4000000 in
theorem ok_floor_of_root_part (h : Has K mg "floor_of_root_part" st_floor_of_root_part ["q", "r"]) (B : Bl mg) (Ffloor_of_root : Ok P w K mg base 1 "floor_of_root" ["number"] sp_floor_of_root) : Ok P w K mg base 2 "floor_of_root_part" ["q", "r"] sp_floor_of_root_part := by
  refine h.fn sc_floor_of_root_part (fun vs H Q E h => ?_) (fun f cdv A outer s H vs Q E hr h => ?_)
  · obtain ⟨q', r, rfl, _⟩ := h
    rfl
  · have hu16 := hu16_of hr
    have hu9 := hu9_of hr
    obtain ⟨q', r, rfl, r0, bq, br, q⟩ := h
    refine ⟨_, (pss_cons (ps_set (i := 2) sc_floor_of_root_part.nd rfl (Or.inl rfl) (pe_op (op_mulB) (pe_op (op_mulB) (pv 0) (pv 0)) (pv 1)))
      (pss_cons (ps_set (i := 3) sc_floor_of_root_part.nd rfl (Or.inl rfl) (pe_callN Ffloor_of_root (hr.mono (by decide)) rfl (pa_cons (pv 2) pa_nil)))
      (pss_cons (ps_if (pt_cmpR (op_ge) (pv 0) pe_int (nomark _)) (pss_one (ps_ret (pv 3))) pss_nil)
      (pss_cons (ps_if (pt_cmpR (op_eq) (pe_op (op_mulB) (pv 3) (pv 3)) (pv 2) (nomark _)) (pss_one (ps_ret (pe_un un_neg (pv 3)))) pss_nil)
      (pss_one (ps_ret (pe_op (op_sub) (pe_un un_neg (pv 3)) pe_int))))))), ?_⟩
    refine ⟨_, rfl, _, rfl, _, _, rfl, rfl, mulOk bq bq (by decide), _, rfl, _, _, rfl, rfl, mulOk (bq.mul bq) br (by decide), ?_⟩
    have bn : Bits 16000 (q' * q' * r) := ((bq.mul bq).mul br).mono (by decide)
    refine ⟨_, rfl, _, rfl, Int.mul_nonneg (M.sq_nonneg q') r0, bn, fun g hg => ?_⟩
    obtain ⟨g0, g1, g2⟩ := id hg
    have bg : Bits 8000 g := bits_root g0 g1 bn
    refine ⟨_, rfl, _, _, rfl, rfl, _, rfl, ?_⟩
    refine ite2 (fun c => ?_) (fun c => ?_)
    · have c1 : 0 ≤ q' := of_decide_eq_true c
      refine ⟨_, rfl, ?_⟩
      exact q g ⟨g, hg, .inl ⟨c1, rfl⟩⟩
    · have c1 : ¬ 0 ≤ q' := of_decide_eq_false (Bool.eq_false_iff.mpr c)
      refine ⟨_, rfl, _, rfl, _, _, rfl, rfl, mulOk bg bg (by decide), _, rfl, rfl, _, rfl, ?_⟩
      refine ite2 (fun d => ?_) (fun d => ?_)
      · refine ⟨_, rfl, _, rfl, ?_⟩
        exact q (-g) ⟨g, hg, .inr (.inl ⟨by omega, eqI d, rfl⟩)⟩
      · refine ⟨_, rfl, _, rfl, _, _, rfl, rfl, ?_⟩
        exact q (-g - 1) ⟨g, hg, .inr (.inr ⟨by omega, neI d, rfl⟩)⟩
theorem sc_floor_of : FnScope ["N"] ["N"] (defScope st_floor_of) := ⟨rfl, rfl, rfl, by decide +kernel, rfl, by decide +kernel, by decide +kernel⟩
set_option maxHeartbeats 4000000 in
theorem ok_floor_of (h : Has K mg "floor_of" st_floor_of ["N"]) (B : Bl mg) (Ffloor_of_root_part : Ok P w K mg base 2 "floor_of_root_part" ["q", "r"] sp_floor_of_root_part) : Ok P w K mg base 3 "floor_of" ["N"] sp_floor_of := by
  refine h.fn sc_floor_of (fun vs H Q E h => ?_) (fun f cdv A outer s H vs Q E hr h => ?_)
  · obtain ⟨x, p, q', r, s', rfl, _⟩ := h
    rfl
  · have hu16 := hu16_of hr
    have hu9 := hu9_of hr
    obtain ⟨x, p, q', r, s', rfl, hx, q⟩ := h
    have tx : ∀ K, SqT K H x _ := fun K => SqT.of hx.at_
    refine ⟨_, (pss_one (ps_ret (pe_op (op_fdivB) (pe_op (op_add) (pe_ix ix_tup (pv 0) pe_int (fun _ _ => rfl)) (pe_callN Ffloor_of_root_part (hr.mono (by decide)) rfl (pa_cons (pe_ix ix_tup (pv 0) pe_int (fun _ _ => rfl)) (pa_cons (pe_ix ix_tup (pv 0) pe_int (fun _ _ => rfl)) pa_nil)))) (pe_ix ix_tup (pv 0) pe_int (fun _ _ => rfl))))), ?_⟩
    refine ⟨_, rfl, x, _, _, _, rfl, rfl, tx _, rfl, _, rfl, x, _, _, _, rfl, rfl, tx _, rfl, _, rfl, x, _, _, _, rfl, rfl, tx _, rfl, _, _, rfl, hx.r0, hx.bq.mono (by decide), hx.br.mono (by decide), fun G hG => ?_⟩
    refine ⟨_, _, rfl, rfl, _, rfl, x, _, _, _, rfl, rfl, tx _, rfl, _, _, rfl, rfl, ⟨hx.s0, hx.bs.mono (by decide)⟩, ?_⟩
    obtain ⟨k1, k2⟩ := M.floor_ok (p := p) hx.r0 hx.s0 hG
    exact q _ k1 k2 fun m k bp bq br => bits_div ((bp.add (bits_part hG bq br)).mono (by omega)) hx.s0
theorem sc_next_above : FnScope ["number", "parts"] ["number", "parts"] (defScope st_next_above) := ⟨rfl, rfl, rfl, by decide +kernel, rfl, by decide +kernel, by decide +kernel⟩
set_option maxHeartbeats 4000000 in
theorem ok_next_above (h : Has K mg "next_above" st_next_above ["number", "parts"]) (B : Bl mg) (Ffloor_of : Ok P w K mg base 3 "floor_of" ["N"] sp_floor_of) : Ok P w K mg base 4 "next_above" ["number", "parts"] sp_next_above := by
  refine h.fn sc_next_above (fun vs H Q E h => ?_) (fun f cdv A outer s H vs Q E hr h => ?_)
  · obtain ⟨x, p, q', r, s', n, rfl, _⟩ := h
    rfl
  · have hu16 := hu16_of hr
    have hu9 := hu9_of hr
    obtain ⟨x, p, q', r, s', n, rfl, hx, n0, bn, q⟩ := h
    have tx : ∀ K, SqT K H x _ := fun K => SqT.of hx.at_
    refine ⟨_, (pss_one (ps_ret (pe_tup (pa_cons (pe_op (op_add) (pe_callN Ffloor_of (hr.mono (by decide)) rfl (pa_cons (pe_tup (pa_cons (pe_op (op_mulB) (pe_ix ix_tup (pv 0) pe_int (fun _ _ => rfl)) (pv 1)) (pa_cons (pe_op (op_mulB) (pe_ix ix_tup (pv 0) pe_int (fun _ _ => rfl)) (pv 1)) (pa_cons (pe_ix ix_tup (pv 0) pe_int (fun _ _ => rfl)) (pa_cons (pe_ix ix_tup (pv 0) pe_int (fun _ _ => rfl)) pa_nil))))) pa_nil)) pe_int) (pa_cons pe_int (pa_cons pe_int (pa_cons (pv 1) pa_nil))))))), ?_⟩
    refine ⟨_, rfl, x, _, _, _, rfl, rfl, tx _, rfl, _, rfl, _, _, rfl, rfl, mulOk hx.bp bn (by decide), _, rfl, x, _, _, _, rfl, rfl, tx _, rfl, _, rfl, _, _, rfl, rfl, mulOk hx.bq bn (by decide), _, rfl, x, _, _, _, rfl, rfl, tx _, rfl, _, rfl, x, _, _, _, rfl, rfl, tx _, rfl, small10 (by show 4 ≤ 1000; decide), fun y hy => ?_⟩
    have bp : Bits 4300 (p * n) := (hx.bp.mul bn).mono (by decide)
    have bq : Bits 4300 (q' * n) := (hx.bq.mul bn).mono (by decide)
    refine ⟨y, p * n, q' * n, r, s', rfl, ⟨upd_same, bp.mono (by decide), bq.mono (by decide), hx.br.mono (by decide), hx.bs.mono (by decide), hx.r0, hx.s0⟩, fun f f1 f2 bf => ?_⟩
    have b1 : Bits 64 (1 : Int) := bits_of (by decide +kernel)
    have b0 : Bits 64 (0 : Int) := bits_of (by decide +kernel)
    refine ⟨_, _, rfl, rfl, _, rfl, small10 (by show 4 ≤ 1000; decide), fun z hz => ?_⟩
    exact q z f _ ((same_new hy _).trans (same_new hz _)) f1 f2 ⟨upd_same, ((bf 4300 400 bp bq hx.br).add b1).mono (by decide), b0.mono (by decide), b0.mono (by decide), bn.mono (by decide), by decide, n0⟩
theorem sc_sign : FnScope ["number"] ["number"] (defScope st_sign) := ⟨rfl, rfl, rfl, by decide +kernel, rfl, by decide +kernel, by decide +kernel⟩
set_option maxHeartbeats 4000000 in
theorem ok_sign (h : Has K mg "sign" st_sign ["number"]) (B : Bl mg) : Ok P w K mg base 1 "sign" ["number"] sp_sign := by
  refine h.fn sc_sign (fun vs H Q E h => ?_) (fun f cdv A outer s H vs Q E hr h => ?_)
  · obtain ⟨n, rfl, _⟩ := h
    rfl
  · have hu16 := hu16_of hr
    have hu9 := hu9_of hr
    obtain ⟨n, rfl, q⟩ := h
    refine ⟨_, (pss_cons (ps_if (pt_cmpR (op_gt) (pv 0) pe_int (nomark _)) (pss_one (ps_ret pe_int)) pss_nil)
      (pss_cons (ps_if (pt_cmpR (op_lt) (pv 0) pe_int (nomark _)) (pss_one (ps_ret (pe_un un_neg pe_int))) pss_nil)
      (pss_one (ps_ret pe_int)))), ?_⟩
    unfold sg at q
    refine ⟨_, rfl, _, _, rfl, rfl, _, rfl, ?_⟩
    refine ite2 (fun c => ?_) (fun c => ?_)
    · rw [if_pos (of_decide_eq_true c)] at q
      exact q
    · rw [if_neg (fun z => c (decide_eq_true z))] at q
      refine ⟨_, rfl, _, _, rfl, rfl, _, rfl, ?_⟩
      refine ite2 (fun c => ?_) (fun c => ?_)
      · rw [if_pos (of_decide_eq_true c)] at q
        exact ⟨_, rfl, q⟩
      · rw [if_neg (fun z => c (decide_eq_true z))] at q
        exact q
theorem sc_sign_of_sum : FnScope ["one", "other", "apart"] ["one", "other", "apart"] (defScope st_sign_of_sum) := ⟨rfl, rfl, rfl, by decide +kernel, rfl, by decide +kernel, by decide +kernel⟩
set_option maxHeartbeats 4000000 in
theorem ok_sign_of_sum (h : Has K mg "sign_of_sum" st_sign_of_sum ["one", "other", "apart"]) (B : Bl mg) : Ok P w K mg base 1 "sign_of_sum" ["one", "other", "apart"] sp_sign_of_sum := by
  refine h.fn sc_sign_of_sum (fun vs H Q E h => ?_) (fun f cdv A outer s H vs Q E hr h => ?_)
  · obtain ⟨o, t, a, rfl, _⟩ := h
    rfl
  · have hu16 := hu16_of hr
    have hu9 := hu9_of hr
    obtain ⟨o, t, a, rfl, bo, ba, q⟩ := h
    refine ⟨_, (pss_cons (ps_if (pt_cmpR (op_eq) (pv 0) pe_int (nomark _)) (pss_one (ps_ret (pv 1))) pss_nil)
      (pss_cons (ps_if (PW.pt (pw_or (pt_cmpR (op_eq) (pv 1) pe_int (nomark _)) (pw_or1 (pt_cmpR (op_eq) (pv 0) (pv 1) (nomark _))))) (pss_one (ps_ret (pv 0))) pss_nil)
      (pss_one (ps_ret (pe_op (op_mulB) (pv 0) (pv 2)))))), ?_⟩
    unfold sos at q
    have ne : ∀ {i j : Int}, ¬ (decide (V.int i = V.int j)) = true → i ≠ j := fun c z => c (decide_eq_true (congrArg V.int z))
    have eq : ∀ {i j : Int}, (decide (V.int i = V.int j)) = true → i = j := fun c => V.int.inj (of_decide_eq_true c)
    refine ⟨_, rfl, rfl, _, rfl, ?_⟩
    refine ite2 (fun c => ?_) (fun c => ?_)
    · rw [if_pos (eq c)] at q
      exact ⟨_, rfl, q⟩
    · rw [if_neg (ne c)] at q
      refine ⟨_, rfl, rfl, _, rfl, ?_⟩
      refine ite2 (fun c => ?_) (fun c => ?_)
      · rw [if_pos (.inl (eq c))] at q
        exact ⟨_, rfl, q⟩
      · refine ⟨_, rfl, _, rfl, rfl, _, rfl, ?_⟩
        refine ite2 (fun c2 => ?_) (fun c2 => ?_)
        · rw [if_pos (.inr (eq c2))] at q
          exact ⟨_, rfl, q⟩
        · rw [if_neg (fun z => z.elim (ne c) (ne c2))] at q
          exact ⟨_, rfl, _, rfl, _, _, rfl, rfl, mulOk bo ba (by decide), q⟩
theorem sc_sign_one : FnScope ["u", "v", "r"] ["u", "v", "r"] (defScope st_sign_one) := ⟨rfl, rfl, rfl, by decide +kernel, rfl, by decide +kernel, by decide +kernel⟩
set_option maxHeartbeats 4000000 in
theorem ok_sign_one (h : Has K mg "sign_one" st_sign_one ["u", "v", "r"]) (B : Bl mg) (Fsign : Ok P w K mg base 1 "sign" ["number"] sp_sign) (Fsign_of_sum : Ok P w K mg base 1 "sign_of_sum" ["one", "other", "apart"] sp_sign_of_sum) : Ok P w K mg base 2 "sign_one" ["u", "v", "r"] sp_sign_one := by
  refine h.fn sc_sign_one (fun vs H Q E h => ?_) (fun f cdv A outer s H vs Q E hr h => ?_)
  · obtain ⟨u, v, r, rfl, _⟩ := h
    rfl
  · have hu16 := hu16_of hr
    have hu9 := hu9_of hr
    obtain ⟨u, v, r, rfl, bu, bv, br, q⟩ := h
    refine ⟨_, (pss_one (ps_ret (pe_callN Fsign_of_sum (hr.mono (by decide)) rfl (pa_cons (pe_callN Fsign (hr.mono (by decide)) rfl (pa_cons (pv 0) pa_nil)) (pa_cons (pe_callN Fsign (hr.mono (by decide)) rfl (pa_cons (pe_op (op_mulB) (pv 1) (pv 2)) pa_nil)) (pa_cons (pe_callN Fsign (hr.mono (by decide)) rfl (pa_cons (pe_op (op_sub) (pe_op (op_mulB) (pv 0) (pv 0)) (pe_op (op_mulB) (pe_op (op_mulB) (pv 1) (pv 1)) (pv 2))) pa_nil)) pa_nil)))))), ?_⟩
    refine ⟨_, rfl, _, rfl, _, rfl, _, rfl, _, _, rfl, rfl, mulOk bv br (by decide), _, rfl, ?_⟩
    refine ⟨_, rfl, _, rfl, _, _, rfl, rfl, mulOk bu bu (by decide), _, rfl, _, rfl, _, _, rfl, rfl, mulOk bv bv (by decide), _, rfl, _, _, rfl, rfl, mulOk (bv.mul bv) br (by decide), _, _, rfl, rfl, _, rfl, ?_⟩
    exact ⟨_, _, _, rfl, sg_bits _, sg_bits _, q⟩
theorem sc_sign_two : FnScope ["u", "v", "r", "w", "t", "apart"] ["u", "v", "r", "w", "t"] (defScope st_sign_two) := ⟨rfl, rfl, rfl, by decide +kernel, rfl, by decide +kernel, by decide +kernel⟩
set_option maxHeartbeats 4000000 in
theorem ok_sign_two (h : Has K mg "sign_two" st_sign_two ["u", "v", "r", "w", "t"]) (B : Bl mg) (Fsign : Ok P w K mg base 1 "sign" ["number"] sp_sign) (Fsign_of_sum : Ok P w K mg base 1 "sign_of_sum" ["one", "other", "apart"] sp_sign_of_sum) (Fsign_one : Ok P w K mg base 2 "sign_one" ["u", "v", "r"] sp_sign_one) : Ok P w K mg base 3 "sign_two" ["u", "v", "r", "w", "t"] sp_sign_two := by
  refine h.fn sc_sign_two (fun vs H Q E h => ?_) (fun f cdv A outer s H vs Q E hr h => ?_)
  · obtain ⟨u, v, r, w, t, rfl, _⟩ := h
    rfl
  · have hu16 := hu16_of hr
    have hu9 := hu9_of hr
    obtain ⟨u, v, r, w, t, rfl, bu, bv, br, bw, bt, q⟩ := h
    refine ⟨_, (pss_cons (ps_set (i := 5) sc_sign_two.nd rfl (Or.inl rfl) (pe_callN Fsign_one (hr.mono (by decide)) rfl (pa_cons (pe_op (op_sub) (pe_op (op_add) (pe_op (op_mulB) (pv 0) (pv 0)) (pe_op (op_mulB) (pe_op (op_mulB) (pv 1) (pv 1)) (pv 2))) (pe_op (op_mulB) (pe_op (op_mulB) (pv 3) (pv 3)) (pv 4))) (pa_cons (pe_op (op_mulB) (pe_op (op_mulB) pe_int (pv 0)) (pv 1)) (pa_cons (pv 2) pa_nil)))))
      (pss_one (ps_ret (pe_callN Fsign_of_sum (hr.mono (by decide)) rfl (pa_cons (pe_callN Fsign_one (hr.mono (by decide)) rfl (pa_cons (pv 0) (pa_cons (pv 1) (pa_cons (pv 2) pa_nil)))) (pa_cons (pe_callN Fsign (hr.mono (by decide)) rfl (pa_cons (pe_op (op_mulB) (pv 3) (pv 4)) pa_nil)) (pa_cons (pv 5) pa_nil))))))), ?_⟩
    have b2 : Bits 64 (2 : Int) := bits_of (by decide +kernel)
    refine ⟨_, rfl, _, rfl, _, _, rfl, rfl, mulOk bu bu (by decide), _, rfl, _, rfl, _, _, rfl, rfl, mulOk bv bv (by decide), _, rfl, _, _, rfl, rfl, mulOk (bv.mul bv) br (by decide), _, _, rfl, rfl, _, rfl, _, rfl, _, _, rfl, rfl, mulOk bw bw (by decide), _, rfl, _, _, rfl, rfl, mulOk (bw.mul bw) bt (by decide), _, _, rfl, rfl, ?_⟩
    refine ⟨_, rfl, _, _, rfl, rfl, .of_left b2, _, rfl, _, _, rfl, rfl, mulOk (b2.mul bu) bv (by decide), _, rfl, _, _, _, rfl, (bits_apart bu bv br bw bt).mono (by decide), (bits_twice bu bv).mono (by decide), br.mono (by decide), ?_⟩
    refine ⟨_, rfl, _, rfl, _, rfl, _, _, _, rfl, bu.mono (by decide), bv.mono (by decide), br.mono (by decide), _, rfl, _, rfl, _, _, rfl, rfl, mulOk bw bt (by decide), _, rfl, _, rfl, ?_⟩
    exact ⟨_, _, _, rfl, three_bits (M.sOne_three _ _ _), three_bits (M.sOne_three _ _ _), q⟩
theorem sc_order : FnScope ["one", "other", "whole"] ["one", "other"] (defScope st_order) := ⟨rfl, rfl, rfl, by decide +kernel, rfl, by decide +kernel, by decide +kernel⟩
set_option maxHeartbeats 4000000 in
theorem ok_order (h : Has K mg "order" st_order ["one", "other"]) (B : Bl mg) (Fsign_two : Ok P w K mg base 3 "sign_two" ["u", "v", "r", "w", "t"] sp_sign_two) : Ok P w K mg base 4 "order" ["one", "other"] sp_order := by
  refine h.fn sc_order (fun vs H Q E h => ?_) (fun f cdv A outer s H vs Q E hr h => ?_)
  · obtain ⟨x, y, p, q', r, s, a, b, t, d, rfl, _⟩ := h
    rfl
  · have hu16 := hu16_of hr
    have hu9 := hu9_of hr
    obtain ⟨x, y, p, q', r, s', a, b, t, d, rfl, hx, hy, q⟩ := h
    have tx : ∀ K, SqT K H x _ := fun K => SqT.of hx.at_
    have ty : ∀ K, SqT K H y _ := fun K => SqT.of hy.at_
    refine ⟨_, (pss_cons (ps_set (i := 2) sc_order.nd rfl (Or.inl rfl) (pe_op (op_sub) (pe_op (op_mulB) (pe_ix ix_tup (pv 0) pe_int (fun _ _ => rfl)) (pe_ix ix_tup (pv 1) pe_int (fun _ _ => rfl))) (pe_op (op_mulB) (pe_ix ix_tup (pv 1) pe_int (fun _ _ => rfl)) (pe_ix ix_tup (pv 0) pe_int (fun _ _ => rfl)))))
      (pss_one (ps_ret (pe_callN Fsign_two (hr.mono (by decide)) rfl (pa_cons (pv 2) (pa_cons (pe_op (op_mulB) (pe_ix ix_tup (pv 0) pe_int (fun _ _ => rfl)) (pe_ix ix_tup (pv 1) pe_int (fun _ _ => rfl))) (pa_cons (pe_ix ix_tup (pv 0) pe_int (fun _ _ => rfl)) (pa_cons (pe_op (op_mulB) (pe_un un_neg (pe_ix ix_tup (pv 1) pe_int (fun _ _ => rfl))) (pe_ix ix_tup (pv 0) pe_int (fun _ _ => rfl))) (pa_cons (pe_ix ix_tup (pv 1) pe_int (fun _ _ => rfl)) pa_nil))))))))), ?_⟩
    refine ⟨_, rfl, x, _, _, _, rfl, rfl, tx _, rfl, _, rfl, y, _, _, _, rfl, rfl, ty _, rfl, _, _, rfl, rfl, mulOk hx.bp hy.bs (by decide), _, rfl, y, _, _, _, rfl, rfl, ty _, rfl, _, rfl, x, _, _, _, rfl, rfl, tx _, rfl, _, _, rfl, rfl, mulOk hy.bp hx.bs (by decide), _, _, rfl, rfl, ?_⟩
    refine ⟨_, rfl, _, rfl, x, _, _, _, rfl, rfl, tx _, rfl, _, rfl, y, _, _, _, rfl, rfl, ty _, rfl, _, _, rfl, rfl, mulOk hx.bq hy.bs (by decide), _, rfl, x, _, _, _, rfl, rfl, tx _, rfl, _, rfl, y, _, _, _, rfl, rfl, ty _, rfl, _, rfl, _, rfl, x, _, _, _, rfl, rfl, tx _, rfl, _, _, rfl, rfl, mulOk hy.bq.neg hx.bs (by decide), _, rfl, y, _, _, _, rfl, rfl, ty _, rfl, ?_⟩
    exact ⟨_, _, _, _, _, rfl, ((hx.bp.mul hy.bs).sub (hy.bp.mul hx.bs)).mono (by decide), (hx.bq.mul hy.bs).mono (by decide), hx.br.mono (by decide), (hy.bq.neg.mul hx.bs).mono (by decide), hy.br.mono (by decide), q⟩
theorem sc_fits_between : FnScope ["one", "other", "parts"] ["one", "other", "parts"] (defScope st_fits_between) := ⟨rfl, rfl, rfl, by decide +kernel, rfl, by decide +kernel, by decide +kernel⟩
set_option maxHeartbeats 4000000 in
theorem ok_fits_between (h : Has K mg "fits_between" st_fits_between ["one", "other", "parts"]) (B : Bl mg) (Fnext_above : Ok P w K mg base 4 "next_above" ["number", "parts"] sp_next_above) (Forder : Ok P w K mg base 4 "order" ["one", "other"] sp_order) : Ok P w K mg base 5 "fits_between" ["one", "other", "parts"] sp_fits_between := by
  refine h.fn sc_fits_between (fun vs H Q E h => ?_) (fun f cdv A outer s H vs Q E hr h => ?_)
  · obtain ⟨x, y, p, q', r, s', a, b, t, d, n, rfl, _⟩ := h
    rfl
  · have hu16 := hu16_of hr
    have hu9 := hu9_of hr
    obtain ⟨x, y, p, q', r, s', a, b, t, d, n, rfl, hx, hy, n0, bn, q⟩ := h
    refine ⟨_, (pss_one (ps_ret (pe_cmpR (op_lt) (pe_callN Forder (hr.mono (by decide)) rfl (pa_cons (pe_callN Fnext_above (hr.mono (by decide)) rfl (pa_cons (pv 0) (pa_cons (pv 2) pa_nil))) (pa_cons (pv 1) pa_nil))) pe_int (nomark _)))), ?_⟩
    refine ⟨_, rfl, _, rfl, x, p, q', r, s', n, rfl, hx, n0, bn, fun z f H1 s1 f1 f2 hz => ?_⟩
    refine ⟨_, rfl, z, y, f + 1, 0, 0, n, a, b, t, d, rfl, hz.up (by decide) (by decide), (hy.same s1).up (by decide) (by decide), ?_⟩
    refine ⟨_, _, rfl, rfl, ?_⟩
    exact q _ _ s1 (fits_one hx.r0 hx.s0 f1 f2)
theorem sc_between : FnScope ["one", "other", "coarse", "squares", "square"] ["one", "other"] (defScope st_between) := ⟨rfl, rfl, rfl, by decide +kernel, rfl, by decide +kernel, by decide +kernel⟩
set_option maxHeartbeats 4000000 in
theorem ok_between (h : Has K mg "between" st_between ["one", "other"]) (B : Bl mg) (Ffits_between : Ok P w K mg base 5 "fits_between" ["one", "other", "parts"] sp_fits_between) (Fnext_above : Ok P w K mg base 4 "next_above" ["number", "parts"] sp_next_above) : Ok P w K mg base 6 "between" ["one", "other"] sp_between := by
  refine h.fn sc_between (fun vs H Q E h => ?_) (fun f cdv A outer s H vs Q E hr h => ?_)
  · obtain ⟨x, y, p, q', r, s', a, b, t, d, rfl, _⟩ := h
    rfl
  · have hu16 := hu16_of hr
    have hu9 := hu9_of hr
    obtain ⟨x, y, p, q', r, s', a, b, t, d, rfl, hx, hy, hlt, q⟩ := h
    refine ⟨_, (pss_cons (ps_set (i := 2) sc_between.nd rfl (Or.inl rfl) pe_int)
      (pss_cons (ps_set (i := 3) sc_between.nd rfl (Or.inl rfl) (pe_lst (pa_cons pe_int pa_nil)))
      (pss_cons (ps_if (pt_val (pe_callN Ffits_between (hr.mono (by decide)) rfl (pa_cons (pv 0) (pa_cons (pv 1) (pa_cons (pv 2) pa_nil))))) (pss_one (ps_ret (pe_callN Fnext_above (hr.mono (by decide)) rfl (pa_cons (pv 0) (pa_cons (pv 2) pa_nil))))) pss_nil)
      (pss_cons (ps_while PassesOwn.never (pt_not (pt_val (pe_callN Ffits_between (hr.mono (by decide)) rfl (pa_cons (pv 0) (pa_cons (pv 1) (pa_cons (pe_ix ix_list (pv 3) (pe_un un_neg pe_int) (fun _ _ => rfl)) pa_nil)))))) (pss_one (ps_expr (pe_bm PySem.F.plainAttrs_list PySem.F.slot_list_append PySem.F.type_list_append mt_append (pv 3) (pa_cons (pe_op (op_mulB) (pe_ix ix_list (pv 3) (pe_un un_neg pe_int) (fun _ _ => rfl)) (pe_ix ix_list (pv 3) (pe_un un_neg pe_int) (fun _ _ => rfl))) pa_nil)))))
      (pss_cons (ps_for PassesOwn.never rfl (pi_rev rfl B.reversed_ (pa_cons (pv 3) pa_nil)) (pg_name (i := 4) sc_between.nd rfl (Or.inl rfl)) (pss_one (ps_if (pt_not (pt_val (pe_callN Ffits_between (hr.mono (by decide)) rfl (pa_cons (pv 0) (pa_cons (pv 1) (pa_cons (pe_op (op_mulB) (pv 2) (pv 4)) pa_nil)))))) (pss_one (ps_set (i := 2) sc_between.nd rfl (Or.inl rfl) (pe_op (op_mulB) (pv 2) (pv 4)))) pss_nil)))
      (pss_one (ps_ret (pe_callN Fnext_above (hr.mono (by decide)) rfl (pa_cons (pv 0) (pa_cons (pe_op (op_mulB) (pv 2) pe_int) pa_nil)))))))))), ?_⟩
    refine ⟨small10 (by show 1 ≤ 1000; decide), fun l hl => ?_⟩
    have N0 : New H (upd H l (.lst (sqs 0))) l (.lst (sqs 0)) := ⟨same_new hl _, hl, upd_same⟩
    refine ⟨_, rfl, _, rfl, _, rfl, x, y, p, q', r, s', a, b, t, d, 1, rfl, hx.same N0.1, hy.same N0.1, by decide, bits_of (by decide +kernel), fun bo H1 s1 hbo => ⟨bo, rfl, ?_⟩⟩
    refine ite2 (fun c => ?_) (fun c => ?_)
    · refine ⟨_, rfl, _, rfl, x, p, q', r, s', 1, rfl, (hx.same N0.1).same s1, by decide, bits_of (by decide +kernel), fun z f H2 s2 f1 f2 hz => ?_⟩
      exact q z (f + 1) 1 H2 ((N0.1.trans s1).trans s2) hz f2 (hbo.mp c f f1 f2)
    · have N1 := N0.keep s1
      refine ⟨fun k σ H2 => ∃ m : Nat, k = 12 - m ∧ m ≤ 12 ∧ σ = [some (.ref x), some (.ref y), some (.int 1), some (.ref l), none] ∧ New H H2 l (.lst (sqs m)), ⟨_, 0, rfl, by decide, rfl, N1⟩, ?_⟩
      rintro k σ H2 ⟨m, rfl, hm, rfl, N2⟩
      have bm : Bits 4100 ((2 : Int) ^ (2 ^ m)) := (bits_two (2 ^ m)).mono (by
        have := Nat.pow_le_pow_right (n := 2) (by decide) hm
        have e : 2 ^ 12 = 4096 := by decide
        omega)
      refine ⟨_, rfl, _, rfl, _, rfl, _, rfl, l, _, _, _, rfl, rfl, SqL.of N2.2.2, sqs_last m, x, y, p, q', r, s', a, b, t, d, _, rfl, hx.same N2.1, hy.same N2.1, two_pos _, bm, fun bo H3 s3 hbo => ?_⟩
      have N3 := N2.keep s3
      refine ⟨bo, rfl, ?_⟩
      refine ite2 (fun c2 => ?_) (fun c2 => ?_)
      · have nf : ¬ FitsN p q' r s' a b t d ((2 : Int) ^ (2 ^ m)) := fun z => by
          rw [hbo.mpr z] at c2
          cases c2
        have m12 : m ≠ 12 := fun z => by
          subst z
          exact nf (fits_big hx hy hlt (by decide +kernel))
        refine ⟨fun σ' H' => σ' = [some (.ref x), some (.ref y), some (.int 1), some (.ref l), none] ∧ New H H' l (.lst (sqs (m + 1))), ?_, ?_⟩
        · rintro σ' H' ⟨rfl, N⟩
          exact ⟨12 - (m + 1), by omega, m + 1, rfl, by omega, rfl, N⟩
        · refine ⟨_, rfl, .inl ⟨rfl, _, SqL.of N3.2.2⟩, _, rfl, _, rfl, l, _, _, _, rfl, rfl, SqL.of N3.2.2, sqs_last m, _, rfl, _, rfl, l, _, _, _, rfl, rfl, SqL.of N3.2.2, sqs_last m, _, _, rfl, rfl, mulOk bm bm (by decide), l, _, _, rfl, rfl, N3.2.2, (by rw [sqs_len]; exact small1000 (by omega)), rfl, ?_⟩
          rw [← sqs_more]
          exact N3.set (Same.refl _)
      · have ft : FitsN p q' r s' a b t d ((2 : Int) ^ (2 ^ m)) := hbo.mp (by
          cases bo
          · exact absurd rfl c2
          · rfl)
        have p12 : 2 ^ m ≤ 4096 := by
          have := Nat.pow_le_pow_right (n := 2) (by decide) hm
          have e : 2 ^ 12 = 4096 := by decide
          omega
        refine ⟨_, rfl, l, _, rfl, SqL.of N3.2.2, for_rev (xs := sqs m) (fun i σ H4 => ∃ (c : Nat) (x4 : Option V), σ = [some (.ref x), some (.ref y), some (.int ((2 : Int) ^ c)), some (.ref l), x4] ∧ New H H4 l (.lst (sqs m)) ∧ ((i = 0 ∧ c = 0) ∨ (1 ≤ i ∧ c + 2 ^ (m + 1 - i) ≤ 2 ^ m ∧ FitsN p q' r s' a b t d ((2 : Int) ^ (c + 2 ^ (m + 1 - i))))))
          ⟨0, none, rfl, N3, .inl ⟨rfl, rfl⟩⟩ (fun i σ H4 _ ⟨_, _, _, N, _⟩ => SqL.of N.2.2) ?_ ?_⟩
        · rintro i v σ H4 hi hv ⟨c, x4, rfl, N4, hc⟩
          rw [sqs_len] at hi hv
          rw [show m + 1 - 1 - i = m - i by omega, sqs_get (by omega)] at hv
          obtain rfl := (Option.some.inj hv).symm
          have hle : c + 2 ^ (m - i) ≤ 2 ^ m := by
            rcases hc with ⟨rfl, rfl⟩ | ⟨_, h2, _⟩
            · simp
            · have := Nat.pow_le_pow_right (n := 2) (by decide) (show m - i ≤ m + 1 - i by omega)
              omega
          have pi0 := Nat.two_pow_pos (m - i)
          have bc : Bits 4100 ((2 : Int) ^ c) := (bits_two c).mono (by omega)
          have bi : Bits 4100 ((2 : Int) ^ (2 ^ (m - i))) := (bits_two _).mono (by omega)
          have bci : Bits 4100 ((2 : Int) ^ (c + 2 ^ (m - i))) := (bits_two _).mono (by omega)
          have ep : (2 : Int) ^ c * (2 : Int) ^ (2 ^ (m - i)) = (2 : Int) ^ (c + 2 ^ (m - i)) := (Int.pow_add ..).symm
          refine ⟨_, rfl, _, rfl, _, rfl, _, rfl, _, _, rfl, rfl, mulOk bc bi (by decide), x, y, p, q', r, s', a, b, t, d, _, rfl, hx.same N4.1, hy.same N4.1, Int.mul_pos (two_pos _) (two_pos _), (by rw [ep]; exact bci), fun bo H5 s5 hbo => ⟨bo, rfl, ?_⟩⟩
          rw [ep] at hbo
          refine ite2 (fun c3 => ?_) (fun c3 => ?_)
          · have nf : ¬ FitsN p q' r s' a b t d ((2 : Int) ^ (c + 2 ^ (m - i))) := fun z => by
              rw [hbo.mpr z] at c3
              cases c3
            refine ⟨_, rfl, _, rfl, _, _, rfl, rfl, mulOk bc bi (by decide), ?_⟩
            refine ⟨c + 2 ^ (m - i), _, by rw [← ep]; rfl, N4.keep s5, .inr ⟨by omega, ?_⟩⟩
            rcases hc with ⟨rfl, rfl⟩ | ⟨h1, h2, h3⟩
            · rw [Nat.zero_add, Nat.sub_zero] at nf
              exact absurd ft nf
            · have e : c + 2 ^ (m - i) + 2 ^ (m + 1 - (i + 1)) = c + 2 ^ (m + 1 - i) := by
                rw [show m + 1 - (i + 1) = m - i by omega, show m + 1 - i = (m - i) + 1 by omega, Nat.pow_succ]
                omega
              rw [e]
              exact ⟨h2, h3⟩
          · refine ⟨c, _, rfl, N4.keep s5, .inr ⟨by omega, ?_⟩⟩
            rw [show m + 1 - (i + 1) = m - i by omega]
            exact ⟨hle, hbo.mp (by
              cases bo
              · exact absurd rfl c3
              · rfl)⟩
        · rintro σ H4 ⟨c, x4, rfl, N4, hc⟩
          rw [sqs_len] at hc
          rcases hc with ⟨h1, _⟩ | ⟨_, h2, h3⟩
          · omega
          · rw [show m + 1 - (m + 1) = 0 by omega, Nat.pow_zero] at h2 h3
            have bc : Bits 4100 ((2 : Int) ^ c) := (bits_two c).mono (by omega)
            have bc1 : Bits 4100 ((2 : Int) ^ (c + 1)) := (bits_two (c + 1)).mono (by omega)
            have ep : (2 : Int) ^ c * 2 = (2 : Int) ^ (c + 1) := (Int.pow_succ ..).symm
            rw [← ep] at h3
            refine ⟨_, rfl, _, rfl, _, _, rfl, rfl, mulOk bc (bits_of (m := 64) (by decide +kernel)) (by decide), x, p, q', r, s', _, rfl, hx.same N4.1, (by rw [ep]; exact two_pos _), (by rw [ep]; exact bc1), fun z f H6 s6 f1 f2 hz => ?_⟩
            exact q z (f + 1) _ H6 (N4.1.trans s6) hz f2 (h3 f f1 f2)
theorem sc__law_between : FnScope ["_law_one", "_law_other", "_law_found"] ["_law_one", "_law_other"] (defScope st__law_between) := ⟨rfl, rfl, rfl, by decide +kernel, rfl, by decide +kernel, by decide +kernel⟩
set_option maxHeartbeats 4000000 in
theorem ok__law_between (h : Has K mg "_law_between" st__law_between ["_law_one", "_law_other"]) (B : Bl mg) (F_law_is_number : Ok P w K mg base 1 "_law_is_number" ["_law_found"] sp__law_is_number) (F_law_order : Ok P w K mg base 3 "_law_order" ["_law_one", "_law_other"] sp__law_order) (Fbetween : Ok P w K mg base 6 "between" ["one", "other"] sp_between) : Ok P w K mg base 7 "_law_between" ["_law_one", "_law_other"] sp__law_between := by
  refine h.fn sc__law_between (fun vs H Q E h => ?_) (fun f cdv A outer s H vs Q E hr h => ?_)
  · obtain ⟨x, y, p, q', r, s', a, b, t, d, rfl, _⟩ := h
    rfl
  · have hu16 := hu16_of hr
    have hu9 := hu9_of hr
    obtain ⟨x, y, p, q', r, s', a, b, t, d, rfl, hx, hy, hlt, q⟩ := h
    refine ⟨_, (pss_cons (ps_set (i := 2) sc__law_between.nd rfl (Or.inl rfl) (pe_callN Fbetween (hr.mono (by decide)) rfl (pa_cons (pv 0) (pa_cons (pv 1) pa_nil))))
      (pss_cons (ps_if (PW.pt (pw_or (pt_not (pt_val (pe_callN F_law_is_number (hr.mono (by decide)) rfl (pa_cons (pv 2) pa_nil)))) (pw_or1 (pt_cmpR (op_ne) (pe_ix ix_tup (pv 2) pe_int (fun _ _ => rfl)) pe_int (nomark _))))) (pss_one (ps_ret pe_bl)) pss_nil)
      (pss_one (ps_ret (pe_and (pe_cmpR (op_lt) (pe_callN F_law_order (hr.mono (by decide)) rfl (pa_cons (pv 0) (pa_cons (pv 2) pa_nil))) pe_int (nomark _)) (pe_one (pe_cmpR (op_lt) (pe_callN F_law_order (hr.mono (by decide)) rfl (pa_cons (pv 2) (pa_cons (pv 1) pa_nil))) pe_int (nomark _)))))))), ?_⟩
    refine ⟨_, rfl, _, rfl, x, y, p, q', r, s', a, b, t, d, rfl, hx, hy, hlt, fun z e n H1 s1 hz l1 l2 => ?_⟩
    have hzN : NumAt H1 z e 0 0 n := hz.up (by decide) (by decide)
    have tz : ∀ K, SqT K H1 z _ := fun K => SqT.of hz.at_
    refine ⟨_, rfl, z, e, 0, 0, n, rfl, hzN, _, rfl, ?_⟩
    refine iteF ?_
    refine ⟨_, rfl, z, _, _, _, rfl, rfl, tz _, rfl, rfl, _, rfl, ?_⟩
    refine iteNS rfl ?_
    refine ⟨_, rfl, _, rfl, x, z, p, q', r, s', e, 0, 0, n, rfl, (hx.same s1).up (by decide) (by decide), hzN, _, _, rfl, rfl, _, rfl, ?_⟩
    refine iteP (decide_eq_true ?_) ?_
    · show M.sTwo (p * n - e * s') (q' * n) r (-0 * s') 0 < 0
      rw [M.two_flat' (Int.mul_zero _)]
      exact l1
    · refine ⟨_, rfl, _, rfl, z, y, e, 0, 0, n, a, b, t, d, rfl, hzN, (hy.same s1).up (by decide) (by decide), _, _, rfl, rfl, ?_⟩
      have e2 := decide_eq_true l2
      show Q (.bl (decide (M.sTwo (e * d - a * n) (0 * d) 0 (-b * n) t < 0))) H1
      rw [e2]
      exact q H1 s1
theorem sc__law_again : FnScope ["_law_one", "_law_number", "_law_p", "_law_q", "_law_r", "_law_s", "_law_k", "_law_m"] ["_law_one", "_law_number"] (defScope st__law_again) := ⟨rfl, rfl, rfl, by decide +kernel, rfl, by decide +kernel, by decide +kernel⟩
set_option maxHeartbeats 4000000 in
theorem ok__law_again (h : Has K mg "_law_again" st__law_again ["_law_one", "_law_number"]) (B : Bl mg) : Ok P w K mg base 1 "_law_again" ["_law_one", "_law_number"] sp__law_again := by
  refine h.fn sc__law_again (fun vs H Q E h => ?_) (fun f cdv A outer s H vs Q E hr h => ?_)
  · obtain ⟨x, p, q', r, s', n, rfl, _⟩ := h
    rfl
  · have hu16 := hu16_of hr
    have hu9 := hu9_of hr
    obtain ⟨x, p, q', r, s', n, rfl, hx, q⟩ := h
    refine ⟨_, (pss_cons (ps_asg (pv 0) (pg_tup rfl (pgs_cons (pg_name (i := 2) sc__law_again.nd rfl (Or.inl rfl)) (pgs_cons (pg_name (i := 3) sc__law_again.nd rfl (Or.inl rfl)) (pgs_cons (pg_name (i := 4) sc__law_again.nd rfl (Or.inl rfl)) (pgs_cons (pg_name (i := 5) sc__law_again.nd rfl (Or.inl rfl)) pgs_nil))))))
      (pss_cons (ps_set (i := 6) sc__law_again.nd rfl (Or.inl rfl) (pe_op (op_add) pe_int (pe_op (op_mod) (pv 1) pe_int)))
      (pss_cons (ps_set (i := 7) sc__law_again.nd rfl (Or.inl rfl) (pe_op (op_add) pe_int (pe_op (op_mod) (pe_op (op_fdivB) (pv 1) pe_int) pe_int)))
      (pss_one (ps_ret (pe_tup (pa_cons (pe_op (op_mulB) (pe_op (op_mulB) (pv 2) (pv 6)) (pv 7)) (pa_cons (pe_op (op_mulB) (pv 3) (pv 7)) (pa_cons (pe_op (op_mulB) (pe_op (op_mulB) (pv 4) (pv 6)) (pv 6)) (pa_cons (pe_op (op_mulB) (pe_op (op_mulB) (pv 5) (pv 6)) (pv 7)) pa_nil)))))))))), ?_⟩
    have k0 : 0 ≤ n % 5 := Int.emod_nonneg _ (by decide)
    have k1 : n % 5 < 5 := Int.emod_lt_of_pos _ (by decide)
    have m0 : 0 ≤ n / 5 % 7 := Int.emod_nonneg _ (by decide)
    have m1 : n / 5 % 7 < 7 := Int.emod_lt_of_pos _ (by decide)
    have bk : Bits 8 (1 + n % 5) := bits_lt (b := 100) (by decide) (by omega) (by omega)
    have bm : Bits 8 (1 + n / 5 % 7) := bits_lt (b := 100) (by decide) (by omega) (by omega)
    refine ⟨_, rfl, x, _, rfl, SqT.of hx.at_, rfl, _, _, rfl, _, _, rfl, _, _, rfl, _, _, rfl, rfl, ?_⟩
    refine ⟨_, rfl, _, _, rfl, rfl, (by show (0 : Int) < 5; decide), _, _, rfl, rfl, ?_⟩
    refine ⟨_, rfl, _, _, rfl, rfl, ⟨by decide, bits_of (by decide +kernel)⟩, _, _, rfl, rfl, (by show (0 : Int) < 7; decide), _, _, rfl, rfl, ?_⟩
    refine ⟨_, rfl, _, rfl, _, _, rfl, rfl, mulOk hx.bp bk (by decide), _, rfl, _, _, rfl, rfl, mulOk (hx.bp.mul bk) bm (by decide), _, rfl, _, rfl, _, _, rfl, rfl, mulOk hx.bq bm (by decide), _, rfl, _, rfl, _, _, rfl, rfl, mulOk hx.br bk (by decide), _, rfl, _, _, rfl, rfl, mulOk (hx.br.mul bk) bk (by decide), _, rfl, _, rfl, _, _, rfl, rfl, mulOk hx.bs bk (by decide), _, rfl, _, _, rfl, rfl, mulOk (hx.bs.mul bk) bm (by decide), small10 (by show 4 ≤ 1000; decide), fun l hl => ?_⟩
    exact q l _ _ _ _ _ (same_new hl _) ⟨upd_same, ((hx.bp.mul bk).mul bm).mono (by decide), (hx.bq.mul bm).mono (by decide), ((hx.br.mul bk).mul bk).mono (by decide), ((hx.bs.mul bk).mul bm).mono (by decide), Int.mul_nonneg (Int.mul_nonneg hx.r0 (by omega)) (by omega), Int.mul_pos (Int.mul_pos hx.s0 (by omega)) (by omega)⟩
theorem sc__law_signed : FnScope ["_law_number", "_law_most", "_law_half"] ["_law_number", "_law_most"] (defScope st__law_signed) := ⟨rfl, rfl, rfl, by decide +kernel, rfl, by decide +kernel, by decide +kernel⟩
set_option maxHeartbeats 4000000 in
theorem ok__law_signed (h : Has K mg "_law_signed" st__law_signed ["_law_number", "_law_most"]) (B : Bl mg) : Ok P w K mg base 1 "_law_signed" ["_law_number", "_law_most"] sp__law_signed := by
  refine h.fn sc__law_signed (fun vs H Q E h => ?_) (fun f cdv A outer s H vs Q E hr h => ?_)
  · obtain ⟨n, m, rfl, _⟩ := h
    rfl
  · have hu16 := hu16_of hr
    have hu9 := hu9_of hr
    obtain ⟨n, m, rfl, h0, bm, q⟩ := h
    refine ⟨_, (pss_cons (ps_set (i := 0) sc__law_signed.nd rfl (Or.inl rfl) (pe_op (op_mod) (pv 0) (pe_op (op_add) (pe_op (op_mulB) pe_int (pv 1)) pe_int)))
      (pss_cons (ps_set (i := 2) sc__law_signed.nd rfl (Or.inl rfl) (pe_op (op_fdivB) (pe_op (op_add) (pv 0) pe_int) pe_int))
      (pss_cons (ps_if (pt_cmpR (op_eq) (pe_op (op_mod) (pv 0) pe_int) pe_int (nomark _)) (pss_one (ps_ret (pv 2))) pss_nil)
      (pss_one (ps_ret (pe_op (op_sub) pe_int (pv 2))))))), ?_⟩
    refine ⟨_, rfl, _, rfl, _, _, rfl, rfl, mulOk (m := 64) (bits_of (by decide +kernel)) bm (by decide), _, _, rfl, rfl, _, _, rfl, rfl, (by show (0 : Int) < 2 * m + 1; omega), ?_⟩
    have r0 : 0 ≤ n % (2 * m + 1) := Int.emod_nonneg _ (by omega)
    have r1 : n % (2 * m + 1) < 2 * m + 1 := Int.emod_lt_of_pos _ (by omega)
    refine ⟨_, rfl, _, _, rfl, rfl, _, _, rfl, rfl, ⟨by decide, bits_of (by decide +kernel)⟩, ?_⟩
    refine ⟨_, rfl, _, _, rfl, rfl, (by show (0 : Int) < 2; decide), rfl, _, rfl, ?_⟩
    refine ite2 (fun c => ?_) (fun c => ?_)
    · refine ⟨_, rfl, ?_⟩
      exact q _ (by omega) (by omega)
    · refine ⟨_, rfl, _, _, rfl, rfl, ?_⟩
      exact q _ (by omega) (by omega)
theorem sc__law_base : FnScope ["_law_number", "_law_size", "_law_found", "_law_k", "_law_p", "_law_q"] ["_law_number"] (defScope st__law_base) := ⟨rfl, rfl, rfl, by decide +kernel, rfl, by decide +kernel, by decide +kernel⟩
set_option maxHeartbeats 4000000 in
theorem ok__law_base (h : Has K mg "_law_base" st__law_base ["_law_number"]) (B : Bl mg) (F_law_signed : Ok P w K mg base 1 "_law_signed" ["_law_number", "_law_most"] sp__law_signed) : Ok P w K mg base 2 "_law_base" ["_law_number"] sp__law_base := by
  refine h.fn sc__law_base (fun vs H Q E h => ?_) (fun f cdv A outer s H vs Q E hr h => ?_)
  · obtain ⟨n, rfl, _⟩ := h
    rfl
  · have hu16 := hu16_of hr
    have hu9 := hu9_of hr
    obtain ⟨n, rfl, q⟩ := h
    refine ⟨_, (pss_cons (ps_set (i := 1) sc__law_base.nd rfl (Or.inl rfl) (pe_ix ix_list (pe_lst (pa_cons pe_int (pa_cons pe_int (pa_cons (pe_powc (c := 1000000) (by decide +kernel)) (pa_cons (pe_powc (c := 1000000000000) (by decide +kernel)) (pa_cons (pe_powc (c := 10000000000000000000000000000) (by decide +kernel)) pa_nil)))))) (pe_op (op_mod) (pv 0) pe_int) (fun _ _ => rfl)))
      (pss_cons (ps_set (i := 2) sc__law_base.nd rfl (Or.inl rfl) (pe_lst pa_nil))
      (pss_cons (ps_for PassesOwn.never rfl (pi_range1 rfl B.range_ (pa_cons pe_int pa_nil)) (pg_name (i := 3) sc__law_base.nd rfl (Or.inl rfl)) (pss_cons (ps_set (i := 0) sc__law_base.nd rfl (Or.inl rfl) (pe_op (op_mod) (pe_op (op_mulB) (pv 0) pe_int) (pe_op (op_add) (pe_powc (c := 1000000000000000000000000000000000000000000000000000000000000) (by decide +kernel)) pe_int)))
      (pss_one (ps_expr (pe_bm PySem.F.plainAttrs_list PySem.F.slot_list_append PySem.F.type_list_append mt_append (pv 2) (pa_cons (pe_op (op_fdivB) (pv 0) (pe_powc (c := 1000000000000000000000000) (by decide +kernel))) pa_nil))))))
      (pss_cons (ps_set (i := 4) sc__law_base.nd rfl (Or.inl rfl) (pe_callN F_law_signed (hr.mono (by decide)) rfl (pa_cons (pe_ix ix_list (pv 2) pe_int (fun _ _ => rfl)) (pa_cons (pv 1) pa_nil))))
      (pss_cons (ps_set (i := 5) sc__law_base.nd rfl (Or.inl rfl) (pe_callN F_law_signed (hr.mono (by decide)) rfl (pa_cons (pe_ix ix_list (pv 2) pe_int (fun _ _ => rfl)) (pa_cons (pv 1) pa_nil))))
      (pss_one (ps_ret (pe_tup (pa_cons (pv 4) (pa_cons (pv 5) (pa_cons (pe_op (op_mod) (pe_ix ix_list (pv 2) pe_int (fun _ _ => rfl)) (pe_op (op_add) (pv 1) pe_int)) (pa_cons (pe_op (op_add) pe_int (pe_op (op_mod) (pe_ix ix_list (pv 2) pe_int (fun _ _ => rfl)) (pv 1))) pa_nil)))))))))))), ?_⟩
    have w0 : 0 ≤ n % 5 := Int.emod_nonneg _ (by decide)
    have w1 : n % 5 < 5 := Int.emod_lt_of_pos _ (by decide)
    obtain ⟨z, hz, hm⟩ := pickL [3, 60, 1000000, 1000000000000, 10000000000000000000000000000] (k := n % 5) w0 (by show n % 5 < 5; omega)
    obtain ⟨z0, z1⟩ := in5 hm
    refine ⟨small10 (by show 5 ≤ 1000; decide), fun l hl => ?_⟩
    refine ⟨_, rfl, _, _, rfl, rfl, (by show (0 : Int) < 5; decide), l, _, _, _, rfl, rfl, SqL.of upd_same, hz, ?_⟩
    have bz : Bits 100 z := b28 (b := z) z1 (by omega) (by omega)
    have s1 := same_new hl (.lst ([.int 3, .int 60, .int 1000000, .int 1000000000000, .int 10000000000000000000000000000]))
    refine ⟨small10 (by show 0 ≤ 1000; decide), fun m hm => ?_⟩
    refine ⟨4, rfl, by decide, by decide, for_range (n := 4) (fun i σ H2 => ∃ (y : Int) (x3 x4 x5 : Option V) (xs : List Int), σ = [some (.int y), some (.int z), some (.ref m), x3, x4, x5] ∧ Same H H2 ∧ H m = none ∧ H2 m = some (.lst (xs.map V.int)) ∧ xs.length = i)
      ⟨n, none, none, none, [], rfl, s1.trans (same_new hm _), s1.free hm, upd_same, rfl⟩ ?_ ?_⟩
    · rintro i σ H2 hi ⟨y, x3, x4, x5, xs, rfl, s2, fm, hx, hlen⟩
      refine ⟨_, rfl, _, _, rfl, rfl, .of_right (bits_of (m := 64) (by decide +kernel)), _, _, rfl, rfl, _, _, rfl, rfl, (by show (0 : Int) < 1000000000000000000000000000000000000000000000000000000000000 + 7; decide +kernel), ?_⟩
      refine ⟨_, rfl, .inl ⟨rfl, _, SqL.of hx⟩, _, rfl, _, _, rfl, rfl, ⟨by decide +kernel, bits_of (by decide +kernel)⟩, m, _, _, rfl, rfl, hx, (by rw [List.length_map, hlen]; exact small1000 (by omega)), ?_⟩
      refine ⟨_, _, _, _, xs ++ [y * 69621 % (1000000000000000000000000000000000000000000000000000000000000 + 7) / 1000000000000000000000000], rfl, ?_, fm, ?_, ?_⟩
      · intro b o e
        rw [upd_ne (ne_of_none e fm)]
        exact s2 b o e
      · rw [upd_same, List.map_append]
        rfl
      · rw [List.length_append, hlen]
        rfl
    · rintro σ H2 ⟨y, x3, x4, x5, xs, rfl, s2, fm, hx, hlen⟩
      obtain ⟨v0, e0⟩ := item_at (ns := xs) (k := 0) (by decide) (by omega)
      obtain ⟨v1, e1⟩ := item_at (ns := xs) (k := 1) (by decide) (by omega)
      obtain ⟨v2, e2⟩ := item_at (ns := xs) (k := 2) (by decide) (by omega)
      obtain ⟨v3, e3⟩ := item_at (ns := xs) (k := 3) (by decide) (by omega)
      refine ⟨_, rfl, m, _, _, _, rfl, rfl, SqL.of hx, e0, _, rfl, _, _, rfl, (by omega), bz.mono (by decide), fun p p0 p1 => ?_⟩
      refine ⟨_, rfl, m, _, _, _, rfl, rfl, SqL.of hx, e1, _, rfl, _, _, rfl, (by omega), bz.mono (by decide), fun q2 q0 q1 => ?_⟩
      refine ⟨_, rfl, _, rfl, _, rfl, m, _, _, _, rfl, rfl, SqL.of hx, e2, _, rfl, _, _, rfl, rfl, _, _, rfl, rfl, (by show (0 : Int) < z + 1; omega), _, rfl, m, _, _, _, rfl, rfl, SqL.of hx, e3, _, rfl, _, _, rfl, rfl, (by show (0 : Int) < z; omega), _, _, rfl, rfl, small10 (by show 4 ≤ 1000; decide), fun x hx2 => ?_⟩
      have r0 : 0 ≤ v2 % (z + 1) := Int.emod_nonneg _ (by omega)
      have r1 : v2 % (z + 1) < z + 1 := Int.emod_lt_of_pos _ (by omega)
      have t0 : 0 ≤ v3 % z := Int.emod_nonneg _ (by omega)
      have t1 : v3 % z < z := Int.emod_lt_of_pos _ (by omega)
      exact q x p q2 _ _ _ (s2.trans (same_new hx2 _)) ⟨upd_same, b28 z1 p0 (by omega), b28 z1 q0 (by omega), b28 z1 (by omega) (by omega), b28 z1 (by omega) (by omega), r0, by omega⟩
theorem sc__law_by_digits : FnScope ["_law_script"] ["_law_script"] (defScope st__law_by_digits) := ⟨rfl, rfl, rfl, by decide +kernel, rfl, by decide +kernel, by decide +kernel⟩
set_option maxHeartbeats 4000000 in
theorem ok__law_by_digits (h : Has K mg "_law_by_digits" st__law_by_digits ["_law_script"]) (B : Bl mg) : Ok P w K mg base 1 "_law_by_digits" ["_law_script"] (sp__law_by_digits K) := by
  refine h.fn sc__law_by_digits (fun vs H Q E h => ?_) (fun f cdv A outer s H vs Q E hr h => ?_)
  · obtain ⟨a, ns, rfl, _⟩ := h
    rfl
  · have hu16 := hu16_of hr
    have hu9 := hu9_of hr
    obtain ⟨a, ns, rfl, hS, q⟩ := h
    refine ⟨_, (pss_one (ps_ret (pe_and (pe_cmpR (op_gt) (pe_callB (call_len_seq) rfl B.len_ bt_len (pa_cons (pv 0) pa_nil)) pe_int (nomark _)) (pe_one (pe_cmpR (op_eq) (pe_op (op_mod) (pe_op (op_fdivB) (pe_ix ix_list (pv 0) pe_int (fun _ _ => rfl)) pe_int) pe_int) pe_int (nomark _)))))), ?_⟩
    refine ⟨_, rfl, a, _, rfl, .inl hS, _, _, rfl, rfl, _, rfl, ?_⟩
    refine ite2 (fun c => ?_) (fun c => ?_)
    · have c1 : 0 < ((ns.map V.int).length : Int) := of_decide_eq_true c
      rw [List.length_map] at c1
      obtain ⟨v, hv⟩ := item_at (ns := ns) (k := 0) (by decide) c1
      exact ⟨_, rfl, a, _, _, _, rfl, rfl, hS, hv, _, _, rfl, rfl, ⟨by decide, bits_of (by decide +kernel)⟩, _, _, rfl, rfl, (by show (0 : Int) < 2; decide), rfl, q _⟩
    · exact q false
theorem sc__law_cell : FnScope ["_law_script", "_law_k", "_law_wide"] ["_law_script", "_law_k"] (defScope st__law_cell) := ⟨rfl, rfl, rfl, by decide +kernel, rfl, by decide +kernel, by decide +kernel⟩
set_option maxHeartbeats 4000000 in
theorem ok__law_cell (h : Has K mg "_law_cell" st__law_cell ["_law_script", "_law_k"]) (B : Bl mg) : Ok P w K mg base 1 "_law_cell" ["_law_script", "_law_k"] (sp__law_cell K) := by
  refine h.fn sc__law_cell (fun vs H Q E h => ?_) (fun f cdv A outer s H vs Q E hr h => ?_)
  · obtain ⟨a, ns, k, rfl, _⟩ := h
    rfl
  · have hu16 := hu16_of hr
    have hu9 := hu9_of hr
    obtain ⟨a, ns, k, rfl, hS, h0, hb, q⟩ := h
    refine ⟨_, (pss_cons (ps_if (pt_cmpR (op_lt) (pv 1) (pe_callB (call_len_seq) rfl B.len_ bt_len (pa_cons (pv 0) pa_nil)) (nomark _)) (pss_cons (ps_set (i := 2) sc__law_cell.nd rfl (Or.inl rfl) (pe_op (op_mulB) (pe_ix ix_list (pv 0) (pv 1) (fun _ _ => rfl)) pe_int))
      (pss_one (ps_ret (pe_op (op_mod) (pv 2) (pe_powc (c := 1000000000000000000000000000000000000000000000000000000000000) (by decide +kernel)))))) pss_nil)
      (pss_one (ps_ret pe_int))), ?_⟩
    refine ⟨_, rfl, _, rfl, a, _, rfl, .inl hS, _, _, rfl, rfl, _, rfl, ?_⟩
    refine ite2 (fun c => ?_) (fun c => ?_)
    · have c1 : k < ((ns.map V.int).length : Int) := of_decide_eq_true c
      rw [List.length_map] at c1
      obtain ⟨v, hv, bv⟩ := item_of hb h0 c1
      refine ⟨_, rfl, _, rfl, a, _, _, _, rfl, rfl, hS, hv, _, _, rfl, rfl, mulOk bv (n := 200) (bits_of (by decide +kernel)) (by decide), ?_⟩
      refine ⟨_, rfl, _, _, rfl, rfl, (by show (0 : Int) < 1000000000000000000000000000000000000000000000000000000000000; decide +kernel), ?_⟩
      exact q _ (Int.emod_nonneg _ (by decide +kernel)) (Int.emod_lt_of_pos _ (by decide +kernel))
    · exact q 0 (by decide) (by decide +kernel)
theorem sc__law_near : FnScope ["_law_one", "_law_number", "_law_p", "_law_q", "_law_r", "_law_s"] ["_law_one", "_law_number"] (defScope st__law_near) := ⟨rfl, rfl, rfl, by decide +kernel, rfl, by decide +kernel, by decide +kernel⟩
set_option maxHeartbeats 4000000 in
theorem ok__law_near (h : Has K mg "_law_near" st__law_near ["_law_one", "_law_number"]) (B : Bl mg) : Ok P w K mg base 1 "_law_near" ["_law_one", "_law_number"] sp__law_near := by
  refine h.fn sc__law_near (fun vs H Q E h => ?_) (fun f cdv A outer s H vs Q E hr h => ?_)
  · obtain ⟨x, p, q', r, s', n, rfl, _⟩ := h
    rfl
  · have hu16 := hu16_of hr
    have hu9 := hu9_of hr
    obtain ⟨x, p, q', r, s', n, rfl, hx, q⟩ := h
    refine ⟨_, (pss_cons (ps_asg (pv 0) (pg_tup rfl (pgs_cons (pg_name (i := 2) sc__law_near.nd rfl (Or.inl rfl)) (pgs_cons (pg_name (i := 3) sc__law_near.nd rfl (Or.inl rfl)) (pgs_cons (pg_name (i := 4) sc__law_near.nd rfl (Or.inl rfl)) (pgs_cons (pg_name (i := 5) sc__law_near.nd rfl (Or.inl rfl)) pgs_nil))))))
      (pss_cons (ps_if (pt_cmpR (op_eq) (pe_op (op_mod) (pv 1) pe_int) pe_int (nomark _)) (pss_one (ps_ret (pe_tup (pa_cons (pe_op (op_add) (pv 2) pe_int) (pa_cons (pv 3) (pa_cons (pv 4) (pa_cons (pv 5) pa_nil))))))) pss_nil)
      (pss_cons (ps_if (pt_cmpR (op_eq) (pe_op (op_mod) (pv 1) pe_int) pe_int (nomark _)) (pss_one (ps_ret (pe_tup (pa_cons (pv 2) (pa_cons (pv 3) (pa_cons (pe_op (op_add) (pv 4) pe_int) (pa_cons (pv 5) pa_nil))))))) pss_nil)
      (pss_one (ps_ret (pe_tup (pa_cons (pv 2) (pa_cons (pv 3) (pa_cons (pv 4) (pa_cons (pe_op (op_add) (pv 5) pe_int) pa_nil)))))))))), ?_⟩
    have hn := (hx.up (m' := 200) (k' := 400) (by decide) (by decide))
    have b1 : Bits 64 (1 : Int) := bits_of (by decide +kernel)
    have r0 := hx.r0
    have s0 := hx.s0
    refine ⟨_, rfl, x, _, rfl, SqT.of hx.at_, rfl, _, _, rfl, _, _, rfl, _, _, rfl, _, _, rfl, rfl, ?_⟩
    refine ⟨_, rfl, _, _, rfl, rfl, (by show (0 : Int) < 3; decide), rfl, _, rfl, ?_⟩
    refine ite2 (fun c => ?_) (fun c => ?_)
    · refine ⟨_, rfl, _, _, rfl, rfl, _, rfl, _, rfl, _, rfl, small10 (by show 4 ≤ 1000; decide), fun l hl => ?_⟩
      exact q l _ _ _ _ _ (same_new hl _) ⟨upd_same, (hx.bp.add b1).mono (by decide), hn.bq, hn.br, hn.bs, r0, s0⟩
    · refine ⟨_, rfl, _, _, rfl, rfl, (by show (0 : Int) < 3; decide), rfl, _, rfl, ?_⟩
      refine ite2 (fun d => ?_) (fun d => ?_)
      · refine ⟨_, rfl, _, rfl, _, rfl, _, _, rfl, rfl, _, rfl, small10 (by show 4 ≤ 1000; decide), fun l hl => ?_⟩
        exact q l _ _ _ _ _ (same_new hl _) ⟨upd_same, hn.bp, hn.bq, (hx.br.add b1).mono (by decide), hn.bs, by omega, s0⟩
      · refine ⟨_, rfl, _, rfl, _, rfl, _, rfl, _, _, rfl, rfl, small10 (by show 4 ≤ 1000; decide), fun l hl => ?_⟩
        exact q l _ _ _ _ _ (same_new hl _) ⟨upd_same, hn.bp, hn.bq, hn.br, (hx.bs.add b1).mono (by decide), r0, by omega⟩
theorem sc__law_read : FnScope ["_law_cell_here", "_law_size", "_law_p", "_law_q"] ["_law_cell_here"] (defScope st__law_read) := ⟨rfl, rfl, rfl, by decide +kernel, rfl, by decide +kernel, by decide +kernel⟩
set_option maxHeartbeats 4000000 in
theorem ok__law_read (h : Has K mg "_law_read" st__law_read ["_law_cell_here"]) (B : Bl mg) (F_law_signed : Ok P w K mg base 1 "_law_signed" ["_law_number", "_law_most"] sp__law_signed) : Ok P w K mg base 2 "_law_read" ["_law_cell_here"] sp__law_read := by
  refine h.fn sc__law_read (fun vs H Q E h => ?_) (fun f cdv A outer s H vs Q E hr h => ?_)
  · obtain ⟨n, rfl, _⟩ := h
    rfl
  · have hu16 := hu16_of hr
    have hu9 := hu9_of hr
    obtain ⟨n, rfl, q⟩ := h
    refine ⟨_, (pss_cons (ps_set (i := 1) sc__law_read.nd rfl (Or.inl rfl) (pe_ix ix_list (pe_lst (pa_cons pe_int (pa_cons pe_int (pa_cons (pe_powc (c := 1000000) (by decide +kernel)) (pa_cons (pe_powc (c := 1000000000000) (by decide +kernel)) (pa_cons (pe_powc (c := 10000000000000000000000000000) (by decide +kernel)) pa_nil)))))) (pe_op (op_mod) (pv 0) pe_int) (fun _ _ => rfl)))
      (pss_cons (ps_set (i := 0) sc__law_read.nd rfl (Or.inl rfl) (pe_op (op_fdivB) (pv 0) pe_int))
      (pss_cons (ps_set (i := 2) sc__law_read.nd rfl (Or.inl rfl) (pe_callN F_law_signed (hr.mono (by decide)) rfl (pa_cons (pv 0) (pa_cons (pv 1) pa_nil))))
      (pss_cons (ps_set (i := 0) sc__law_read.nd rfl (Or.inl rfl) (pe_op (op_fdivB) (pv 0) (pe_op (op_add) (pe_op (op_mulB) pe_int (pv 1)) pe_int)))
      (pss_cons (ps_set (i := 3) sc__law_read.nd rfl (Or.inl rfl) (pe_callN F_law_signed (hr.mono (by decide)) rfl (pa_cons (pv 0) (pa_cons (pv 1) pa_nil))))
      (pss_cons (ps_set (i := 0) sc__law_read.nd rfl (Or.inl rfl) (pe_op (op_fdivB) (pv 0) (pe_op (op_add) (pe_op (op_mulB) pe_int (pv 1)) pe_int)))
      (pss_one (ps_ret (pe_tup (pa_cons (pv 2) (pa_cons (pv 3) (pa_cons (pe_op (op_mod) (pv 0) (pe_op (op_add) (pv 1) pe_int)) (pa_cons (pe_op (op_add) pe_int (pe_op (op_mod) (pe_op (op_fdivB) (pv 0) (pe_op (op_add) (pv 1) pe_int)) (pv 1))) pa_nil))))))))))))), ?_⟩
    have w0 : 0 ≤ n % 5 := Int.emod_nonneg _ (by decide)
    have w1 : n % 5 < 5 := Int.emod_lt_of_pos _ (by decide)
    obtain ⟨z, hz, hm⟩ := pickL [3, 60, 1000000, 1000000000000, 10000000000000000000000000000] (k := n % 5) w0 (by show n % 5 < 5; omega)
    obtain ⟨z0, z1⟩ := in5 hm
    refine ⟨small10 (by show 5 ≤ 1000; decide), fun l hl => ?_⟩
    refine ⟨_, rfl, _, _, rfl, rfl, (by show (0 : Int) < 5; decide), l, _, _, _, rfl, rfl, SqL.of upd_same, hz, ?_⟩
    have bz : Bits 100 z := b28 (b := z) z1 (by omega) (by omega)
    have b2 : Bits 64 (2 : Int) := bits_of (by decide +kernel)
    have b1 : Bits 64 (1 : Int) := bits_of (by decide +kernel)
    have bd : Bits 9000 (2 * z + 1) := ((b2.mul bz).add b1).mono (by decide)
    have be : Bits 9000 (z + 1) := (bz.add b1).mono (by decide)
    refine ⟨_, rfl, _, _, rfl, rfl, ⟨by decide, bits_of (by decide +kernel)⟩, ?_⟩
    refine ⟨_, rfl, _, rfl, _, _, rfl, (by omega), bz.mono (by decide), fun u u0 u1 => ?_⟩
    refine ⟨_, rfl, _, rfl, _, _, rfl, rfl, .of_left b2, _, _, rfl, rfl, _, _, rfl, rfl, ⟨by omega, bd⟩, ?_⟩
    refine ⟨_, rfl, _, rfl, _, _, rfl, (by omega), bz.mono (by decide), fun v v0 v1 => ?_⟩
    refine ⟨_, rfl, _, rfl, _, _, rfl, rfl, .of_left b2, _, _, rfl, rfl, _, _, rfl, rfl, ⟨by omega, bd⟩, ?_⟩
    refine ⟨_, rfl, _, rfl, _, rfl, _, rfl, _, _, rfl, rfl, _, _, rfl, rfl, (by show (0 : Int) < z + 1; omega), _, rfl, _, rfl, _, _, rfl, rfl, _, _, rfl, rfl, ⟨by omega, be⟩, _, rfl, _, _, rfl, rfl, (by show (0 : Int) < z; omega), _, _, rfl, rfl, small10 (by show 4 ≤ 1000; decide), fun p hp => ?_⟩
    have r0 : 0 ≤ n / 5 / (2 * z + 1) / (2 * z + 1) % (z + 1) := Int.emod_nonneg _ (by omega)
    have r1 : n / 5 / (2 * z + 1) / (2 * z + 1) % (z + 1) < z + 1 := Int.emod_lt_of_pos _ (by omega)
    have t0 : 0 ≤ n / 5 / (2 * z + 1) / (2 * z + 1) / (z + 1) % z := Int.emod_nonneg _ (by omega)
    have t1 : n / 5 / (2 * z + 1) / (2 * z + 1) / (z + 1) % z < z := Int.emod_lt_of_pos _ (by omega)
    exact q p u v _ _ _ ((same_new hl _).trans (same_new hp _)) ⟨upd_same, (b28 z1 u0 (by omega)).mono (by decide), (b28 z1 v0 (by omega)).mono (by decide), (b28 z1 (by omega) (by omega)).mono (by decide), (b28 z1 (by omega) (by omega)).mono (by decide), r0, by omega⟩
theorem sc__law_numbers : FnScope ["_law_script", "_law_start", "_law_end", "_law_found", "_law_base_here", "_law_k", "_law_number", "_law_way"] ["_law_script", "_law_start", "_law_end"] (defScope st__law_numbers) := ⟨rfl, rfl, rfl, by decide +kernel, rfl, by decide +kernel, by decide +kernel⟩
set_option maxHeartbeats 4000000 in
theorem ok__law_numbers (h : Has K mg "_law_numbers" st__law_numbers ["_law_script", "_law_start", "_law_end"]) (B : Bl mg) (F_law_again : Ok P w K mg base 1 "_law_again" ["_law_one", "_law_number"] sp__law_again) (F_law_base : Ok P w K mg base 2 "_law_base" ["_law_number"] sp__law_base) (F_law_by_digits : Ok P w K mg base 1 "_law_by_digits" ["_law_script"] (sp__law_by_digits K)) (F_law_cell : Ok P w K mg base 1 "_law_cell" ["_law_script", "_law_k"] (sp__law_cell K)) (F_law_near : Ok P w K mg base 1 "_law_near" ["_law_one", "_law_number"] sp__law_near) (F_law_read : Ok P w K mg base 2 "_law_read" ["_law_cell_here"] sp__law_read) : Ok P w K mg base 3 "_law_numbers" ["_law_script", "_law_start", "_law_end"] (sp__law_numbers K) := by
  refine h.fn sc__law_numbers (fun vs H Q E h => ?_) (fun f cdv A outer s H vs Q E hr h => ?_)
  · obtain ⟨a, ns, en, rfl, _⟩ := h
    rfl
  · have hu16 := hu16_of hr
    have hu9 := hu9_of hr
    obtain ⟨a, ns, en, rfl, hS, hb, hlen, e0, e1, q⟩ := h
    refine ⟨_, (pss_cons (ps_set (i := 3) sc__law_numbers.nd rfl (Or.inl rfl) (pe_lst pa_nil))
      (pss_cons (ps_set (i := 4) sc__law_numbers.nd rfl (Or.inl rfl) (pe_tup (pa_cons pe_int (pa_cons pe_int (pa_cons pe_int (pa_cons pe_int pa_nil))))))
      (pss_cons (ps_for PassesOwn.never rfl (pi_range2 rfl B.range_ (pa_cons (pv 1) (pa_cons (pe_callB (call_min2 rfl) rfl B.min_ bt_min (pa_cons (pv 2) (pa_cons (pe_callB (call_len_seq) rfl B.len_ bt_len (pa_cons (pv 0) pa_nil)) pa_nil))) pa_nil))) (pg_name (i := 5) sc__law_numbers.nd rfl (Or.inl rfl)) (pss_cons (ps_set (i := 6) sc__law_numbers.nd rfl (Or.inl rfl) (pe_callN F_law_cell (hr.mono (by decide)) rfl (pa_cons (pv 0) (pa_cons (pv 5) pa_nil))))
      (pss_cons (ps_set (i := 7) sc__law_numbers.nd rfl (Or.inl rfl) (pe_op (op_mod) (pv 6) pe_int))
      (pss_one (ps_if (pt_val (pe_callN F_law_by_digits (hr.mono (by decide)) rfl (pa_cons (pv 0) pa_nil))) (pss_one (ps_expr (pe_bm PySem.F.plainAttrs_list PySem.F.slot_list_append PySem.F.type_list_append mt_append (pv 3) (pa_cons (pe_callN F_law_read (hr.mono (by decide)) rfl (pa_cons (pe_ix ix_list (pv 0) (pv 5) (fun _ _ => rfl)) pa_nil)) pa_nil)))) (pss_one (ps_if (pt_cmpR (op_eq) (pv 7) pe_int (nomark _)) (pss_one (ps_expr (pe_bm PySem.F.plainAttrs_list PySem.F.slot_list_append PySem.F.type_list_append mt_append (pv 3) (pa_cons (pe_callN F_law_again (hr.mono (by decide)) rfl (pa_cons (pv 4) (pa_cons (pe_op (op_fdivB) (pv 6) pe_int) pa_nil))) pa_nil)))) (pss_one (ps_if (pt_cmpR (op_eq) (pv 7) pe_int (nomark _)) (pss_one (ps_expr (pe_bm PySem.F.plainAttrs_list PySem.F.slot_list_append PySem.F.type_list_append mt_append (pv 3) (pa_cons (pe_callN F_law_near (hr.mono (by decide)) rfl (pa_cons (pv 4) (pa_cons (pe_op (op_fdivB) (pv 6) pe_int) pa_nil))) pa_nil)))) (pss_cons (ps_set (i := 4) sc__law_numbers.nd rfl (Or.inl rfl) (pe_callN F_law_base (hr.mono (by decide)) rfl (pa_cons (pe_op (op_fdivB) (pv 6) pe_int) pa_nil)))
      (pss_one (ps_expr (pe_bm PySem.F.plainAttrs_list PySem.F.slot_list_append PySem.F.type_list_append mt_append (pv 3) (pa_cons (pv 4) pa_nil))))))))))))))
      (pss_one (ps_ret (pv 3)))))), ?_⟩
    have hl : ((ns.map V.int).length : Int) = (ns.length : Int) := by rw [List.length_map]
    refine ⟨small10 (by show 0 ≤ 1000; decide), fun l fl => ?_⟩
    refine ⟨small10 (by show 4 ≤ 1000; decide), fun b fb => ?_⟩
    have sl : Same H (upd H l (.lst [])) := same_new fl _
    have sb := same_new fb (.tup [.int 0, .int 0, .int 0, .int 1])
    refine ⟨_, rfl, _, rfl, _, rfl, a, _, rfl, .inl ((sl.trans sb).seq hS), _, _, rfl, _, _, rfl, ⟨by decide, by decide, (by rw [hl]; split <;> omega), (by rw [hl]; split <;> omega)⟩,
      for_range (fun i σ H2 => ∃ (x5 x6 x7 : Option V) (ps : List Addr) (b : Addr) (p q r s : Int), σ = [some (.ref a), some (.int 0), some (.int en), some (.ref l), some (.ref b), x5, x6, x7] ∧ Nums H H2 l ps ∧ ps.length = i ∧ BaseAt H2 b p q r s)
      ⟨none, none, none, [], b, 0, 0, 0, 1, rfl, ⟨sl.trans sb, fl, sb _ _ upd_same, fun y hy => absurd hy (by simp)⟩, rfl, ⟨upd_same, bits_of (by decide), bits_of (by decide), bits_of (by decide), bits_of (by decide), by decide, by decide⟩⟩ ?_ ?_⟩
    · rintro i σ H2 hi ⟨x5, x6, x7, ps, b, p, q', r, s', rfl, N, hpl, hbase⟩
      have hi2 : (i : Int) < (ns.length : Int) ∧ (i : Int) < en := by
        rw [hl] at hi
        split at hi <;> omega
      have hS2 := N.same.seq hS
      refine ⟨_, rfl, _, rfl, a, ns, _, rfl, hS2, (by omega), hb, fun z z0 z1 => ?_⟩
      refine ⟨_, rfl, _, _, rfl, rfl, (by show (0 : Int) < 5; decide), ?_⟩
      refine ⟨_, rfl, a, ns, rfl, hS2, fun by_ => ⟨by_, rfl, ?_⟩⟩
      refine ite2 (fun c => ?_) (fun c => ?_)
      · obtain ⟨y, hy⟩ := item_at (ns := ns) (k := 0 + (i : Int)) (by omega) (by omega)
        refine ⟨_, rfl, .inl ⟨rfl, _, SqL.of N.lst⟩, _, rfl, _, rfl, a, _, _, _, rfl, rfl, hS2, hy, y, rfl, fun x p2 q2 r2 t2 H3 s3 hx => ?_⟩
        refine ⟨l, _, _, rfl, rfl, s3 _ _ N.lst, (by rw [List.length_map, hpl]; exact small1000 (by omega)), ?_⟩
        exact ⟨_, _, _, ps ++ [x], b, p, q', r, s', rfl, N.more s3 hx, (by rw [List.length_append, hpl]; rfl), (hbase.same s3).upd (s3 _ _ N.lst)⟩
      · refine ⟨_, rfl, rfl, _, rfl, ?_⟩
        refine ite2 (fun c => ?_) (fun c => ?_)
        · refine ⟨_, rfl, .inl ⟨rfl, _, SqL.of N.lst⟩, _, rfl, _, rfl, _, _, rfl, rfl, ⟨by decide, bits_of (by decide +kernel)⟩, b, p, q', r, s', _, rfl, hbase, fun x p2 q2 r2 t2 H3 s3 hx => ?_⟩
          refine ⟨l, _, _, rfl, rfl, s3 _ _ N.lst, (by rw [List.length_map, hpl]; exact small1000 (by omega)), ?_⟩
          exact ⟨_, _, _, ps ++ [x], b, p, q', r, s', rfl, N.more s3 hx, (by rw [List.length_append, hpl]; rfl), (hbase.same s3).upd (s3 _ _ N.lst)⟩
        · refine ⟨_, rfl, rfl, _, rfl, ?_⟩
          refine ite2 (fun c => ?_) (fun c => ?_)
          · refine ⟨_, rfl, .inl ⟨rfl, _, SqL.of N.lst⟩, _, rfl, _, rfl, _, _, rfl, rfl, ⟨by decide, bits_of (by decide +kernel)⟩, b, p, q', r, s', _, rfl, hbase, fun x p2 q2 r2 t2 H3 s3 hx => ?_⟩
            refine ⟨l, _, _, rfl, rfl, s3 _ _ N.lst, (by rw [List.length_map, hpl]; exact small1000 (by omega)), ?_⟩
            exact ⟨_, _, _, ps ++ [x], b, p, q', r, s', rfl, N.more s3 hx, (by rw [List.length_append, hpl]; rfl), (hbase.same s3).upd (s3 _ _ N.lst)⟩
          · refine ⟨_, rfl, _, _, rfl, rfl, ⟨by decide, bits_of (by decide +kernel)⟩, _, rfl, fun x p2 q2 r2 t2 H3 s3 hx => ?_⟩
            refine ⟨_, rfl, .inl ⟨rfl, _, SqL.of (s3 _ _ N.lst)⟩, _, rfl, ?_⟩
            refine ⟨l, _, _, rfl, rfl, s3 _ _ N.lst, (by rw [List.length_map, hpl]; exact small1000 (by omega)), ?_⟩
            exact ⟨_, _, _, ps ++ [x], x, p2, q2, r2, t2, rfl, N.more s3 (hx.up (m' := 200) (k' := 400) (by decide) (by decide)), (by rw [List.length_append, hpl]; rfl), hx.upd (s3 _ _ N.lst)⟩
    · rintro σ H2 ⟨x5, x6, x7, ps, b, p, q', r, s', rfl, N, hpl, hbase⟩
      refine ⟨_, rfl, ?_⟩
      exact q l ps H2 N (by rw [hpl, hl]; split <;> omega)
theorem sc_law : FnScope ["_law_script", "_law_some", "_law_k", "_law_way"] ["_law_script"] (defScope st_law) := ⟨rfl, rfl, rfl, by decide +kernel, rfl, by decide +kernel, by decide +kernel⟩
set_option maxHeartbeats 4000000 in
theorem ok_law {f : Addr} {fd : FuncData} (h : Fun K "law" "law" st_law f fd) (B : Bl mg) (F_law_between : Ok P w K mg base 7 "_law_between" ["_law_one", "_law_other"] sp__law_between) (F_law_numbers : Ok P w K mg base 3 "_law_numbers" ["_law_script", "_law_start", "_law_end"] (sp__law_numbers K)) (F_law_order : Ok P w K mg base 3 "_law_order" ["_law_one", "_law_other"] sp__law_order) : FnOk P w K mg base CX0 8 f fd ["_law_script"] (spLaw K) := by
  refine h.ok sc_law (fun vs H Q E h => ?_) (fun cdv A outer s H vs Q E hr h => ?_)
  · obtain ⟨a, ns, rfl, _⟩ := h
    rfl
  · have hu16 := hu16_of hr
    have hu9 := hu9_of hr
    obtain ⟨a, ns, rfl, hS, hlen, hb, q⟩ := h
    refine ⟨_, (pss_cons (ps_set (i := 1) sc_law.nd rfl (Or.inl rfl) (pe_callN F_law_numbers (hr.mono (by decide)) rfl (pa_cons (pv 0) (pa_cons pe_int (pa_cons pe_int pa_nil)))))
      (pss_cons (ps_for PassesOwn.never rfl (pi_range2 rfl B.range_ (pa_cons pe_int (pa_cons (pe_callB (call_len_seq) rfl B.len_ bt_len (pa_cons (pv 1) pa_nil)) pa_nil))) (pg_name (i := 2) sc_law.nd rfl (Or.inl rfl)) (pss_cons (ps_set (i := 3) sc_law.nd rfl (Or.inl rfl) (pe_callN F_law_order (hr.mono (by decide)) rfl (pa_cons (pe_ix ix_list (pv 1) (pe_op (op_sub) (pv 2) pe_int) (fun _ _ => rfl)) (pa_cons (pe_ix ix_list (pv 1) (pv 2) (fun _ _ => rfl)) pa_nil))))
      (pss_cons (ps_if (PW.pt (pw_and (pt_cmpR (op_lt) (pv 3) pe_int (nomark _)) (pw_and1 (pt_not (pt_val (pe_callN F_law_between (hr.mono (by decide)) rfl (pa_cons (pe_ix ix_list (pv 1) (pe_op (op_sub) (pv 2) pe_int) (fun _ _ => rfl)) (pa_cons (pe_ix ix_list (pv 1) (pv 2) (fun _ _ => rfl)) pa_nil)))))))) (pss_one (ps_ret pe_bl)) pss_nil)
      (pss_one (ps_if (PW.pt (pw_and (pt_cmpR (op_gt) (pv 3) pe_int (nomark _)) (pw_and1 (pt_not (pt_val (pe_callN F_law_between (hr.mono (by decide)) rfl (pa_cons (pe_ix ix_list (pv 1) (pv 2) (fun _ _ => rfl)) (pa_cons (pe_ix ix_list (pv 1) (pe_op (op_sub) (pv 2) pe_int) (fun _ _ => rfl)) pa_nil)))))))) (pss_one (ps_ret pe_bl)) pss_nil)))))
      (pss_one (ps_ret pe_bl)))), ?_⟩
    refine ⟨_, rfl, a, ns, 9, rfl, hS, hb, hlen, by decide, by decide, fun l ps H1 N few => ?_⟩
    have hl : ((ps.map V.ref).length : Int) = (ps.length : Int) := by rw [List.length_map]
    refine ⟨_, rfl, l, _, rfl, .inl (SqL.of N.lst), _, _, rfl, ⟨by decide, by decide, (by rw [hl]; omega), (by rw [hl]; omega)⟩,
      for_range (fun i σ H2 => ∃ x2 x3 : Option V, σ = [some (.ref a), some (.ref l), x2, x3] ∧ Nums H H2 l ps) ⟨none, none, rfl, N⟩ ?_ ?_⟩
    · rintro i σ H2 hi ⟨x2, x3, rfl, N2⟩
      have hi2 : i + 1 < ps.length := by
        rw [hl] at hi
        omega
      have g1 : (ps.map V.ref)[i]? = some (V.ref ps[i]) := by rw [List.getElem?_map, List.getElem?_eq_getElem (by omega)]; rfl
      have g2 : (ps.map V.ref)[i + 1]? = some (V.ref ps[i + 1]) := by rw [List.getElem?_map, List.getElem?_eq_getElem (by omega)]; rfl
      obtain ⟨y, p, q', r, s', ey, hy⟩ := N2.at_ g1
      obtain ⟨z, a', b, t, d, ez, hz⟩ := N2.at_ g2
      rw [ey] at g1
      rw [ez] at g2
      have e1 : atI (ps.map V.ref) (1 + (i : Int) - 1) = some (V.ref y) := by
        rw [show 1 + (i : Int) - 1 = ((i : Nat) : Int) by omega]
        exact atI_nat g1
      have e2 : atI (ps.map V.ref) (1 + (i : Int)) = some (V.ref z) := by
        rw [show 1 + (i : Int) = ((i + 1 : Nat) : Int) by omega]
        exact atI_nat g2
      have hyN : NumAt H2 y p q' r s' := hy.up (by decide) (by decide)
      have hzN : NumAt H2 z a' b t d := hz.up (by decide) (by decide)
      refine ⟨_, rfl, _, rfl, _, _, rfl, rfl, l, _, _, _, rfl, rfl, SqL.of N2.lst, e1, _, rfl, _, rfl, l, _, _, _, rfl, rfl, SqL.of N2.lst, e2, y, z, p, q', r, s', a', b, t, d, rfl, hyN, hzN, ?_⟩
      refine ⟨_, rfl, _, _, rfl, rfl, _, rfl, ?_⟩
      refine ite2 (fun c => ?_) (fun c => ?_)
      · have c1 : M.sTwo (p * d - a' * s') (q' * d) r (-b * s') t < 0 := of_decide_eq_true c
        refine ⟨_, rfl, _, rfl, _, _, rfl, rfl, l, _, _, _, rfl, rfl, SqL.of N2.lst, e1, _, rfl, _, rfl, l, _, _, _, rfl, rfl, SqL.of N2.lst, e2, y, z, p, q', r, s', a', b, t, d, rfl, hy, hz, c1, fun H3 s3 => ⟨true, rfl, ?_⟩⟩
        refine iteF ?_
        refine ⟨_, rfl, _, _, rfl, rfl, _, rfl, ?_⟩
        refine ite2 (fun c2 => absurd (of_decide_eq_true c2) (by omega)) (fun _ => ?_)
        exact ⟨_, _, rfl, N2.mono s3⟩
      · refine ⟨_, rfl, _, _, rfl, rfl, _, rfl, ?_⟩
        refine ite2 (fun c2 => ?_) (fun _ => ?_)
        · have c1 : 0 < M.sTwo (p * d - a' * s') (q' * d) r (-b * s') t := of_decide_eq_true c2
          have c3 : M.sTwo (a' * s' - p * d) (b * s') t (-q' * d) r < 0 := by
            rw [order_opp hy.r0 hz.r0]
            omega
          refine ⟨_, rfl, _, rfl, l, _, _, _, rfl, rfl, SqL.of N2.lst, e2, _, rfl, _, rfl, _, _, rfl, rfl, l, _, _, _, rfl, rfl, SqL.of N2.lst, e1, z, y, a', b, t, d, p, q', r, s', rfl, hz, hy, c3, fun H3 s3 => ⟨true, rfl, ?_⟩⟩
          refine iteF ?_
          exact ⟨_, _, rfl, N2.mono s3⟩
        · exact ⟨_, _, rfl, N2⟩
    · rintro σ H2 ⟨x2, x3, rfl, N2⟩
      exact q H2
theorem all_ok {f : Addr} {fd : FuncData} (h0 : Has K mg "_law_is_number" st__law_is_number ["_law_found"]) (h1 : Has K mg "_law_sign" st__law_sign ["_law_u", "_law_v", "_law_r"]) (h2 : Has K mg "_law_sign_two" st__law_sign_two ["_law_u", "_law_v", "_law_r", "_law_w", "_law_t"]) (h3 : Has K mg "_law_order" st__law_order ["_law_one", "_law_other"]) (h4 : Has K mg "floor_of_root" st_floor_of_root ["number"]) (h5 : Has K mg "floor_of_root_part" st_floor_of_root_part ["q", "r"]) (h6 : Has K mg "floor_of" st_floor_of ["N"]) (h7 : Has K mg "next_above" st_next_above ["number", "parts"]) (h8 : Has K mg "sign" st_sign ["number"]) (h9 : Has K mg "sign_of_sum" st_sign_of_sum ["one", "other", "apart"]) (h10 : Has K mg "sign_one" st_sign_one ["u", "v", "r"]) (h11 : Has K mg "sign_two" st_sign_two ["u", "v", "r", "w", "t"]) (h12 : Has K mg "order" st_order ["one", "other"]) (h13 : Has K mg "fits_between" st_fits_between ["one", "other", "parts"]) (h14 : Has K mg "between" st_between ["one", "other"]) (h15 : Has K mg "_law_between" st__law_between ["_law_one", "_law_other"]) (h16 : Has K mg "_law_again" st__law_again ["_law_one", "_law_number"]) (h17 : Has K mg "_law_signed" st__law_signed ["_law_number", "_law_most"]) (h18 : Has K mg "_law_base" st__law_base ["_law_number"]) (h19 : Has K mg "_law_by_digits" st__law_by_digits ["_law_script"]) (h20 : Has K mg "_law_cell" st__law_cell ["_law_script", "_law_k"]) (h21 : Has K mg "_law_near" st__law_near ["_law_one", "_law_number"]) (h22 : Has K mg "_law_read" st__law_read ["_law_cell_here"]) (h23 : Has K mg "_law_numbers" st__law_numbers ["_law_script", "_law_start", "_law_end"]) (hl : Fun K "law" "law" st_law f fd) (B : Bl mg) : FnOk P w K mg base CX0 8 f fd ["_law_script"] (spLaw K) := by
  have F_law_is_number := ok__law_is_number (P := P) (w := w) (base := base) h0 B
  have F_law_sign := ok__law_sign (P := P) (w := w) (base := base) h1 B
  have F_law_sign_two := ok__law_sign_two (P := P) (w := w) (base := base) h2 B F_law_sign
  have F_law_order := ok__law_order (P := P) (w := w) (base := base) h3 B F_law_sign_two
  have Ffloor_of_root := ok_floor_of_root (P := P) (w := w) (base := base) h4 B
  have Ffloor_of_root_part := ok_floor_of_root_part (P := P) (w := w) (base := base) h5 B Ffloor_of_root
  have Ffloor_of := ok_floor_of (P := P) (w := w) (base := base) h6 B Ffloor_of_root_part
  have Fnext_above := ok_next_above (P := P) (w := w) (base := base) h7 B Ffloor_of
  have Fsign := ok_sign (P := P) (w := w) (base := base) h8 B
  have Fsign_of_sum := ok_sign_of_sum (P := P) (w := w) (base := base) h9 B
  have Fsign_one := ok_sign_one (P := P) (w := w) (base := base) h10 B Fsign Fsign_of_sum
  have Fsign_two := ok_sign_two (P := P) (w := w) (base := base) h11 B Fsign Fsign_of_sum Fsign_one
  have Forder := ok_order (P := P) (w := w) (base := base) h12 B Fsign_two
  have Ffits_between := ok_fits_between (P := P) (w := w) (base := base) h13 B Fnext_above Forder
  have Fbetween := ok_between (P := P) (w := w) (base := base) h14 B Ffits_between Fnext_above
  have F_law_between := ok__law_between (P := P) (w := w) (base := base) h15 B F_law_is_number F_law_order Fbetween
  have F_law_again := ok__law_again (P := P) (w := w) (base := base) h16 B
  have F_law_signed := ok__law_signed (P := P) (w := w) (base := base) h17 B
  have F_law_base := ok__law_base (P := P) (w := w) (base := base) h18 B F_law_signed
  have F_law_by_digits := ok__law_by_digits (P := P) (w := w) (base := base) h19 B
  have F_law_cell := ok__law_cell (P := P) (w := w) (base := base) h20 B
  have F_law_near := ok__law_near (P := P) (w := w) (base := base) h21 B
  have F_law_read := ok__law_read (P := P) (w := w) (base := base) h22 B F_law_signed
  have F_law_numbers := ok__law_numbers (P := P) (w := w) (base := base) h23 B F_law_again F_law_base F_law_by_digits F_law_cell F_law_near F_law_read
  exact ok_law hl B F_law_between F_law_numbers F_law_order
end
theorem all_mk {l : PySem.W.OpenLaw} {w : World} {K : PySem.W.Frag} {h : Heap} {mg : Str → Option Value} {fa f0 f1 f2 f3 f4 f5 f6 f7 f8 f9 f10 f11 f12 f13 f14 f15 f16 f17 f18 f19 f20 f21 f22 f23 f24 : Addr} (X : K.In h) (G : h.Ns mainGlobals mg) (hfa : mg "law" = some (.ref fa))
    {od0 an0 od1 an1 od2 an2 od3 an3 od4 an4 od5 an5 od6 an6 od7 an7 od8 an8 od9 an9 od10 an10 od11 an11 od12 an12 od13 an13 od14 an14 od15 an15 od16 an16 od17 an17 od18 an18 od19 an19 od20 an20 od21 an21 od22 an22 od23 an23 od24 an24 : Option Addr} {sl0 sl1 sl2 sl3 sl4 sl5 sl6 sl7 sl8 sl9 sl10 sl11 sl12 sl13 sl14 sl15 sl16 sl17 sl18 sl19 sl20 sl21 sl22 sl23 sl24 : Array (Option Value)} {oc0 kV0 dc0 pm0 cd0 ct0 oc1 kV1 dc1 pm1 cd1 ct1 oc2 kV2 dc2 pm2 cd2 ct2 oc3 kV3 dc3 pm3 cd3 ct3 oc4 kV4 dc4 pm4 cd4 ct4 oc5 kV5 dc5 pm5 cd5 ct5 oc6 kV6 dc6 pm6 cd6 ct6 oc7 kV7 dc7 pm7 cd7 ct7 oc8 kV8 dc8 pm8 cd8 ct8 oc9 kV9 dc9 pm9 cd9 ct9 oc10 kV10 dc10 pm10 cd10 ct10 oc11 kV11 dc11 pm11 cd11 ct11 oc12 kV12 dc12 pm12 cd12 ct12 oc13 kV13 dc13 pm13 cd13 ct13 oc14 kV14 dc14 pm14 cd14 ct14 oc15 kV15 dc15 pm15 cd15 ct15 oc16 kV16 dc16 pm16 cd16 ct16 oc17 kV17 dc17 pm17 cd17 ct17 oc18 kV18 dc18 pm18 cd18 ct18 oc19 kV19 dc19 pm19 cd19 ct19 oc20 kV20 dc20 pm20 cd20 ct20 oc21 kV21 dc21 pm21 cd21 ct21 oc22 kV22 dc22 pm22 cd22 ct22 oc23 kV23 dc23 pm23 cd23 ct23 oc24 kV24 dc24 pm24 cd24 ct24 : Value}
    (a0 : PySem.W.nsIn K mainGlobals "_law_is_number" = some (some (.ref f0))) (l0 : K.lookup f0 = some ⟨oc0, od0, .func (PySem.W.fnOf "_law_is_number" "_law_is_number" (defArgs st__law_is_number) (defBody st__law_is_number) (defScope st__law_is_number) .none kV0 dc0 pm0 an0 cd0 ct0), sl0⟩) (c0 : PySem.W.codeIn K cd0 "_law_is_number" = true) (k0 : PySem.W.keepIn K (.ref f0) = true)
    (a1 : PySem.W.nsIn K mainGlobals "_law_sign" = some (some (.ref f1))) (l1 : K.lookup f1 = some ⟨oc1, od1, .func (PySem.W.fnOf "_law_sign" "_law_sign" (defArgs st__law_sign) (defBody st__law_sign) (defScope st__law_sign) .none kV1 dc1 pm1 an1 cd1 ct1), sl1⟩) (c1 : PySem.W.codeIn K cd1 "_law_sign" = true) (k1 : PySem.W.keepIn K (.ref f1) = true)
    (a2 : PySem.W.nsIn K mainGlobals "_law_sign_two" = some (some (.ref f2))) (l2 : K.lookup f2 = some ⟨oc2, od2, .func (PySem.W.fnOf "_law_sign_two" "_law_sign_two" (defArgs st__law_sign_two) (defBody st__law_sign_two) (defScope st__law_sign_two) .none kV2 dc2 pm2 an2 cd2 ct2), sl2⟩) (c2 : PySem.W.codeIn K cd2 "_law_sign_two" = true) (k2 : PySem.W.keepIn K (.ref f2) = true)
    (a3 : PySem.W.nsIn K mainGlobals "_law_order" = some (some (.ref f3))) (l3 : K.lookup f3 = some ⟨oc3, od3, .func (PySem.W.fnOf "_law_order" "_law_order" (defArgs st__law_order) (defBody st__law_order) (defScope st__law_order) .none kV3 dc3 pm3 an3 cd3 ct3), sl3⟩) (c3 : PySem.W.codeIn K cd3 "_law_order" = true) (k3 : PySem.W.keepIn K (.ref f3) = true)
    (a4 : PySem.W.nsIn K mainGlobals "floor_of_root" = some (some (.ref f4))) (l4 : K.lookup f4 = some ⟨oc4, od4, .func (PySem.W.fnOf "floor_of_root" "floor_of_root" (defArgs st_floor_of_root) (defBody st_floor_of_root) (defScope st_floor_of_root) .none kV4 dc4 pm4 an4 cd4 ct4), sl4⟩) (c4 : PySem.W.codeIn K cd4 "floor_of_root" = true) (k4 : PySem.W.keepIn K (.ref f4) = true)
    (a5 : PySem.W.nsIn K mainGlobals "floor_of_root_part" = some (some (.ref f5))) (l5 : K.lookup f5 = some ⟨oc5, od5, .func (PySem.W.fnOf "floor_of_root_part" "floor_of_root_part" (defArgs st_floor_of_root_part) (defBody st_floor_of_root_part) (defScope st_floor_of_root_part) .none kV5 dc5 pm5 an5 cd5 ct5), sl5⟩) (c5 : PySem.W.codeIn K cd5 "floor_of_root_part" = true) (k5 : PySem.W.keepIn K (.ref f5) = true)
    (a6 : PySem.W.nsIn K mainGlobals "floor_of" = some (some (.ref f6))) (l6 : K.lookup f6 = some ⟨oc6, od6, .func (PySem.W.fnOf "floor_of" "floor_of" (defArgs st_floor_of) (defBody st_floor_of) (defScope st_floor_of) .none kV6 dc6 pm6 an6 cd6 ct6), sl6⟩) (c6 : PySem.W.codeIn K cd6 "floor_of" = true) (k6 : PySem.W.keepIn K (.ref f6) = true)
    (a7 : PySem.W.nsIn K mainGlobals "next_above" = some (some (.ref f7))) (l7 : K.lookup f7 = some ⟨oc7, od7, .func (PySem.W.fnOf "next_above" "next_above" (defArgs st_next_above) (defBody st_next_above) (defScope st_next_above) .none kV7 dc7 pm7 an7 cd7 ct7), sl7⟩) (c7 : PySem.W.codeIn K cd7 "next_above" = true) (k7 : PySem.W.keepIn K (.ref f7) = true)
    (a8 : PySem.W.nsIn K mainGlobals "sign" = some (some (.ref f8))) (l8 : K.lookup f8 = some ⟨oc8, od8, .func (PySem.W.fnOf "sign" "sign" (defArgs st_sign) (defBody st_sign) (defScope st_sign) .none kV8 dc8 pm8 an8 cd8 ct8), sl8⟩) (c8 : PySem.W.codeIn K cd8 "sign" = true) (k8 : PySem.W.keepIn K (.ref f8) = true)
    (a9 : PySem.W.nsIn K mainGlobals "sign_of_sum" = some (some (.ref f9))) (l9 : K.lookup f9 = some ⟨oc9, od9, .func (PySem.W.fnOf "sign_of_sum" "sign_of_sum" (defArgs st_sign_of_sum) (defBody st_sign_of_sum) (defScope st_sign_of_sum) .none kV9 dc9 pm9 an9 cd9 ct9), sl9⟩) (c9 : PySem.W.codeIn K cd9 "sign_of_sum" = true) (k9 : PySem.W.keepIn K (.ref f9) = true)
    (a10 : PySem.W.nsIn K mainGlobals "sign_one" = some (some (.ref f10))) (l10 : K.lookup f10 = some ⟨oc10, od10, .func (PySem.W.fnOf "sign_one" "sign_one" (defArgs st_sign_one) (defBody st_sign_one) (defScope st_sign_one) .none kV10 dc10 pm10 an10 cd10 ct10), sl10⟩) (c10 : PySem.W.codeIn K cd10 "sign_one" = true) (k10 : PySem.W.keepIn K (.ref f10) = true)
    (a11 : PySem.W.nsIn K mainGlobals "sign_two" = some (some (.ref f11))) (l11 : K.lookup f11 = some ⟨oc11, od11, .func (PySem.W.fnOf "sign_two" "sign_two" (defArgs st_sign_two) (defBody st_sign_two) (defScope st_sign_two) .none kV11 dc11 pm11 an11 cd11 ct11), sl11⟩) (c11 : PySem.W.codeIn K cd11 "sign_two" = true) (k11 : PySem.W.keepIn K (.ref f11) = true)
    (a12 : PySem.W.nsIn K mainGlobals "order" = some (some (.ref f12))) (l12 : K.lookup f12 = some ⟨oc12, od12, .func (PySem.W.fnOf "order" "order" (defArgs st_order) (defBody st_order) (defScope st_order) .none kV12 dc12 pm12 an12 cd12 ct12), sl12⟩) (c12 : PySem.W.codeIn K cd12 "order" = true) (k12 : PySem.W.keepIn K (.ref f12) = true)
    (a13 : PySem.W.nsIn K mainGlobals "fits_between" = some (some (.ref f13))) (l13 : K.lookup f13 = some ⟨oc13, od13, .func (PySem.W.fnOf "fits_between" "fits_between" (defArgs st_fits_between) (defBody st_fits_between) (defScope st_fits_between) .none kV13 dc13 pm13 an13 cd13 ct13), sl13⟩) (c13 : PySem.W.codeIn K cd13 "fits_between" = true) (k13 : PySem.W.keepIn K (.ref f13) = true)
    (a14 : PySem.W.nsIn K mainGlobals "between" = some (some (.ref f14))) (l14 : K.lookup f14 = some ⟨oc14, od14, .func (PySem.W.fnOf "between" "between" (defArgs st_between) (defBody st_between) (defScope st_between) .none kV14 dc14 pm14 an14 cd14 ct14), sl14⟩) (c14 : PySem.W.codeIn K cd14 "between" = true) (k14 : PySem.W.keepIn K (.ref f14) = true)
    (a15 : PySem.W.nsIn K mainGlobals "_law_between" = some (some (.ref f15))) (l15 : K.lookup f15 = some ⟨oc15, od15, .func (PySem.W.fnOf "_law_between" "_law_between" (defArgs st__law_between) (defBody st__law_between) (defScope st__law_between) .none kV15 dc15 pm15 an15 cd15 ct15), sl15⟩) (c15 : PySem.W.codeIn K cd15 "_law_between" = true) (k15 : PySem.W.keepIn K (.ref f15) = true)
    (a16 : PySem.W.nsIn K mainGlobals "_law_again" = some (some (.ref f16))) (l16 : K.lookup f16 = some ⟨oc16, od16, .func (PySem.W.fnOf "_law_again" "_law_again" (defArgs st__law_again) (defBody st__law_again) (defScope st__law_again) .none kV16 dc16 pm16 an16 cd16 ct16), sl16⟩) (c16 : PySem.W.codeIn K cd16 "_law_again" = true) (k16 : PySem.W.keepIn K (.ref f16) = true)
    (a17 : PySem.W.nsIn K mainGlobals "_law_signed" = some (some (.ref f17))) (l17 : K.lookup f17 = some ⟨oc17, od17, .func (PySem.W.fnOf "_law_signed" "_law_signed" (defArgs st__law_signed) (defBody st__law_signed) (defScope st__law_signed) .none kV17 dc17 pm17 an17 cd17 ct17), sl17⟩) (c17 : PySem.W.codeIn K cd17 "_law_signed" = true) (k17 : PySem.W.keepIn K (.ref f17) = true)
    (a18 : PySem.W.nsIn K mainGlobals "_law_base" = some (some (.ref f18))) (l18 : K.lookup f18 = some ⟨oc18, od18, .func (PySem.W.fnOf "_law_base" "_law_base" (defArgs st__law_base) (defBody st__law_base) (defScope st__law_base) .none kV18 dc18 pm18 an18 cd18 ct18), sl18⟩) (c18 : PySem.W.codeIn K cd18 "_law_base" = true) (k18 : PySem.W.keepIn K (.ref f18) = true)
    (a19 : PySem.W.nsIn K mainGlobals "_law_by_digits" = some (some (.ref f19))) (l19 : K.lookup f19 = some ⟨oc19, od19, .func (PySem.W.fnOf "_law_by_digits" "_law_by_digits" (defArgs st__law_by_digits) (defBody st__law_by_digits) (defScope st__law_by_digits) .none kV19 dc19 pm19 an19 cd19 ct19), sl19⟩) (c19 : PySem.W.codeIn K cd19 "_law_by_digits" = true) (k19 : PySem.W.keepIn K (.ref f19) = true)
    (a20 : PySem.W.nsIn K mainGlobals "_law_cell" = some (some (.ref f20))) (l20 : K.lookup f20 = some ⟨oc20, od20, .func (PySem.W.fnOf "_law_cell" "_law_cell" (defArgs st__law_cell) (defBody st__law_cell) (defScope st__law_cell) .none kV20 dc20 pm20 an20 cd20 ct20), sl20⟩) (c20 : PySem.W.codeIn K cd20 "_law_cell" = true) (k20 : PySem.W.keepIn K (.ref f20) = true)
    (a21 : PySem.W.nsIn K mainGlobals "_law_near" = some (some (.ref f21))) (l21 : K.lookup f21 = some ⟨oc21, od21, .func (PySem.W.fnOf "_law_near" "_law_near" (defArgs st__law_near) (defBody st__law_near) (defScope st__law_near) .none kV21 dc21 pm21 an21 cd21 ct21), sl21⟩) (c21 : PySem.W.codeIn K cd21 "_law_near" = true) (k21 : PySem.W.keepIn K (.ref f21) = true)
    (a22 : PySem.W.nsIn K mainGlobals "_law_read" = some (some (.ref f22))) (l22 : K.lookup f22 = some ⟨oc22, od22, .func (PySem.W.fnOf "_law_read" "_law_read" (defArgs st__law_read) (defBody st__law_read) (defScope st__law_read) .none kV22 dc22 pm22 an22 cd22 ct22), sl22⟩) (c22 : PySem.W.codeIn K cd22 "_law_read" = true) (k22 : PySem.W.keepIn K (.ref f22) = true)
    (a23 : PySem.W.nsIn K mainGlobals "_law_numbers" = some (some (.ref f23))) (l23 : K.lookup f23 = some ⟨oc23, od23, .func (PySem.W.fnOf "_law_numbers" "_law_numbers" (defArgs st__law_numbers) (defBody st__law_numbers) (defScope st__law_numbers) .none kV23 dc23 pm23 an23 cd23 ct23), sl23⟩) (c23 : PySem.W.codeIn K cd23 "_law_numbers" = true) (k23 : PySem.W.keepIn K (.ref f23) = true)
    (a24 : PySem.W.nsIn K mainGlobals "law" = some (some (.ref f24))) (l24 : K.lookup f24 = some ⟨oc24, od24, .func (PySem.W.fnOf "law" "law" (defArgs st_law) (defBody st_law) (defScope st_law) .none kV24 dc24 pm24 an24 cd24 ct24), sl24⟩) (c24 : PySem.W.codeIn K cd24 "law" = true) (k24 : PySem.W.keepIn K (.ref f24) = true)
    (z0 : PySem.W.nsIn K mainGlobals "len" = some none)
    (z1 : PySem.W.nsIn K mainGlobals "max" = some none)
    (z2 : PySem.W.nsIn K mainGlobals "min" = some none)
    (z3 : PySem.W.nsIn K mainGlobals "isinstance" = some none)
    (z4 : PySem.W.nsIn K mainGlobals "int" = some none)
    (z5 : PySem.W.nsIn K mainGlobals "bool" = some none)
    (z6 : PySem.W.nsIn K mainGlobals "range" = some none)
    (z7 : PySem.W.nsIn K mainGlobals "sorted" = some none)
    (z8 : PySem.W.nsIn K mainGlobals "tuple" = some none)
    (z9 : PySem.W.nsIn K mainGlobals "list" = some none)
    (z10 : PySem.W.nsIn K mainGlobals "str" = some none)
    (z11 : PySem.W.nsIn K mainGlobals "dict" = some none)
    (z12 : PySem.W.nsIn K mainGlobals "abs" = some none)
    (z13 : PySem.W.nsIn K mainGlobals "enumerate" = some none)
    (z14 : PySem.W.nsIn K mainGlobals "reversed" = some none)
    (z15 : PySem.W.nsIn K mainGlobals "any" = some none)
    (z16 : PySem.W.nsIn K mainGlobals "all" = some none)
    (z17 : PySem.W.nsIn K mainGlobals "sum" = some none)
    (z18 : PySem.W.nsIn K mainGlobals "zip" = some none)
    : ∃ fd : FuncData, (∀ (s : Shared) (v : Value), BindsTo s fd ⟨[v], []⟩ [("_law_script", v)]) ∧ ∀ base : Heap, K.In base → base.Ns mainGlobals mg → FnOk l.prog w K mg base CX0 8 fa fd ["_law_script"] (spLaw K) := by
  have B : Bl mg := ⟨PySem.W.mg_none_of X G z0, PySem.W.mg_none_of X G z1, PySem.W.mg_none_of X G z2, PySem.W.mg_none_of X G z3, PySem.W.mg_none_of X G z4, PySem.W.mg_none_of X G z5, PySem.W.mg_none_of X G z6, PySem.W.mg_none_of X G z7, PySem.W.mg_none_of X G z8, PySem.W.mg_none_of X G z9, PySem.W.mg_none_of X G z10, PySem.W.mg_none_of X G z11, PySem.W.mg_none_of X G z12, PySem.W.mg_none_of X G z13, PySem.W.mg_none_of X G z14, PySem.W.mg_none_of X G z15, PySem.W.mg_none_of X G z16, PySem.W.mg_none_of X G z17, PySem.W.mg_none_of X G z18⟩
  have F0 := fun_mk (st := st__law_is_number) l0 c0 k0
  have b0 := F0.binds (ps := ["_law_found"]) fun _ _ _ _ _ _ us hl => match us, hl with | [_], _ => rfl
  have F1 := fun_mk (st := st__law_sign) l1 c1 k1
  have b1 := F1.binds (ps := ["_law_u", "_law_v", "_law_r"]) fun _ _ _ _ _ _ us hl => match us, hl with | [_, _, _], _ => rfl
  have F2 := fun_mk (st := st__law_sign_two) l2 c2 k2
  have b2 := F2.binds (ps := ["_law_u", "_law_v", "_law_r", "_law_w", "_law_t"]) fun _ _ _ _ _ _ us hl => match us, hl with | [_, _, _, _, _], _ => rfl
  have F3 := fun_mk (st := st__law_order) l3 c3 k3
  have b3 := F3.binds (ps := ["_law_one", "_law_other"]) fun _ _ _ _ _ _ us hl => match us, hl with | [_, _], _ => rfl
  have F4 := fun_mk (st := st_floor_of_root) l4 c4 k4
  have b4 := F4.binds (ps := ["number"]) fun _ _ _ _ _ _ us hl => match us, hl with | [_], _ => rfl
  have F5 := fun_mk (st := st_floor_of_root_part) l5 c5 k5
  have b5 := F5.binds (ps := ["q", "r"]) fun _ _ _ _ _ _ us hl => match us, hl with | [_, _], _ => rfl
  have F6 := fun_mk (st := st_floor_of) l6 c6 k6
  have b6 := F6.binds (ps := ["N"]) fun _ _ _ _ _ _ us hl => match us, hl with | [_], _ => rfl
  have F7 := fun_mk (st := st_next_above) l7 c7 k7
  have b7 := F7.binds (ps := ["number", "parts"]) fun _ _ _ _ _ _ us hl => match us, hl with | [_, _], _ => rfl
  have F8 := fun_mk (st := st_sign) l8 c8 k8
  have b8 := F8.binds (ps := ["number"]) fun _ _ _ _ _ _ us hl => match us, hl with | [_], _ => rfl
  have F9 := fun_mk (st := st_sign_of_sum) l9 c9 k9
  have b9 := F9.binds (ps := ["one", "other", "apart"]) fun _ _ _ _ _ _ us hl => match us, hl with | [_, _, _], _ => rfl
  have F10 := fun_mk (st := st_sign_one) l10 c10 k10
  have b10 := F10.binds (ps := ["u", "v", "r"]) fun _ _ _ _ _ _ us hl => match us, hl with | [_, _, _], _ => rfl
  have F11 := fun_mk (st := st_sign_two) l11 c11 k11
  have b11 := F11.binds (ps := ["u", "v", "r", "w", "t"]) fun _ _ _ _ _ _ us hl => match us, hl with | [_, _, _, _, _], _ => rfl
  have F12 := fun_mk (st := st_order) l12 c12 k12
  have b12 := F12.binds (ps := ["one", "other"]) fun _ _ _ _ _ _ us hl => match us, hl with | [_, _], _ => rfl
  have F13 := fun_mk (st := st_fits_between) l13 c13 k13
  have b13 := F13.binds (ps := ["one", "other", "parts"]) fun _ _ _ _ _ _ us hl => match us, hl with | [_, _, _], _ => rfl
  have F14 := fun_mk (st := st_between) l14 c14 k14
  have b14 := F14.binds (ps := ["one", "other"]) fun _ _ _ _ _ _ us hl => match us, hl with | [_, _], _ => rfl
  have F15 := fun_mk (st := st__law_between) l15 c15 k15
  have b15 := F15.binds (ps := ["_law_one", "_law_other"]) fun _ _ _ _ _ _ us hl => match us, hl with | [_, _], _ => rfl
  have F16 := fun_mk (st := st__law_again) l16 c16 k16
  have b16 := F16.binds (ps := ["_law_one", "_law_number"]) fun _ _ _ _ _ _ us hl => match us, hl with | [_, _], _ => rfl
  have F17 := fun_mk (st := st__law_signed) l17 c17 k17
  have b17 := F17.binds (ps := ["_law_number", "_law_most"]) fun _ _ _ _ _ _ us hl => match us, hl with | [_, _], _ => rfl
  have F18 := fun_mk (st := st__law_base) l18 c18 k18
  have b18 := F18.binds (ps := ["_law_number"]) fun _ _ _ _ _ _ us hl => match us, hl with | [_], _ => rfl
  have F19 := fun_mk (st := st__law_by_digits) l19 c19 k19
  have b19 := F19.binds (ps := ["_law_script"]) fun _ _ _ _ _ _ us hl => match us, hl with | [_], _ => rfl
  have F20 := fun_mk (st := st__law_cell) l20 c20 k20
  have b20 := F20.binds (ps := ["_law_script", "_law_k"]) fun _ _ _ _ _ _ us hl => match us, hl with | [_, _], _ => rfl
  have F21 := fun_mk (st := st__law_near) l21 c21 k21
  have b21 := F21.binds (ps := ["_law_one", "_law_number"]) fun _ _ _ _ _ _ us hl => match us, hl with | [_, _], _ => rfl
  have F22 := fun_mk (st := st__law_read) l22 c22 k22
  have b22 := F22.binds (ps := ["_law_cell_here"]) fun _ _ _ _ _ _ us hl => match us, hl with | [_], _ => rfl
  have F23 := fun_mk (st := st__law_numbers) l23 c23 k23
  have b23 := F23.binds (ps := ["_law_script", "_law_start", "_law_end"]) fun _ _ _ _ _ _ us hl => match us, hl with | [_, _, _], _ => rfl
  have F24 := fun_mk (st := st_law) l24 c24 k24
  have b24 := F24.binds (ps := ["_law_script"]) fun _ _ _ _ _ _ us hl => match us, hl with | [_], _ => rfl
  have e := hfa.symm.trans (PySem.W.mg_of X G a24)
  cases e
  exact ⟨PySem.W.fnOf "law" "law" (defArgs st_law) (defBody st_law) (defScope st_law) .none kV24 dc24 pm24 an24 cd24 ct24, fun s v => .of_eq rfl, fun base XB _ => all_ok (P := l.prog) (w := w) (base := base) ⟨_, _, F0, b0, PySem.W.mg_of X G a0⟩ ⟨_, _, F1, b1, PySem.W.mg_of X G a1⟩ ⟨_, _, F2, b2, PySem.W.mg_of X G a2⟩ ⟨_, _, F3, b3, PySem.W.mg_of X G a3⟩ ⟨_, _, F4, b4, PySem.W.mg_of X G a4⟩ ⟨_, _, F5, b5, PySem.W.mg_of X G a5⟩ ⟨_, _, F6, b6, PySem.W.mg_of X G a6⟩ ⟨_, _, F7, b7, PySem.W.mg_of X G a7⟩ ⟨_, _, F8, b8, PySem.W.mg_of X G a8⟩ ⟨_, _, F9, b9, PySem.W.mg_of X G a9⟩ ⟨_, _, F10, b10, PySem.W.mg_of X G a10⟩ ⟨_, _, F11, b11, PySem.W.mg_of X G a11⟩ ⟨_, _, F12, b12, PySem.W.mg_of X G a12⟩ ⟨_, _, F13, b13, PySem.W.mg_of X G a13⟩ ⟨_, _, F14, b14, PySem.W.mg_of X G a14⟩ ⟨_, _, F15, b15, PySem.W.mg_of X G a15⟩ ⟨_, _, F16, b16, PySem.W.mg_of X G a16⟩ ⟨_, _, F17, b17, PySem.W.mg_of X G a17⟩ ⟨_, _, F18, b18, PySem.W.mg_of X G a18⟩ ⟨_, _, F19, b19, PySem.W.mg_of X G a19⟩ ⟨_, _, F20, b20, PySem.W.mg_of X G a20⟩ ⟨_, _, F21, b21, PySem.W.mg_of X G a21⟩ ⟨_, _, F22, b22, PySem.W.mg_of X G a22⟩ ⟨_, _, F23, b23, PySem.W.mg_of X G a23⟩ F24 B⟩
end Mine
open PySem PySem.W PyProof.Rows
set_option maxRecDepth 100000 in
set_option maxHeartbeats 0 in
theorem PySem.Challenge.cw_realsay_k43_a_fraction_between_holds : PySem.Challenge.rw_realsay_k43_a_fraction_between.Holds := by
  w_on; o_law; k_head; (case hw => w_witness2)
  k_fill
  refine L2.walk_ofB (l := PySem.Challenge.rw_realsay_k43_a_fraction_between) (k := 8) (x := "_law_script") rfl rfl ⟨rfl, by decide, by decide⟩ (fun w h Y => PySem.W.kIn_of Y) ?F
  case F =>
    intro w mg fa h KX G hmg
    refine' Mine.all_mk KX G hmg ?a0 ?l0 ?c0 ?k0 ?a1 ?l1 ?c1 ?k1 ?a2 ?l2 ?c2 ?k2 ?a3 ?l3 ?c3 ?k3 ?a4 ?l4 ?c4 ?k4 ?a5 ?l5 ?c5 ?k5 ?a6 ?l6 ?c6 ?k6 ?a7 ?l7 ?c7 ?k7 ?a8 ?l8 ?c8 ?k8 ?a9 ?l9 ?c9 ?k9 ?a10 ?l10 ?c10 ?k10 ?a11 ?l11 ?c11 ?k11 ?a12 ?l12 ?c12 ?k12 ?a13 ?l13 ?c13 ?k13 ?a14 ?l14 ?c14 ?k14 ?a15 ?l15 ?c15 ?k15 ?a16 ?l16 ?c16 ?k16 ?a17 ?l17 ?c17 ?k17 ?a18 ?l18 ?c18 ?k18 ?a19 ?l19 ?c19 ?k19 ?a20 ?l20 ?c20 ?k20 ?a21 ?l21 ?c21 ?k21 ?a22 ?l22 ?c22 ?k22 ?a23 ?l23 ?c23 ?k23 ?a24 ?l24 ?c24 ?k24 ?z0 ?z1 ?z2 ?z3 ?z4 ?z5 ?z6 ?z7 ?z8 ?z9 ?z10 ?z11 ?z12 ?z13 ?z14 ?z15 ?z16 ?z17 ?z18
    (case a0 => k_is)
    (case l0 => k_is)
    (case c0 => k_is)
    (case k0 => k_is)
    (case a1 => k_is)
    (case l1 => k_is)
    (case c1 => k_is)
    (case k1 => k_is)
    (case a2 => k_is)
    (case l2 => k_is)
    (case c2 => k_is)
    (case k2 => k_is)
    (case a3 => k_is)
    (case l3 => k_is)
    (case c3 => k_is)
    (case k3 => k_is)
    (case a4 => k_is)
    (case l4 => k_is)
    (case c4 => k_is)
    (case k4 => k_is)
    (case a5 => k_is)
    (case l5 => k_is)
    (case c5 => k_is)
    (case k5 => k_is)
    (case a6 => k_is)
    (case l6 => k_is)
    (case c6 => k_is)
    (case k6 => k_is)
    (case a7 => k_is)
    (case l7 => k_is)
    (case c7 => k_is)
    (case k7 => k_is)
    (case a8 => k_is)
    (case l8 => k_is)
    (case c8 => k_is)
    (case k8 => k_is)
    (case a9 => k_is)
    (case l9 => k_is)
    (case c9 => k_is)
    (case k9 => k_is)
    (case a10 => k_is)
    (case l10 => k_is)
    (case c10 => k_is)
    (case k10 => k_is)
    (case a11 => k_is)
    (case l11 => k_is)
    (case c11 => k_is)
    (case k11 => k_is)
    (case a12 => k_is)
    (case l12 => k_is)
    (case c12 => k_is)
    (case k12 => k_is)
    (case a13 => k_is)
    (case l13 => k_is)
    (case c13 => k_is)
    (case k13 => k_is)
    (case a14 => k_is)
    (case l14 => k_is)
    (case c14 => k_is)
    (case k14 => k_is)
    (case a15 => k_is)
    (case l15 => k_is)
    (case c15 => k_is)
    (case k15 => k_is)
    (case a16 => k_is)
    (case l16 => k_is)
    (case c16 => k_is)
    (case k16 => k_is)
    (case a17 => k_is)
    (case l17 => k_is)
    (case c17 => k_is)
    (case k17 => k_is)
    (case a18 => k_is)
    (case l18 => k_is)
    (case c18 => k_is)
    (case k18 => k_is)
    (case a19 => k_is)
    (case l19 => k_is)
    (case c19 => k_is)
    (case k19 => k_is)
    (case a20 => k_is)
    (case l20 => k_is)
    (case c20 => k_is)
    (case k20 => k_is)
    (case a21 => k_is)
    (case l21 => k_is)
    (case c21 => k_is)
    (case k21 => k_is)
    (case a22 => k_is)
    (case l22 => k_is)
    (case c22 => k_is)
    (case k22 => k_is)
    (case a23 => k_is)
    (case l23 => k_is)
    (case c23 => k_is)
    (case k23 => k_is)
    (case a24 => k_is)
    (case l24 => k_is)
    (case c24 => k_is)
    (case k24 => k_is)
    (case z0 => k_is)
    (case z1 => k_is)
    (case z2 => k_is)
    (case z3 => k_is)
    (case z4 => k_is)
    (case z5 => k_is)
    (case z6 => k_is)
    (case z7 => k_is)
    (case z8 => k_is)
    (case z9 => k_is)
    (case z10 => k_is)
    (case z11 => k_is)
    (case z12 => k_is)
    (case z13 => k_is)
    (case z14 => k_is)
    (case z15 => k_is)
    (case z16 => k_is)
    (case z17 => k_is)
    (case z18 => k_is)
